import PyProof.Rows.All
import Wide.All
import OpenK.AllK
import Wide.FinOn
import PyProof.EqAt
import PyProof.EqKinds
import PyProof.TupleCall
import Lean
import PyProof.ToksMono
import PyProof.StrCalls6
import PySem.Challenge.RW_shiftmeet_k84_worst_pair_grid
set_option Elab.async false
set_option linter.all false
set_option maxRecDepth 100000
namespace L2
open PySem PySem.Spec PyProof.Rows
noncomputable abbrev Key:=Sum Int Str
noncomputable def z5P:Key->Value->Bool
 | .inl k,v=>Value.isInt k v
 | .inr x,v=>Value.isStrOf x v
noncomputable def y3l (w:World):Key->Int
 | .inl k=>hashInt k
 | .inr x=>hashStr w x
theorem yM:∀ {k:Key} {v:Value},z5P k v=true->(∃i t,k=Sum.inl i/\v=Value.int i t)∨(∃x t,k=Sum.inr x/\v=Value.str x t)
 | .inl i,v,h=>by
  obtain⟨t,e⟩:=Value.isInt_shape (k:=i) (v:=v) h;exact .inl ⟨i,t,rfl,e⟩
 | .inr x,v,h=>by
  obtain⟨t,e⟩:=Value.isStrOf_shape (x:=x) (v:=v) h;exact .inr ⟨x,t,rfl,e⟩
theorem z6r (i:Int) (t:Tok):z5P (.inl i) (.int i t)=true:=by simp [z5P,Value.isInt]
theorem z6q (x:Str) (t:Tok):z5P (.inr x) (.str x t)=true:=by simp [z5P,Value.isStrOf]
theorem y1q (a b:Int):decide ((Sum.inl a:Key)=Sum.inl b)=(a == b):=by
 by_cases e:a=b
 ·subst e;simp
 ·have h:¬(Sum.inl a:Key)=Sum.inl b:=fun q=>e (Sum.inl.inj q);rw[decide_eq_false h];exact (beq_eq_false_iff_ne.mpr e).symm
theorem y1n (a b:Str):decide ((Sum.inr a:Key)=Sum.inr b)=decide (a=b):=by
 by_cases e:a=b
 ·subst e;simp
 ·have h:¬(Sum.inr a:Key)=Sum.inr b:=fun q=>e (Sum.inr.inj q);rw[decide_eq_false h,decide_eq_false e]
theorem y1p (a:Int) (b:Str):decide ((Sum.inl a:Key)=Sum.inr b)=false:=decide_eq_false (fun q=>nomatch q)
theorem y1o (a:Str) (b:Int):decide ((Sum.inr a:Key)=Sum.inl b)=false:=decide_eq_false (fun q=>nomatch q)
noncomputable def yK (prog:Program) (w:World):PySem.KeyKind prog w Key where
 is:=z5P
 hash:=y3l w
 inj:=fun v a b ha hb=>by
  rcases yM ha with⟨i,t,rfl,rfl⟩|⟨x,t,rfl,rfl⟩
  ·rcases yM hb with⟨j,u,rfl,e⟩|⟨y,u,rfl,e⟩
   ·injection e with e1 _;rw[e1]
   ·exact nomatch e
  ·rcases yM hb with⟨j,u,rfl,e⟩|⟨y,u,rfl,e⟩
   ·exact nomatch e
   ·injection e with e1 _;rw[e1]
 byValue:=fun k v h=>by
  rcases yM h with⟨i,t,rfl,rfl⟩|⟨x,t,rfl,rfl⟩ <;> rfl
 pyHash:=fun hv h=>by
  rcases yM hv with⟨i,t,rfl,rfl⟩|⟨x,t,rfl,rfl⟩
  ·exact wpAny_pyHash_int h
  ·exact wpAny_pyHash_str h
 eqBool:=fun hu hv h=>by
  rcases yM hu with⟨i,t,rfl,rfl⟩|⟨x,t,rfl,rfl⟩
  ·rcases yM hv with⟨j,u,rfl,rfl⟩|⟨y,u,rfl,rfl⟩
   ·rw[y1q] at h;exact wpAny_eqBool_int h
   ·rw[y1p] at h;exact SeqAt.EqAt.int_str i t y u _ _ _ _ h
  ·rcases yM hv with⟨j,u,rfl,rfl⟩|⟨y,u,rfl,rfl⟩
   ·rw[y1o] at h;exact SeqAt.EqAt.str_int x t j u _ _ _ _ h
   ·rw[y1n] at h;exact wpAny_eqBool_str h
 «strs»:=fun k x t v h=>by
  rcases yM h with⟨i,u,rfl,e⟩|⟨y,u,rfl,e⟩
  ·exact nomatch e
  ·injection e with e1 _;subst e1;cases v <;> rfl
theorem z3Q (prog:Program) (w:World) (i:Int) (t:Tok):(yK prog w).is (.inl i) (.int i t)=true:=z6r i t
theorem wv (prog:Program) (w:World) (x:Str) (t:Tok):(yK prog w).is (.inr x) (.str x t)=true:=z6q x t
inductive V where
 | non|bl (b:Bool)|int (i:Int)|str (x:Str)|byt (b:Array UInt8)|flt (b:UInt64)|ref (a:Addr)|ty (n:String)|stk (x:Str) (t:Tok)
 deriving DecidableEq
noncomputable def RelV:V->Value->Prop
 | .non,u=>u=Value.none
 | .bl b,u=>u=Value.bool b
 | .int i,u=>∃t,u=Value.int i t
 | .str x,u=>∃t,u=Value.str x t
 | .byt b,u=>∃t,u=Value.bytes b t
 | .flt b,u=>∃t,u=Value.float b t
 | .ref a,u=>u=Value.ref a
 | .ty n,u=>u=Value.type n
 | .stk _ _,_=>False
noncomputable def unS:V->V
 | .stk x _=>.str x
 | v=>v
noncomputable def RelL:V->Value->Prop
 | .stk x t,u=>u=Value.str x t
 | v,u=>RelV v u
theorem RelV.toL {v:V} {u:Value} (r:RelV v u):RelL v u:=by
 cases v <;> first|exact r|exact (show False from r).elim
theorem RelL.un {v:V} {u:Value} (r:RelL v u):RelV (unS v) u:=by
 cases v <;> first|exact r|exact⟨_,r⟩
noncomputable abbrev Vals:List V->List Value->Prop:=Paired RelV
theorem Vals.length {xs:List V} {us:List Value} (r:Vals xs us):xs.length=us.length:=Paired.length r
theorem Vals.get:∀ {xs:List V} {us:List Value} {i:Nat} {x:V},Vals xs us->xs[i]?=some x->∃u,us[i]?=some u/\RelV x u
 | _,_,_,_,.nil,e=>by simp at e
 | _,_,0,_,.cons r _,e=>by simp at e;subst e;exact⟨_,rfl,r⟩
 | _,_,i+1,x,.cons _ t,e=>by
  obtain⟨u,h1,h2⟩:=Vals.get (i:=i) (x:=x) t (by simpa using e);exact⟨u,by simpa using h1,h2⟩
theorem Vals.set {x:V} {u:Value} (r:RelV x u):∀ {xs:List V} {us:List Value} (i:Nat),Vals xs us->Vals (xs.set i x) (us.set i u)
 | _,_,_,.nil=>.nil
 | _,_,0,.cons _ t=>.cons r t
 | _,_,i+1,.cons q t=>.cons q (Vals.set r i t)
theorem Vals.append:∀ {xs ys:List V} {us ws:List Value},Vals xs us->Vals ys ws->Vals (xs++ys) (us++ws)
 | _,_,_,_,.nil,s=>s
 | _,_,_,_,.cons r t,s=>.cons r (Vals.append t s)
theorem Vals.take:∀ {xs:List V} {us:List Value} (n:Nat),Vals xs us->Vals (xs.take n) (us.take n)
 | _,_,0,_=>.nil
 | _,_,_+1,.nil=>.nil
 | _,_,n+1,.cons r t=>.cons r (Vals.take n t)
theorem Vals.drop:∀ {xs:List V} {us:List Value} (n:Nat),Vals xs us->Vals (xs.drop n) (us.drop n)
 | _,_,0,r=>r
 | _,_,_+1,.nil=>.nil
 | _,_,n+1,.cons _ t=>Vals.drop n t
theorem Vals.none_of:∀ {xs:List V} {us:List Value} {i:Nat},Vals xs us->xs[i]?=none->us[i]?=none:=fun {xs us i} r e=>by
 have h1:=r.length;have h2:xs.length<=i:=List.getElem?_eq_none_iff.mp e;exact List.getElem?_eq_none_iff.mpr (by omega)
noncomputable def RelO:Option V->Option Value->Prop
 | some v,some u=>RelV v u
 | none,none=>True
 | _,_=>False
noncomputable def KV {κ:Type}:List (κ×V)->List (κ×Value)->Prop:=Paired fun (p:κ×V) (q:κ×Value)=>p.1=q.1/\RelV p.2 q.2
noncomputable def kV:Key->V
 | .inl i=>.int i
 | .inr x=>.str x
inductive HO where
 | lst (xs:List V)
 | tup (xs:List V)
 | dK (kvs:List (Key×V))|dT (kvs:List (List Key×V))
 | set (S:Int->Bool) (n:Nat)
 | ins (C dx:Addr) (fs:List (Str×V))
 | own (x:Addr)
 | xd (fs:List (Str×V))
 | met (f x:Addr)
 | rng (lo hi:Int)
 | frz (o:Obj) (u:HO)
 | tbl (ps:Array Value)
 | ext (φ:Heap->Prop)
noncomputable abbrev Hp:=Addr->Option HO
noncomputable def upd (H:Hp) (a:Addr) (o:HO):Hp:=fun b=>if b=a then some o else H b
theorem zG {H:Hp} {a:Addr} {o:HO}:upd H a o a=some o:=by unfold upd;rw[if_pos rfl]
theorem za {H:Hp} {a b:Addr} {o:HO} (h:b≠a):upd H a o b=H b:=by unfold upd;rw[if_neg h]
theorem yw {H:Hp} {a b:Addr} {o u:HO} (h:H a=some o) (h':H b=some u) (d:o≠u):a≠b:=by
 intro e;subst e;rw[h] at h';exact d (Option.some.inj h')
theorem zd {H:Hp} {a b:Addr} {o:HO} (h:H a=some o) (h':H b=none):a≠b:=by
 intro e;subst e;rw[h] at h';cases h'
section
variable (P:Program) (w:World)
noncomputable def ObjOk (H:Hp) (h:Heap) (a:Addr):HO->Prop
 | .lst xs=>xs.length<=sizeLine/\∃(its:List Value) (n:Nat),Vals xs its/\h.get? a=some { cls:=.type "list",data:=.seq its.toArray n }
 | .tup xs=>xs.length<=sizeLine/\∃its:List Value,Vals xs its/\IsTup h a its.toArray
 | .dK kvs=>kvs.length<=sizeLine/\(a == sysModules)=false/\∃vs,KV kvs vs/\h.DictOf (yK P w) a vs
 | .dT kvs=>kvs.length<=sizeLine/\(a == sysModules)=false/\∃xs:List (List Key×Addr×Value),
   Paired (fun (p:List Key×V) (q:List Key×Addr×Value)=>p.1=q.1/\H q.2.1=some (.tup (p.1.map kV))/\RelV p.2 q.2.2) kvs xs/\
   ∃o es ep,h.get? a=some o/\o.ExactDict/\o.data=.dict es ep/\es.toList=xs.map (entryOfKey (tupleKind (yK P w)))/\(xs.map (·.1)).Nodup
 | .set S n=>h.SetOf (intKind P w) a S n
 | .ins C dx fs=>H dx=some (.own a)/\fs.length<=1000/\dx≠a/\h.get? a=some (PySem.W.instObj C dx)/\
   ∃mA,h.Ns1 dx mA/\(∀f,RelO (fs.lookup f) (mA f))/\PySem.Within mA (fs.map (·.1))
 | .own _=>∃o,h.get? a=some o
 | .xd fs=>∃mA,h.Ns1 a mA/\∀f,RelO (fs.lookup f) (mA f)
 | .rng lo hi=>∃t u v,h.get? a=some { cls:=.type "range",data:=.fields #[.int lo t,.int hi u,.int 1 v] }
 | .frz o u=>h.get? a=some o/\ObjOk H h a u
 | .tbl ps=>h.get? a=some { cls:=.none,data:=.fields ps }
 | .met f x=>h.get? a=some (PySem.W.methodObj (.ref f) (.ref x))
 | .ext φ=>φ h/\(∃o,h.get? a=some o)/\∀h1 h2:Heap,φ h1->(∀o,h1.get? a=some o->h2.get? a=some o)->φ h2
noncomputable def HOk (H:Hp) (h:Heap):Prop:=∀a o,H a=some o->ObjOk P w H h a o
end
section
variable {P:Program} {w:World} {H H':Hp} {h h':Heap} {a:Addr} {o:HO}
theorem ObjOk.lt (x:ObjOk P w H h a o):a<h.objs.size:=by
 cases o with
 | lst xs=>obtain⟨_,_,_,_,e⟩:=x;exact Heap.lt_size e
 | tup xs=>obtain⟨_,_,_,p⟩:=x;exact p.lt
 | dK kvs=>obtain⟨_,_,_,_,o,_,_,e,_⟩:=x;exact Heap.lt_size e
 | dT kvs=>obtain⟨_,_,_,_,o,_,_,e,_⟩:=x;exact Heap.lt_size e
 | set S n=>obtain⟨o,_,_,_,e,_⟩:=x;exact Heap.lt_size e
 | ins C dx fs=>obtain⟨_,_,_,e,_⟩:=x;exact Heap.lt_size e
 | own y=>obtain⟨_,e⟩:=x;exact Heap.lt_size e
 | xd fs=>obtain⟨_,⟨_,_,_,e,_⟩,_⟩:=x;exact Heap.lt_size e
 | rng lo hi=>obtain⟨_,_,_,e⟩:=x;exact Heap.lt_size e
 | frz ob u=>obtain⟨e,_⟩:=x;exact Heap.lt_size e
 | tbl ps=>exact Heap.lt_size (show h.get? a=some _ from x)
 | met f y=>exact Heap.lt_size (show h.get? a=some _ from x)
 | ext φ=>obtain⟨_,⟨_,e⟩,_⟩:=x;exact Heap.lt_size e
theorem Paired.mapP {α β:Type} {F G:α->β->Prop}:∀ {l₁:List α} {l₂:List β},Paired F l₁ l₂->(∀a b,F a b->G a b)->Paired G l₁ l₂
 | _,_,.nil,_=>.nil
 | _,_,.cons r t,f=>.cons (f _ _ r) (Paired.mapP t f)
theorem ObjOk.stay (x:ObjOk P w H h a o) (k:∀b u,(b=a∨H b=some (.own a))->h.get? b=some u->h'.get? b=some u)
  (ho:∀b,H b=some (.own a)->H' b=some (.own a)) (ht:∀b xs,H b=some (.tup xs)->H' b=some (.tup xs)):ObjOk P w H' h' a o:=by
 induction o with
 | lst xs=>obtain⟨z,its,n,r,e⟩:=x;exact⟨z,its,n,r,k _ _ (.inl rfl) e⟩
 | tup xs=>obtain⟨z,its,r,ob,e,c⟩:=x;exact⟨z,its,r,ob,k _ _ (.inl rfl) e,c⟩
 | dK kvs=>obtain⟨z,y,vs,r,ob,es,ep,e,c⟩:=x;exact⟨z,y,vs,r,ob,es,ep,k _ _ (.inl rfl) e,c⟩
 | dT kvs=>
  obtain⟨z,y,xs,r,ob,es,ep,e,c⟩:=x;exact⟨z,y,xs,Paired.mapP r fun p q z=>⟨z.1,ht _ _ z.2.1,z.2.2⟩,ob,es,ep,k _ _ (.inl rfl) e,c⟩
 | set S n=>obtain⟨ob,es,ep,t,e,c⟩:=x;exact⟨ob,es,ep,t,k _ _ (.inl rfl) e,c⟩
 | ins C dx fs=>
  obtain⟨d,z,ne,e,mA,⟨od,es,ep,e2,c⟩,r⟩:=x;exact⟨ho _ d,z,ne,k _ _ (.inl rfl) e,mA,⟨od,es,ep,k _ _ (.inr d) e2,c⟩,r⟩
 | own y=>obtain⟨ob,e⟩:=x;exact⟨ob,k _ _ (.inl rfl) e⟩
 | xd fs=>obtain⟨mA,⟨od,es,ep,e,c⟩,r⟩:=x;exact⟨mA,⟨od,es,ep,k _ _ (.inl rfl) e,c⟩,r⟩
 | rng lo hi=>obtain⟨t,u,v,e⟩:=x;exact⟨t,u,v,k _ _ (.inl rfl) e⟩
 | frz ob u ih=>obtain⟨e,q⟩:=x;exact⟨k _ _ (.inl rfl) e,ih q⟩
 | tbl ps=>
  have e:h.get? a=some { cls:=.none,data:=.fields ps }:=x;show h'.get? a=some { cls:=.none,data:=.fields ps };exact k a _ (.inl rfl) e
 | met f y=>
  have e:h.get? a=some (PySem.W.methodObj (.ref f) (.ref y)):=x;show h'.get? a=some (PySem.W.methodObj (.ref f) (.ref y));exact k a _ (.inl rfl) e
 | ext φ=>obtain⟨p,⟨o,e⟩,st⟩:=x;exact⟨st _ _ p fun o q=>k _ _ (.inl rfl) q,⟨o,k _ _ (.inl rfl) e⟩,st⟩
theorem HOk.lt (x:HOk P w H h) (e:H a=some o):a<h.objs.size:=(x a o e).lt
theorem HOk.fresh (x:HOk P w H h) (e:h.objs.size<=a):H a=none:=by
 cases q:H a with
 | none=>rfl
 | some u=>exact absurd (Nat.lt_of_lt_of_le (x.lt q) e) (Nat.lt_irrefl _)
theorem HOk.kept (x:HOk P w H h) (k:∀b u,h.get? b=some u->h'.get? b=some u):HOk P w H h':=fun a o e=>
 (x a o e).stay (fun b u _ q=>k b u q) (fun _ q=>q) fun _ _ q=>q
theorem HOk.laid (x:HOk P w H h) (k:∀b u,h.get? b=some u->h'.get? b=some u) (hp:h.objs.size<=a) (new:ObjOk P w (upd H a o) h' a o):HOk P w (upd H a o) h':=fun b u e=>by
 have hn:=x.fresh hp;by_cases hb:b=a
 ·subst hb;rw[zG] at e;cases e;exact new
 ·rw[za hb] at e;exact (x b u e).stay (fun c v _ q=>k c v q) (fun c q=>by rw[za (zd q hn)];exact q) fun c xs q=>by rw[za (zd q hn)];exact q
end
noncomputable def Rd (H:Hp) (a:Addr) (u:HO):Prop:=H a=some u∨∃o,H a=some (.frz o u)
theorem Rd.of {H:Hp} {a:Addr} {u:HO} (h:H a=some u):Rd H a u:=.inl h
theorem Rd.ok {P:Program} {w:World} {H:Hp} {h:Heap} {a:Addr} {u:HO} (r:Rd H a u) (x:HOk P w H h):ObjOk P w H h a u:=by
 rcases r with r|⟨o,r⟩
 ·exact x a u r
 ·obtain⟨_,q⟩:=x a _ r;exact q
noncomputable def Mut:Option HO->Prop
 | some (.lst _)=>True
 | some (.dK _)=>True
 | some (.dT _)=>True
 | some (.set _ _)=>True
 | some (.ins _ _ _)=>True
 | some (.ext _)=>True
 | _=>False
section
variable {P:Program} {w:World} {H:Hp} {h h':Heap} {x e:Addr} {o':HO}
theorem HOk.write (ok:HOk P w H h) (mu:Mut (H x)) (he:e=x∨H e=some (.own x)) (k:∀b u,b≠e->h.get? b=some u->h'.get? b=some u) (heo:∃u,h'.get? e=some u)
  (new:ObjOk P w (upd H x o') h' x o'):HOk P w (upd H x o') h':=fun b u q=>by
 have nown:∀c y,H c=some (.own y)->c≠x:=fun c y r z=>by subst z;rw[r] at mu;exact mu
 have ntup:∀c xs,H c=some (.tup xs)->c≠x:=fun c xs r z=>by subst z;rw[r] at mu;exact mu
 by_cases hb:b=x
 ·subst hb;rw[zG] at q;cases q;exact new
 ·rw[za hb] at q;by_cases hbe:b=e
  ·have q':H b=some (.own x):=by
    rcases he with z|z
    ·exact absurd (hbe.trans z) hb
    ·rw[hbe];exact z
   rw[q] at q';cases q';obtain⟨v,hv⟩:=heo;exact⟨v,by rw[hbe];exact hv⟩
  ·refine (ok b u q).stay (fun c v hc r=>k c v ?_ r) (fun c r=>by rw[za (nown c b r)];exact r) fun c xs r=>by rw[za (ntup c xs r)];exact r
   rcases hc with rfl|hc
   ·exact hbe
   ·rintro rfl;rcases he with z|z
    ·exact nown c b hc z
    ·rw[hc] at z;cases z;exact hb rfl
end
structure Un (fs ex:List Addr) (H H':Hp) (h h':Heap):Prop where
 keep:∀b o,h.get? b=some o->H b=none->b∉fs->b∉ex->h'.get? b=some o
 slot:∀b o,h.get? b=some o->H b=none->b∈fs->b∉ex->∃sl,h'.get? b=some { o with slots:=sl }
 free:∀b o,h.get? b=some o->H b=none->b∉ex->H' b=none
 there:∀b o,h.get? b=some o->b∉ex->∃o',h'.get? b=some o'
 tups:∀b xs,H b=some (.tup xs)->H' b=some (.tup xs)
 frzs:∀b o u,H b=some (.frz o u)->H' b=some (.frz o u)
 tbls:∀b ps,H b=some (.tbl ps)->∃more,H' b=some (.tbl (ps++more))
section
variable {fs fs' ex ex':List Addr} {H H1 H2:Hp} {h h1 h2 h':Heap} {a x e:Addr} {o:HO}
theorem Un.any (u:Un fs ex H H1 h h1) {b:Addr} {ob:Obj} (q:h.get? b=some ob) (n:H b=none) (hx:b∉ex):∃sl,h1.get? b=some { ob with slots:=sl }:=by
 by_cases hb:b∈fs
 ·exact u.slot b ob q n hb hx
 ·exact⟨ob.slots,u.keep b ob q n hb hx⟩
theorem Un.trans (a:Un fs ex H H1 h h1) (b:Un fs ex H1 H2 h1 h2):Un fs ex H H2 h h2 where
 keep:=fun c ob q n hc hx=>b.keep c ob (a.keep c ob q n hc hx) (a.free c ob q n hx) hc hx
 slot:=fun c ob q n hc hx=>by
  obtain⟨sl,e1⟩:=a.slot c ob q n hc hx;obtain⟨sl',e2⟩:=b.slot c _ e1 (a.free c ob q n hx) hc hx;exact⟨sl',e2⟩
 free:=fun c ob q n hx=>by
  obtain⟨o',e1⟩:=a.there c ob q hx;exact b.free c o' e1 (a.free c ob q n hx) hx
 there:=fun c ob q hx=>by
  obtain⟨o',e1⟩:=a.there c ob q hx;exact b.there c o' e1 hx
 tups:=fun c xs q=>b.tups c xs (a.tups c xs q)
 frzs:=fun c ob xs q=>b.frzs c ob xs (a.frzs c ob xs q)
 tbls:=fun c ps q=>by
  obtain⟨m1,e1⟩:=a.tbls c ps q;obtain⟨m2,e2⟩:=b.tbls c _ e1;exact⟨m1++m2,by rw[e2,Array.append_assoc]⟩
theorem Un.kept (k:∀b u,h.get? b=some u->h'.get? b=some u):Un fs ex H H h h':=
 ⟨fun b ob q _ _ _=>k b ob q,fun b ob q _ _ _=>⟨ob.slots,k b ob q⟩,fun _ _ _ n _=>n,fun b ob q _=>⟨ob,k b ob q⟩,fun _ _ q=>q,fun _ _ _ q=>q,fun _ ps q=>⟨#[],by rw[q];simp⟩⟩
theorem Un.refl:Un fs ex H H h h:=Un.kept fun _ _ q=>q
theorem Un.laid (k:∀b u,h.get? b=some u->h'.get? b=some u) (hp:h.objs.size<=a) (hn:H a=none):Un fs ex H (upd H a o) h h' where
 keep:=fun b u q _ _ _=>k b u q
 slot:=fun b u q _ _ _=>⟨u.slots,k b u q⟩
 free:=fun b u q n _=>by rw[za (Nat.ne_of_lt (Nat.lt_of_lt_of_le (Heap.lt_size q) hp))];exact n
 there:=fun b u q _=>⟨u,k b u q⟩
 tups:=fun b xs q=>by rw[za (zd q hn)];exact q
 frzs:=fun b u xs q=>by rw[za (zd q hn)];exact q
 tbls:=fun b ps q=>⟨#[],by rw[za (zd q hn),q];simp⟩
theorem Un.write (mu:Mut (H x)) (he:e=x∨H e=some (.own x)) (k:∀b u,b≠e->h.get? b=some u->h'.get? b=some u) (heo:∃u,h'.get? e=some u):Un fs ex H (upd H x o) h h':=by
 have hx:∀b,H b=none->b≠x:=fun b n z=>by subst z;rw[n] at mu;exact mu
 have hb:∀b,H b=none->b≠e:=fun b n z=>by
  subst z;rcases he with r|r
  ·exact hx b n r
  ·rw[n] at r;cases r
 have hm:∀b u,H b=some u->¬Mut (some u)->b≠x:=fun b u q nm z=>by subst z;rw[q] at mu;exact nm mu
 refine⟨fun b u q n _ _=>k b u (hb b n) q,fun b u q n _ _=>⟨u.slots,k b u (hb b n) q⟩,fun b u q n _=>by rw[za (hx b n)];exact n,fun b u q _=>?_,
  fun b xs q=>by rw[za (hm b _ q fun z=>z)];exact q,fun b u xs q=>by rw[za (hm b _ q fun z=>z)];exact q,fun b ps q=>⟨#[],by rw[za (hm b _ q fun z=>z),q];simp⟩⟩
 by_cases hbe:b=e
 ·subst hbe;exact heo
 ·exact⟨u,k b u hbe q⟩
theorem Un.mono (u:Un fs ex H H1 h h1) (hs:∀b∈fs,b∈fs') (hx:∀b∈ex,b∈ex'):Un fs' ex' H H1 h h1:=
 ⟨fun b ob q n hb he=>u.keep b ob q n (fun z=>hb (hs b z)) fun z=>he (hx b z),fun _ _ q n _ he=>u.any q n fun z=>he (hx _ z),fun b ob q n he=>u.free b ob q n fun z=>he (hx b z),fun b ob q he=>u.there b ob q fun z=>he (hx b z),u.tups,u.frzs,u.tbls⟩
end
noncomputable def trk (h:Heap) (H:Hp):List Addr:=(List.range h.objs.size).filter fun a=>(H a).isSome
noncomputable def z8i (h:Heap) (H:Hp):Heap:=PySem.W.hideAll h (trk h H)
theorem z6y (h:Heap) (H:Hp):(z8i h H).objs.size=h.objs.size:=PySem.W.hideAll_size _ _
theorem z8h {h:Heap} {H:Hp} {b:Addr} {o:Obj} (e:h.get? b=some o) (n:H b=none):(z8i h H).get? b=some o:=
 PySem.W.hideAll_get _ e fun hm=>by
  have q:(H b).isSome=true:=(List.mem_filter.mp hm).2;rw[n] at q;simp at q
theorem y0O {h:Heap} {H:Hp} {b:Addr} {o:Obj} (e:(z8i h H).get? b=some o):h.get? b=some o/\H b=none:=by
 have e':h.get? b=some o:=PySem.W.of_hideAll (trk h H) e;refine⟨e',?_⟩;cases q:H b with
 | none=>rfl
 | some x=>
  have hm:b∈trk h H:=List.mem_filter.mpr ⟨List.mem_range.mpr (Heap.lt_size e'),by simp [q]⟩;have z:(z8i h H).get? b=none:=PySem.W.hideAll_none (trk h H) hm;rw[z] at e;cases e
noncomputable def y0m (g h:Heap) (L:Addr):List (Addr×Obj):=(List.range h.objs.size).filterMap fun a=>if a=L∨(g.get? a).isSome=true then none else (h.get? a).map fun o=>(a,o)
noncomputable def rest (g h:Heap) (L d:Addr):List (Addr×Obj):=(y0m g h L).filter fun p=>decide (p.1≠d)
structure Mod (K:PySem.W.Frag) (mg:Str->Option Value) (base:Heap):Prop where
 kin:K.In base
 glob:base.Ns mainGlobals mg
 blt:∃mb,base.Ns builtinsNs mb/\∀x:Str,x≠ "__name__" ->mb x=bootBuiltins x
 nolimit:base.NoLimit
structure Cx where
 prog:Program
 w:World
 K:PySem.W.Frag
 mg:Str->Option Value
 base:Heap
 A:Around
 N:List Str
 s₀:Shared
 H₀:Hp
 env:Env
 outer:List Env
 stack:List Env
 ex:List Addr
 fn:Str->Bool
 calm:Bool
 pn:List (Addr×Obj)
 xe:Value->Shared->Prop
noncomputable def frs (l:List Env):List Addr:=l.filterMap (·.frame)
noncomputable abbrev Cx.fs (X:Cx):List Addr:=frs X.outer
noncomputable def Vis (sc:Scope) (x:Str):Prop:=sc.names.lookup x=some .local∨sc.names.lookup x=some .cell∨sc.names.lookup x=some .free
noncomputable def Loc (sc:Scope) (x:Str):Prop:=sc.names.lookup x=some .local∨sc.names.lookup x=some .cell
noncomputable def y3v (env:Env) (h:Heap) (m:Str->Option Value) (x:Str) (u:Value):Prop:=
 (env.kindOf x=some .local/\m x=some u)∨((env.kindOf x=some .cell∨env.kindOf x=some .free)/\∃c,env.cells.lookup x=some c/\h.IsCell c (some u))
structure Cx.Ok (X:Cx):Prop where
 mod:Mod X.K X.mg X.base
 kind:X.env.scope.kind=.function
 glob:X.env.globals=mainGlobals
 blt:X.env.builtins=builtinsNs
 above:X.s₀.heap.objs.size<=X.env.locals
 inj:∀x y c,X.env.cells.lookup x=some c->X.env.cells.lookup y=some c->x=y
 has:∀x,(X.env.kindOf x=some .cell∨X.env.kindOf x=some .free)->∃c,X.env.cells.lookup x=some c
 cab:∀x c,X.fn x=true->X.env.cells.lookup x=some c->X.s₀.heap.objs.size<=c
 hd:X.calm=true->X.A.handled=none
 frames:X.A.frames=some X.stack
 stk:X.stack=X.outer∨(X.stack=X.env::X.outer/\X.env.frame=some X.env.locals)
 exf:∀b∈X.ex,b≠X.env.locals/\∀x c,X.env.cells.lookup x=some c->c≠b
 bs:∀b o,X.base.get? b=some o->X.s₀.heap.get? b=some o/\X.H₀ b=none
 bsz:X.base.objs.size<=X.s₀.heap.objs.size
 noex:∀b o,X.base.get? b=some o->b∉X.ex
 exfs:∀b∈X.ex,b∉X.fs
 funs:X.s₀.heap.FunFrames X.base X.outer
 frf:∀b∈X.fs,X.H₀ b=none
structure Inv (X:Cx) (pins:List (Addr×Obj)) (σ:List (Option V)) (H:Hp) (s:Shared):Prop where
 ok:X.Ok
 os:s.os=X.s₀.os
 bare:AllBare s.gens
 base:Un X.fs X.ex X.H₀ H X.s₀.heap s.heap
 loc:∃m,s.heap.Ns X.env.locals m/\∀(i:Nat) (x:Str) (v:V),X.N[i]?=some x->σ[i]?=some (some v)->Vis X.env.scope x->∃u,RelL v u/\y3v X.env s.heap m x u
 cell:∀x c,X.env.cells.lookup x=some c->∃v,s.heap.IsCell c v
 free:H X.env.locals=none
 freeC:∀x c,X.env.cells.lookup x=some c->H c=none
 pin:∀p∈X.pn++pins,s.heap.get? p.1=some p.2/\H p.1=none/\p.1≠X.env.locals/\p.1∉X.fs/\∀v,p.2.data≠.cell v
 hok:HOk X.prog X.w H s.heap
 len:σ.length=X.N.length
section
variable {X:Cx} {pins:List (Addr×Obj)} {σ:List (Option V)} {H H':Hp} {s:Shared} {h':Heap}
theorem Cx.Ok.nofr (ok:X.Ok) {b:Addr} {o:Obj} (e:X.base.get? b=some o):b∉X.fs:=fun hb=>by
 have:=(ok.funs.mem hb).1;rw[e] at this;cases this
theorem Inv.bs (I:Inv X pins σ H s):∀b o,X.base.get? b=some o->s.heap.get? b=some o/\H b=none:=fun b o e=>
 ⟨I.base.keep b o (I.ok.bs b o e).1 (I.ok.bs b o e).2 (I.ok.nofr e) (I.ok.noex b o e),I.base.free b o (I.ok.bs b o e).1 (I.ok.bs b o e).2 (I.ok.noex b o e)⟩
theorem Inv.bk (I:Inv X pins σ H s):∀b o,X.base.get? b=some o->s.heap.get? b=some o:=fun b o e=>(I.bs b o e).1
theorem Inv.mod (I:Inv X pins σ H s):Mod X.K X.mg X.base:=I.ok.mod
theorem Inv.kIn (I:Inv X pins σ H s):X.K.In s.heap:=I.ok.mod.kin.keeps I.bk
theorem Inv.nolimit (I:Inv X pins σ H s):s.heap.NoLimit:=I.ok.mod.nolimit.keeps I.bk
theorem Inv.fr (I:Inv X pins σ H s):∃m,Fr X.base X.env.locals s.heap m:=
 let ⟨m,hn,_⟩:=I.loc
 ⟨m,hn,I.bk,Nat.le_trans I.ok.bsz I.ok.above⟩
theorem Inv.lt (I:Inv X pins σ H s):X.env.locals<s.heap.objs.size:=let ⟨_,hn,_⟩:=I.loc;hn.lt
theorem Inv.sz (I:Inv X pins σ H s):X.s₀.heap.objs.size<=s.heap.objs.size:=Nat.le_trans I.ok.above (Nat.le_of_lt I.lt)
theorem Inv.nofs (I:Inv X pins σ H s) {a:Addr} (h:s.heap.objs.size<=a):a∉X.fs:=fun hb=>by
 obtain⟨_,o,ho,_⟩:=I.ok.funs.mem hb;exact absurd (Nat.lt_of_lt_of_le (Heap.lt_size ho) (Nat.le_trans I.sz h)) (Nat.lt_irrefl _)
theorem Inv.cne (I:Inv X pins σ H s):∀x c,X.env.cells.lookup x=some c->c≠X.env.locals:=fun x c e z=>by
 obtain⟨v,o,ho,hd⟩:=I.cell x c e;obtain⟨m,⟨o',es,ep,ho',hd',_⟩,_⟩:=I.loc;rw[z,ho'] at ho;cases ho;rw[hd'] at hd;cases hd
theorem Inv.funs (I:Inv X pins σ H s):s.heap.FunFrames X.base X.outer:=by
 have all:∀(l:List Env),(∀b∈frs l,b∈X.fs)->X.s₀.heap.FunFrames X.base l->s.heap.FunFrames X.base l:=by
  intro l
  induction l with
  | nil=>intro _ _;trivial
  | cons env r ih=>
   intro hs hl;obtain⟨hk,⟨L,o,hf,hn,ho,hd⟩,hr⟩:=hl;have hL:L∈X.fs:=hs L (by unfold frs;rw[List.filterMap_cons,hf];exact List.mem_cons_self);obtain⟨sl,e⟩:=I.base.slot L o ho (I.ok.frf L hL) hL fun z=>I.ok.exfs L z hL;exact⟨hk,⟨L,_,hf,hn,e,hd⟩,ih (fun b hb=>hs b (by unfold frs;rw[List.filterMap_cons,hf];exact List.mem_cons_of_mem _ hb)) hr⟩
 exact all X.outer (fun _ hb=>hb) I.ok.funs
theorem Inv.stack (I:Inv X pins σ H s):s.heap.FunFrames X.base X.stack:=by
 rcases I.ok.stk with e|⟨e,hf⟩
 ·rw[e];exact I.funs
 ·rw[e];obtain⟨m,hn,_⟩:=I.loc;refine .cons (by rw[I.ok.kind];decide) hf hn ?_ I.funs;exact Heap.get?_none_of_le (Nat.le_trans I.ok.bsz I.ok.above)
theorem Inv.stkSub (I:Inv X pins σ H s):∀b∈frs X.stack,b∈X.env.locals::X.fs:=fun b hb=>by
 rcases I.ok.stk with e|⟨e,hf⟩
 ·rw[e] at hb;exact List.mem_cons_of_mem _ hb
 ·rw[e] at hb;unfold frs at hb;rw[List.filterMap_cons,hf] at hb;exact hb
theorem Inv.stkFree (I:Inv X pins σ H s):∀b∈frs X.stack,H b=none:=fun b hb=>by
 rcases List.mem_cons.mp (I.stkSub b hb) with e|hb
 ·rw[e];exact I.free
 ·obtain⟨_,o,ho,_⟩:=I.ok.funs.mem hb;exact I.base.free b o ho (I.ok.frf b hb) fun z=>I.ok.exfs b z hb
theorem Inv.step {g':Array GenState} {t':Nat} {d':Drawn} {ch:List Addr} (I:Inv X pins σ H s)
  (hch:∀b∈ch,(b∈X.ex∨X.s₀.heap.objs.size<=b)/\b≠X.env.locals/\(∀x c,X.env.cells.lookup x=some c->c≠b)/\∀p∈X.pn++pins,p.1≠b)
  (keep:∀b o,b≠X.env.locals->b∉X.fs->b∉ch->s.heap.get? b=some o->H b=none->h'.get? b=some o)
  (slot:∀b o,b≠X.env.locals->b∈X.fs->b∉ch->s.heap.get? b=some o->H b=none->∃sl,h'.get? b=some { o with slots:=sl }) (free:∀b o,b∉ch->s.heap.get? b=some o->H b=none->H' b=none)
  (there:∀b o,b∉ch->s.heap.get? b=some o->∃o',h'.get? b=some o')
  (tups:∀b xs,H b=some (.tup xs)->H' b=some (.tup xs)) (frzs:∀b o u,H b=some (.frz o u)->H' b=some (.frz o u)) (tbls:∀b ps,H b=some (.tbl ps)->∃more,H' b=some (.tbl (ps++more)))
  (ns:∀m,s.heap.Ns X.env.locals m->h'.Ns X.env.locals m) (hok:HOk X.prog X.w H' h') (hg:AllBare g') :
  Inv X pins σ H' { s with heap:=h',gens:=g',drawn:=d',toks:=t' }:=by
 have neL:∀b o,X.s₀.heap.get? b=some o->b≠X.env.locals:=fun b o e=>Nat.ne_of_lt (Nat.lt_of_lt_of_le (Heap.lt_size e) I.ok.above);have neC:∀b o,X.s₀.heap.get? b=some o->b∉X.ex->b∉ch:=fun b o e hx hb=>by
  rcases (hch b hb).1 with z|z
  ·exact hx z
  ·exact absurd (Nat.lt_of_lt_of_le (Heap.lt_size e) z) (Nat.lt_irrefl _)
 have cellK:∀x c,X.env.cells.lookup x=some c->∀v,s.heap.IsCell c v->h'.IsCell c v:=fun x c e v ⟨o,ho,hd⟩=>by
  have nch:c∉ch:=fun z=>(hch c z).2.2.1 x c e rfl;by_cases hc:c∈X.fs
  ·obtain⟨sl,q⟩:=slot c o (I.cne x c e) hc nch ho (I.freeC x c e);exact⟨_,q,hd⟩
  ·exact⟨o,keep c o (I.cne x c e) hc nch ho (I.freeC x c e),hd⟩
 refine⟨I.ok,I.os,hg,⟨fun b o e n hb hx=>?_,fun b o e n hb hx=>?_,fun b o e n hx=>?_,fun b o e hx=>?_,fun b xs e=>tups b xs (I.base.tups b xs e),fun b o xs e=>frzs b o xs (I.base.frzs b o xs e),fun b ps e=>?_⟩,?_,fun x c e=>?_,?_,fun x c e=>?_,fun p hp=>?_,hok,I.len⟩
 ·exact keep b o (neL b o e) hb (neC b o e hx) (I.base.keep b o e n hb hx) (I.base.free b o e n hx)
 ·obtain⟨sl,e1⟩:=I.base.slot b o e n hb hx;obtain⟨sl',e2⟩:=slot b _ (neL b o e) hb (neC b o e hx) e1 (I.base.free b o e n hx);exact⟨sl',e2⟩
 ·obtain⟨o',e1⟩:=I.base.there b o e hx;exact free b o' (neC b o e hx) e1 (I.base.free b o e n hx)
 ·obtain⟨o',e1⟩:=I.base.there b o e hx;exact there b o' (neC b o e hx) e1
 ·obtain⟨m1,e1⟩:=I.base.tbls b ps e;obtain⟨m2,e2⟩:=tbls b _ e1;exact⟨m1++m2,by rw[e2,Array.append_assoc]⟩
 ·obtain⟨m,hn,hl⟩:=I.loc;refine⟨m,ns m hn,fun i x v e1 e2 e3=>?_⟩;obtain⟨u,r,l⟩:=hl i x v e1 e2 e3;refine⟨u,r,?_⟩;rcases l with l|⟨k,c,e,z⟩
  ·exact .inl l
  ·exact .inr ⟨k,c,e,cellK x c e _ z⟩
 ·obtain⟨v,z⟩:=I.cell x c e;exact⟨v,cellK x c e v z⟩
 ·obtain⟨m,⟨o,_,_,ho,_⟩,_⟩:=I.loc;exact free _ o (fun z=>(hch _ z).2.1 rfl) ho I.free
 ·obtain⟨v,o,ho,hd⟩:=I.cell x c e;exact free c o (fun z=>(hch c z).2.2.1 x c e rfl) ho (I.freeC x c e)
 ·obtain⟨e,n,ne,nf,d⟩:=I.pin p hp;have nch:p.1∉ch:=fun z=>(hch p.1 z).2.2.2 p hp rfl;exact⟨keep p.1 p.2 ne nf nch e n,free p.1 p.2 nch e n,ne,nf,d⟩
theorem Inv.un {t':Nat} (I:Inv X pins σ H s) (u:Un X.fs [] H H' s.heap h') (hok:HOk X.prog X.w H' h'):Inv X pins σ H' { s with heap:=h',toks:=t' }:=by
 obtain⟨m,⟨o,es,ep,ho,r⟩,_⟩:=id I.loc;obtain⟨sl,hL⟩:=u.any ho I.free (by simp);exact I.step (g':=s.gens) (d':=s.drawn) (ch:=[]) (fun _ z=>nomatch z) (fun b o _ hb _ e n=>u.keep b o e n hb (by simp)) (fun b o _ hb _ e n=>u.slot b o e n hb (by simp)) (fun b o _ e n=>u.free b o e n (by simp)) (fun b o _ e=>u.there b o e (by simp)) u.tups u.frzs u.tbls (fun m' hm=>by
  obtain⟨o',es',ep',ho',r'⟩:=hm;rw[ho] at ho';cases ho';exact⟨_,es',ep',hL,r'⟩) hok I.bare
theorem Inv.call {g':Array GenState} {t':Nat} {d':Drawn} {ch:List Addr} (I:Inv X pins σ H s) (u:Un (frs X.stack) ch H H' s.heap h') (hok:HOk X.prog X.w H' h') (hg:AllBare g')
  (hch:∀b∈ch,(b∈X.ex∨X.s₀.heap.objs.size<=b)/\b≠X.env.locals/\(∀x c,X.env.cells.lookup x=some c->c≠b)/\∀p∈X.pn++pins,p.1≠b) :
  Inv X pins σ H' { s with heap:=h',gens:=g',drawn:=d',toks:=t' }:=by
 obtain⟨m,⟨o,es,ep,ho,r⟩,_⟩:=id I.loc;obtain⟨sl,hL⟩:=u.any ho I.free fun z=>(hch _ z).2.1 rfl;exact I.step (ch:=ch) hch (fun b o hL hb hc e n=>u.keep b o e n (fun z=>(List.mem_cons.mp (I.stkSub b z)).elim hL hb) hc) (fun b o _ _ hc e n=>u.any e n hc) (fun b o hc e n=>u.free b o e n hc) (fun b o hc e=>u.there b o e hc) u.tups u.frzs u.tbls (fun m' hm=>by
  obtain⟨o',es',ep',ho',r'⟩:=hm;rw[ho] at ho';cases ho';exact⟨_,es',ep',hL,r'⟩) hok hg
theorem Inv.turned {t':Nat} {it:Addr} (I:Inv X pins σ H s) (k:∀b o,b≠it->s.heap.get? b=some o->h'.get? b=some o) (hn:H it=none) (hL:it≠X.env.locals)
  (h1:it∈X.ex∨X.s₀.heap.objs.size<=it) (h2:∀x c,X.env.cells.lookup x=some c->c≠it) (h3:∀p∈X.pn++pins,p.1≠it):Inv X pins σ H { s with heap:=h',toks:=t' }:=by
 have nit:∀b u,H b=some u->b≠it:=fun b u e z=>by rw[z,hn] at e;cases e
 refine I.step (g':=s.gens) (d':=s.drawn) (ch:=[it]) (fun b hb=>?_) (fun b o _ _ hc e _=>k b o (fun z=>hc (by simp [z])) e) (fun b o _ _ hc e _=>⟨o.slots,k b o (fun z=>hc (by simp [z])) e⟩) (fun _ _ _ _ n=>n)
  (fun b o hc e=>⟨o,k b o (fun z=>hc (by simp [z])) e⟩) (fun _ _ e=>e) (fun _ _ _ e=>e) (fun b ps e=>⟨#[],by rw[e];simp⟩) (fun m hm=>?_) (fun b u e=>?_) I.bare
 ·have e:b=it:=by simpa using hb
  subst e;exact⟨h1,hL,h2,h3⟩
 ·obtain⟨o,es,ep,ho,r⟩:=hm;exact⟨o,es,ep,k _ o (Ne.symm hL) ho,r⟩
 ·refine (I.hok b u e).stay (fun c v hc q=>k c v ?_ q) (fun _ q=>q) fun _ _ q=>q;rcases hc with z|z
  ·rw[z];exact nit b u e
  ·exact nit c _ z
theorem Inv.tok (I:Inv X pins σ H s) (t:Nat):Inv X pins σ H { s with toks:=t }:=I.un (h':=s.heap) (t':=t) Un.refl I.hok
theorem Inv.kept {t':Nat} (I:Inv X pins σ H s) (k:∀b u,s.heap.get? b=some u->h'.get? b=some u):Inv X pins σ H { s with heap:=h',toks:=t' }:=I.un (Un.kept k) (I.hok.kept k)
theorem Inv.laid {a:Addr} {o:HO} {t':Nat} (I:Inv X pins σ H s) (k:∀b u,s.heap.get? b=some u->h'.get? b=some u) (hp:s.heap.objs.size<=a) (new:ObjOk X.prog X.w (upd H a o) h' a o) :
  Inv X pins σ (upd H a o) { s with heap:=h',toks:=t' }:=I.un (Un.laid k hp (I.hok.fresh hp)) (I.hok.laid k hp new)
theorem Inv.write {x e:Addr} {o:HO} {t':Nat} (I:Inv X pins σ H s) (mu:Mut (H x)) (he:e=x∨H e=some (.own x)) (k:∀b u,b≠e->s.heap.get? b=some u->h'.get? b=some u) (heo:∃u,h'.get? e=some u)
  (new:ObjOk X.prog X.w (upd H x o) h' x o):Inv X pins σ (upd H x o) { s with heap:=h',toks:=t' }:=I.un (Un.write mu he k heo) (I.hok.write mu he k heo new)
theorem Inv.pins_of {pins':List (Addr×Obj)} (I:Inv X pins σ H s) (h:∀p∈pins',s.heap.get? p.1=some p.2/\H p.1=none/\p.1≠X.env.locals/\p.1∉X.fs/\∀v,p.2.data≠.cell v):Inv X pins' σ H s:=
 ⟨I.ok,I.os,I.bare,I.base,I.loc,I.cell,I.free,I.freeC,fun p hp=>(List.mem_append.mp hp).elim (fun z=>I.pin p (List.mem_append_left _ z)) (h p),I.hok,I.len⟩
theorem z1D {N:List Str} (hN:N.Nodup) {i j:Nat} {x:Str} (a:N[i]?=some x) (b:N[j]?=some x):i=j:=by
 obtain⟨h1,e1⟩:=List.getElem?_eq_some_iff.mp a;obtain⟨h2,e2⟩:=List.getElem?_eq_some_iff.mp b;exact (List.getElem_inj hN).mp (e1.trans e2.symm)
theorem wN {M:Model} {A:Around} {E:Value->Shared->Prop} {i:Nat} {x:Str} {v:V} {u:Value} {Q:Unit->Shared->Prop} (I:Inv X pins σ H s) (hN:X.N.Nodup) (hi:X.N[i]?=some x) (hx:Loc X.env.scope x) (r:RelL v u)
  (h:∀s',Inv X pins (σ.set i (some v)) H s'->(∃a,Heap.SameBut a s.heap s'.heap/\(a=X.env.locals∨X.env.cells.lookup x=some a))->Q () s') (hf:X.fn x=true∨X.env.scope.names.lookup x=some .local:=by first|exact .inl rfl|exact .inr rfl|assumption):wpAny M A (storeName X.env x u) Q E s:=by
 obtain⟨m,hn,hl⟩:=id I.loc;have hcls:(X.env.scope.kind == .class || (X.env.scope.kind == .module && X.env.locals != X.env.globals))=false:=by rw[I.ok.kind];rfl
 have hiσ:i<σ.length:=by rw[I.len];exact (List.getElem?_eq_some_iff.mp hi).1
 have cne:=I.cne;have tracked:∀ {a:Addr} {h':Heap},(∃o,s.heap.get? a=some o/\H a=none)->Heap.SameBut a s.heap h'->HOk X.prog X.w H h':=fun {a h'} ha hs b ob e=>by
  obtain⟨_,_,hfree⟩:=ha;refine (I.hok b ob e).stay (fun c w' hc q=>(hs.2 c ?_).trans q) (fun _ q=>q) fun _ _ q=>q;rintro rfl;rcases hc with rfl|hc
  ·rw[hfree] at e;cases e
  ·rw[hfree] at hc;cases hc
 rcases hx with hk|hk
 ·refine wpAny_storeName_local hk hn (fun h' hn' hs=>?_) hcls;obtain⟨oL,_,_,hoL,_⟩:=id hn;refine h _ ⟨I.ok,I.os,I.bare,⟨fun b o e n hb hx=>?_,fun b o e n hb hx=>?_,I.base.free,fun b o e hx=>?_,I.base.tups,I.base.frzs,I.base.tbls⟩,⟨_,hn',fun j y v' e1 e2 e3=>?_⟩,fun y c e=>?_,I.free,I.freeC,fun p hp=>?_,tracked ⟨oL,hoL,I.free⟩ hs,by simpa using I.len⟩ ⟨_,hs,.inl rfl⟩
  ·exact (hs.2 b (Nat.ne_of_lt (Nat.lt_of_lt_of_le (Heap.lt_size e) I.ok.above))).trans (I.base.keep b o e n hb hx)
  ·obtain⟨sl,e1⟩:=I.base.slot b o e n hb hx;exact⟨sl,(hs.2 b (Nat.ne_of_lt (Nat.lt_of_lt_of_le (Heap.lt_size e) I.ok.above))).trans e1⟩
  ·obtain⟨o',e1⟩:=I.base.there b o e hx;exact⟨o',(hs.2 b (Nat.ne_of_lt (Nat.lt_of_lt_of_le (Heap.lt_size e) I.ok.above))).trans e1⟩
  ·by_cases hj:j=i
   ·subst hj;rw[hi] at e1;cases e1;rw[List.getElem?_set_self hiσ] at e2;cases e2;exact⟨u,r,.inl ⟨hk,by simp⟩⟩
   ·rw[List.getElem?_set_ne (Ne.symm hj)] at e2;obtain⟨u',r',q⟩:=hl j y v' e1 e2 e3;refine⟨u',r',?_⟩;rcases q with⟨k,e⟩|⟨k,c,e,z⟩
    ·refine .inl ⟨k,?_⟩;have:y≠x:=fun e=>hj (z1D hN e1 (e▸hi));simp [this,e]
    ·exact .inr ⟨k,c,e,z.sameBut hs (cne y c e)⟩
  ·obtain⟨w',z⟩:=I.cell y c e;exact⟨w',z.sameBut hs (cne y c e)⟩
  ·obtain⟨e,n,ne,nf,d⟩:=I.pin p hp;exact⟨(hs.2 p.1 ne).trans e,n,ne,nf,d⟩
 ·have hfn:X.fn x=true:=by
   rcases hf with z|z
   ·exact z
   ·rw[z] at hk;cases hk
  obtain⟨c,hc⟩:=I.ok.has x (.inl hk);obtain⟨w',z⟩:=I.cell x c hc;refine wpAny_storeName_cell I.ok.kind hk hc z (fun h' hc' hs=>?_);obtain⟨oc,hoc,hocd⟩:=id z;refine h { s with heap:=h' } ⟨I.ok,I.os,I.bare,⟨fun b o e n hb hx=>?_,fun b o e n hb hx=>?_,I.base.free,fun b o e hx=>?_,I.base.tups,I.base.frzs,I.base.tbls⟩,⟨m,hn.sameBut hs (Ne.symm (cne x c hc)),fun j y v' e1 e2 e3=>?_⟩,fun y c' e=>?_,I.free,I.freeC,fun p hp=>?_,tracked ⟨oc,hoc,I.freeC x c hc⟩ hs,by simpa using I.len⟩ ⟨c,hs,.inr hc⟩
  ·exact (hs.2 b (Nat.ne_of_lt (Nat.lt_of_lt_of_le (Heap.lt_size e) (I.ok.cab x c hfn hc)))).trans (I.base.keep b o e n hb hx)
  ·obtain⟨sl,e1⟩:=I.base.slot b o e n hb hx;exact⟨sl,(hs.2 b (Nat.ne_of_lt (Nat.lt_of_lt_of_le (Heap.lt_size e) (I.ok.cab x c hfn hc)))).trans e1⟩
  ·obtain⟨o',e1⟩:=I.base.there b o e hx;exact⟨o',(hs.2 b (Nat.ne_of_lt (Nat.lt_of_lt_of_le (Heap.lt_size e) (I.ok.cab x c hfn hc)))).trans e1⟩
  ·by_cases hj:j=i
   ·subst hj;rw[hi] at e1;cases e1;rw[List.getElem?_set_self hiσ] at e2;cases e2;exact⟨u,r,.inr ⟨.inl hk,c,hc,hc'⟩⟩
   ·rw[List.getElem?_set_ne (Ne.symm hj)] at e2;obtain⟨u',r',q⟩:=hl j y v' e1 e2 e3;refine⟨u',r',?_⟩;rcases q with q|⟨k,c',e,z'⟩
    ·exact .inl q
    ·refine .inr ⟨k,c',e,z'.sameBut hs ?_⟩;rintro rfl;exact hj (z1D hN e1 (I.ok.inj _ _ _ e hc▸hi))
  ·by_cases hcc:c'=c
   ·subst hcc;exact⟨_,hc'⟩
   ·obtain⟨w2,z2⟩:=I.cell y c' e;exact⟨w2,z2.sameBut hs hcc⟩
  ·obtain⟨e,n,ne,nf,d⟩:=I.pin p hp;refine⟨(hs.2 p.1 ?_).trans e,n,ne,nf,d⟩;intro q;rw[q,hoc] at e;have q':oc=p.2:=Option.some.inj e;exact d w' (by rw[←q'];exact hocd)
theorem yu {M:Model} {A:Around} {E:Value->Shared->Prop} {i:Nat} {x:Str} {v:V} {u:Value} {Q:Unit->Shared->Prop} (I:Inv X pins σ H s) (hN:X.N.Nodup) (hi:X.N[i]?=some x) (hx:Loc X.env.scope x) (r:RelV v u)
  (h:∀s',Inv X pins (σ.set i (some v)) H s'->Q () s') (hf:X.fn x=true∨X.env.scope.names.lookup x=some .local:=by first|exact .inl rfl|exact .inr rfl|assumption):wpAny M A (storeName X.env x u) Q E s:=
 wN I hN hi hx r.toL (fun s' I' _=>h s' I') hf
theorem Inv.call' {s':Shared} {ch:List Addr} (I:Inv X pins σ H s) (ho:s'.os=s.os) (u:Un (frs X.stack) ch H H' s.heap s'.heap) (hok:HOk X.prog X.w H' s'.heap) (hg:AllBare s'.gens)
  (hch:∀b∈ch,(b∈X.ex∨X.s₀.heap.objs.size<=b)/\b≠X.env.locals/\(∀x c,X.env.cells.lookup x=some c->c≠b)/\∀p∈X.pn++pins,p.1≠b):Inv X pins σ H' s':=by
 obtain⟨h',g',d',t',o'⟩:=s';have e:o'=s.os:=ho;subst e;exact I.call (g':=g') (t':=t') (d':=d') u hok hg hch
end
noncomputable abbrev XK:=Value->Option Addr->Hp->Prop
noncomputable abbrev St:=List (Option V)
noncomputable abbrev VK:=V->Hp->Prop
noncomputable abbrev TE:=St->Hp->VK->Prop
noncomputable abbrev TT:=St->Hp->(Bool->Hp->Prop)->Prop
noncomputable abbrev TA:=St->Hp->(List V->Hp->Prop)->Prop
structure Ends where
 nx:St->Hp->Prop
 rt:VK
 bk:St->Hp->Prop:=fun _ _=>False
 ct:St->Hp->Prop:=fun _ _=>False
noncomputable abbrev TS:=Ends->St->Hp->Prop
noncomputable def EP (X:Cx) (pins:List (Addr×Obj)) (σ:St) (Q:VK) (u:Value) (s':Shared):Prop:=∃v H',Inv X pins σ H' s'/\RelV v u/\Q v H'
noncomputable def TP (X:Cx) (pins:List (Addr×Obj)) (σ:St) (Q:Bool->Hp->Prop) (b:Bool) (s':Shared):Prop:=∃H',Inv X pins σ H' s'/\Q b H'
noncomputable def AP (X:Cx) (pins:List (Addr×Obj)) (σ:St) (Q:List V->Hp->Prop) (us:List Value) (s':Shared):Prop:=∃vs H',Inv X pins σ H' s'/\Vals vs us/\Q vs H'
noncomputable def SP (X:Cx) (pins:List (Addr×Obj)) (D:Ends) (f:Flow) (s':Shared):Prop:=
 match f with
 | .next=>∃σ' H',Inv X pins σ' H' s'/\D.nx σ' H'
 | .brk=>∃σ' H',Inv X pins σ' H' s'/\D.bk σ' H'
 | .cont=>∃σ' H',Inv X pins σ' H' s'/\D.ct σ' H'
 | .ret u=>∃v σ' H',Inv X pins σ' H' s'/\RelV v u/\D.rt v H'
noncomputable def PE (X:Cx) (e:Expr) (t:TE):Prop:=
 ∀(pins:List (Addr×Obj)) (s:Shared) (σ:St) (H:Hp) (Q:VK),Inv X pins σ H s->t σ H Q->wpAny (model X.prog X.w) X.A (eval e X.env) (EP X pins σ Q) X.xe s
noncomputable def PT (X:Cx) (e:Expr) (t:TT):Prop:=
 ∀(pins:List (Addr×Obj)) (s:Shared) (σ:St) (H:Hp) (Q:Bool->Hp->Prop),Inv X pins σ H s->t σ H Q->wpAny (model X.prog X.w) X.A (isTrue e X.env (eval e X.env)) (TP X pins σ Q) X.xe s
noncomputable def PW (X:Cx) (e:Expr) (t:TT):Prop:=
 ∀(whole:Sem Value) (pins:List (Addr×Obj)) (s:Shared) (σ:St) (H:Hp) (Q:Bool->Hp->Prop),Inv X pins σ H s->t σ H Q->wpAny (model X.prog X.w) X.A (isTrue e X.env whole) (TP X pins σ Q) X.xe s
theorem PW.pt {X:Cx} {e:Expr} {t:TT} (h:PW X e t):PT X e t:=h _
noncomputable def PA (X:Cx) (es:List Expr) (t:TA):Prop:=
 ∀(pos:Pos) (pins:List (Addr×Obj)) (s:Shared) (σ:St) (H:Hp) (Q:List V->Hp->Prop),Inv X pins σ H s->t σ H Q->wpAny (model X.prog X.w) X.A (spliced (backTo pos (starEach es X.env))) (AP X pins σ Q) X.xe s
noncomputable def PS (X:Cx) (st:Stmt) (t:TS):Prop:=
 ∀(pins:List (Addr×Obj)) (s:Shared) (σ:St) (H:Hp) (D:Ends),Inv X pins σ H s->t D σ H->wpAny (model X.prog X.w) X.A (exec st X.env) (SP X pins D) X.xe s
noncomputable def PSs (X:Cx) (st:List Stmt) (t:TS):Prop:=
 ∀(pins:List (Addr×Obj)) (s:Shared) (σ:St) (H:Hp) (D:Ends),Inv X pins σ H s->t D σ H->wpAny (model X.prog X.w) X.A (execs st X.env) (SP X pins D) X.xe s
theorem thn {α:Type} {t:Sem α} {Q Q':α->Shared->Prop} {M:Model} {A:Around} {E:Value->Shared->Prop} {s:Shared} (h:wpAny M A t Q E s) (hQ:∀a s,Q a s->Q' a s):wpAny M A t Q' E s:=wpAny_mono h hQ fun _ _ x=>x
section
variable {X:Cx}
noncomputable def z3q (i:Nat):TE:=fun σ H Q=>∃v,σ[i]?=some (some v)/\Q (unS v) H
noncomputable def tC (v:V):TE:=fun _ H Q=>Q v H
theorem y1a {i:Nat} {x:Str} {pos:Pos} (hN:X.N[i]?=some x) (hv:Vis X.env.scope x) (hd:(x == ("__debug__" : Str))=false:=by decide) (hcd:(x == ("__classdict__" : Str))=false:=by decide):PE X (.Name x pos) (z3q i):=by
 intro pins s σ H Q I h;obtain⟨v,e,h⟩:=h;obtain⟨m,hn,hl⟩:=I.loc;obtain⟨u,r,l⟩:=hl i x v hN e hv;have fin:EP X pins σ Q u s:=⟨unS v,H,I,r.un,h⟩
 rcases l with⟨hk,hm⟩|⟨hk,c,hc,hcell⟩
 ·exact wpAny_Name (wpAny_loadName_local I.ok.kind hk hn hm fin) hd
 ·rcases hk with hk|hk
  ·exact wpAny_Name (wpAny_loadName_cell I.ok.kind hk hc hcell fin) hd
  ·exact wpAny_Name (wpAny_loadName_free I.ok.kind hk hc hcell fin hcd) hd
theorem zF {i j pos}:PE X (.Constant (.int i) j pos) (tC (.int i)):=fun _ _ _ H _ I h=>wpAny_Constant_int ⟨.int i,H,I.tok _,⟨_,rfl⟩,h⟩
theorem jx {b j pos}:PE X (.Constant (.bool b) j pos) (tC (.bl b)):=fun _ _ _ H _ I h=>Constant_bool ⟨.bl b,H,I,rfl,h⟩
theorem ye {j pos}:PE X (.Constant .none j pos) (tC .non):=fun _ _ _ H _ I h=>Constant_none ⟨.non,H,I,rfl,h⟩
theorem zQ {x j pos}:PE X (.Constant (.str x) j pos) (tC (.str x)):=fun _ _ _ H _ I h=>Calls.Constant_str ⟨.str x,H,I.tok _,⟨_,rfl⟩,h⟩
noncomputable def Gl (X:Cx) (x:Str):Prop:=X.env.kindOf x=some .globalImplicit
theorem jI {E:Value->Shared->Prop} {pins:List (Addr×Obj)} {s:Shared} {σ:St} {H:Hp} {x:Str} {u:Value} {pos:Pos} {Q:Value->Shared->Prop} (I:Inv X pins σ H s) (hg:Gl X x) (hm:X.mg x=some u) (h:Q u s)
  (hd:(x == ("__debug__" : Str))=false:=by decide):wpAny (model X.prog X.w) X.A (eval (.Name x pos) X.env) Q E s:=
 Calls.Name_function_global I.ok.kind hg (Calls.loadGlobal_global (by rw[I.ok.glob];exact I.mod.glob.keeps I.bk) hm h) hd
theorem vC {E:Value->Shared->Prop} {pins:List (Addr×Obj)} {s:Shared} {σ:St} {H:Hp} {x:Str} {u:Value} {pos:Pos} {Q:Value->Shared->Prop} (I:Inv X pins σ H s) (hg:Gl X x) (hm:X.mg x=none) (hv:bootBuiltins x=some u) (h:Q u s)
  (hn:x≠ "__name__" :=by decide) (hd:(x == ("__debug__" : Str))=false:=by decide):wpAny (model X.prog X.w) X.A (eval (.Name x pos) X.env) Q E s:=by
 obtain⟨mb,h1,h2⟩:=I.mod.blt;exact Calls.Name_function_global I.ok.kind hg (Calls.loadGlobal_builtin (by rw[I.ok.glob];exact I.mod.glob.keeps I.bk) hm (by rw[I.ok.blt];exact h1.keeps I.bk) ((h2 x hn).trans hv) h) hd
theorem xU {x:Str} {v:V} {u:Value} {pos:Pos} (hg:Gl X x) (hm:X.mg x=some u) (r:RelV v u) (hd:(x == ("__debug__" : Str))=false:=by decide):PE X (.Name x pos) (tC v):=
 fun _ _ _ H _ I h=>jI I hg hm ⟨v,H,I,r,h⟩ hd
theorem z3L {x:Str} {v:V} {u:Value} {pos:Pos} (hg:Gl X x) (hm:X.mg x=none) (hv:bootBuiltins x=some u) (r:RelV v u) (hn:x≠ "__name__" :=by decide) (hd:(x == ("__debug__" : Str))=false:=by decide):PE X (.Name x pos) (tC v):=
 fun _ _ _ H _ I h=>vC I hg hm hv ⟨v,H,I,r,h⟩ hn hd
variable {a b:Expr} {ta tb:TE} {pos:Pos}
noncomputable def PC (X:Cx) (op:CmpOp) (a b:Expr) (t:TE):Prop:=
 ∀(pins:List (Addr×Obj)) (s:Shared) (σ:St) (H:Hp) (Q:VK),Inv X pins σ H s->t σ H Q->
  wpAny (model X.prog X.w) X.A (eval a X.env) (fun v s₁=>wpAny (model X.prog X.w) X.A (eval b X.env) (fun u s₂=>wpAny (model X.prog X.w) X.A (compareOp op v u) (EP X pins σ Q) X.xe s₂) X.xe s₁) X.xe s
theorem z8V (b:Expr) {op:CmpOp} (h:op≠.In) (h2:op≠.NotIn):behindInMarks op b=false:=by
 have e1:(op == CmpOp.In)=false:=by cases op <;> first|rfl|exact absurd rfl h
 have e2:(op == CmpOp.NotIn)=false:=by cases op <;> first|rfl|exact absurd rfl h2
 cases b <;> simp [behindInMarks,e1,e2]
noncomputable def tB (t:TE):TT:=fun σ H Q=>t σ H fun x H1=>∃c,x=.bl c/\Q c H1
theorem z4M {op:CmpOp} {t:TE} (h:PC X op a b t) (h1:behindInMarks op b=false:=by first|exact z8V _ (by decide) (by decide)|rfl):PT X (.Compare a [op] [b] pos) (tB t):=by
 intro pins s σ H Q I hw;refine wpAny_isTrue_Compare1 (thn (h pins s σ H _ I hw) fun v s1 h1=>thn h1 fun u s2 h2=>thn h2 fun c s3 ⟨x,H1,I1,r1,q1⟩=>?_) h1;obtain⟨d,rfl,q⟩:=q1;cases r1;exact wpAny_truthy_bool ⟨H1,I1,q⟩
theorem yd {e:Expr} {t:TE} (h:PE X e t) (he:∀whole,isTrue e X.env whole=(do let v ←whole;standAt e.pos;holding [v] (truthy v)):=by intro _;rfl):PT X e (tB t):=by
 intro pins s σ H Q I hw;refine isTrue_plain (thn (h pins s σ H _ I hw) fun v s1 ⟨x,H1,I1,r1,q1⟩=>?_) (he _);obtain⟨d,rfl,q⟩:=q1;cases r1;exact wpAny_truthy_bool ⟨H1,I1,q⟩
variable {tA tB':TT} {rest:List Expr}
noncomputable def y3C (t u:TT):TT:=fun σ H Q=>t σ H fun c H1=>if c=true then u σ H1 Q else Q false H1
noncomputable def tOr (t u:TT):TT:=fun σ H Q=>t σ H fun c H1=>if c=true then Q true H1 else u σ H1 Q
noncomputable def y2v (t:TT):TT:=fun σ H Q=>t σ H fun c H1=>Q (!c) H1
theorem z0u (ha:PT X a tA):PW X (.BoolOp .And [a] pos) tA:=by
 intro wh pins s σ H Q I h;refine isTrue_and (thn (ha pins s σ H Q I h) fun c s1 e=>?_);cases c with
 | true=>exact isTrue_and_nil e
 | false=>exact e
theorem z4K (ha:PT X a tA):PW X (.BoolOp .Or [a] pos) tA:=by
 intro wh pins s σ H Q I h;refine isTrue_or (thn (ha pins s σ H Q I h) fun c s1 e=>?_);cases c with
 | false=>exact isTrue_or_nil e
 | true=>exact e
theorem z4L (ha:PT X a tA) (hb:PW X (.BoolOp .And (b::rest) pos) tB'):PW X (.BoolOp .And (a::b::rest) pos) (y3C tA tB'):=by
 intro wh pins s σ H Q I h;refine isTrue_and (thn (ha pins s σ H _ I h) fun c s1 ⟨H1,I1,q1⟩=>?_);cases c with
 | true=>exact hb wh pins s1 σ H1 Q I1 q1
 | false=>exact⟨H1,I1,q1⟩
theorem z3H (ha:PT X a tA) (hb:PW X (.BoolOp .Or (b::rest) pos) tB'):PW X (.BoolOp .Or (a::b::rest) pos) (tOr tA tB'):=by
 intro wh pins s σ H Q I h;refine isTrue_or (thn (ha pins s σ H _ I h) fun c s1 ⟨H1,I1,q1⟩=>?_);cases c with
 | true=>exact⟨H1,I1,q1⟩
 | false=>exact hb wh pins s1 σ H1 Q I1 q1
theorem xn (ha:PT X a tA):PT X (.UnaryOp .Not a pos) (y2v tA):=by
 intro pins s σ H Q I h;exact isTrue_not (ha pins s σ H (fun c H1=>Q (!c) H1) I h)
noncomputable def y1I (ta tb:TE):TE:=fun σ H Q=>ta σ H fun x H1=>∃c,x=.bl c/\if c=true then tb σ H1 Q else Q (.bl false) H1
noncomputable def y3X (ta tb:TE):TE:=fun σ H Q=>ta σ H fun x H1=>∃c,x=.bl c/\if c=true then Q (.bl true) H1 else tb σ H1 Q
noncomputable def y2U (ta:TE):TE:=fun σ H Q=>ta σ H fun x H1=>∃c,x=.bl c/\Q (.bl (!c)) H1
theorem z2F {op} {t:TE} (h:PE X a t):PE X (.BoolOp op [a] pos) t:=fun pins s σ H Q I hw=>BoolOp_one (h pins s σ H Q I hw)
theorem vm (ha:PE X a ta) (hb:PE X (.BoolOp .And (b::rest) pos) tb):PE X (.BoolOp .And (a::b::rest) pos) (y1I ta tb):=by
 intro pins s σ H Q I h;refine BoolOp_and (thn (ha pins s σ H _ I h) fun v s1 ⟨x,H1,I1,r1,q1⟩=>?_);obtain⟨c,rfl,q1⟩:=q1;cases r1;refine wpAny_truthy_bool ?_;cases c with
 | true=>exact hb pins s1 σ H1 Q I1 q1
 | false=>exact⟨.bl false,H1,I1,rfl,q1⟩
noncomputable def tIf (t:TT) (ta tb:TE):TE:=fun σ H Q=>t σ H fun c H1=>if c=true then ta σ H1 Q else tb σ H1 Q
theorem jw {c:Expr} (hc:PT X c tA) (ha:PE X a ta) (hb:PE X b tb):PE X (.IfExp c a b pos) (tIf tA ta tb):=by
 intro pins s σ H Q I h;refine wpAny_IfExp (thn (hc pins s σ H _ I h) fun d s1 ⟨H1,I1,q1⟩=>?_);cases d with
 | true=>exact ha pins s1 σ H1 Q I1 q1
 | false=>exact hb pins s1 σ H1 Q I1 q1
end
noncomputable def SqL (K:PySem.W.Frag) (H:Hp) (a:Addr) (xs:List V):Prop:=
 Rd H a (.lst xs)∨
  ∃(o:Obj) (its:Array Value) (n:Nat),K.lookup a=some o/\o.cls=.type "list" /\o.dict=none/\o.data=.seq its n/\its.size<=sizeLine/\Vals xs its.toList
noncomputable def SqT (K:PySem.W.Frag) (H:Hp) (a:Addr) (xs:List V):Prop:=
 Rd H a (.tup xs)∨
  ∃(o:Obj) (its:Array Value) (n:Nat),K.lookup a=some o/\o.cls=.type "tuple" /\o.data=.seq its n/\its.size<=sizeLine/\Vals xs its.toList
noncomputable def y3t:Value->Option V
 | .none=>some .non
 | .bool b=>some (.bl b)
 | .int i _=>some (.int i)
 | .str x _=>some (.str x)
 | .bytes b _=>some (.byt b)
 | .float b _=>some (.flt b)
 | .ref a=>some (.ref a)
 | .type n=>some (.ty n)
 | _=>none
theorem RelV.abs {x:V} {u:Value} (r:RelV x u):y3t u=some x:=by
 cases x with
 | non=>cases r;rfl
 | bl _=>cases r;rfl
 | int _=>obtain⟨t,rfl⟩:=r;rfl
 | str _=>obtain⟨t,rfl⟩:=r;rfl
 | byt _=>obtain⟨t,rfl⟩:=r;rfl
 | flt _=>obtain⟨t,rfl⟩:=r;rfl
 | ref _=>cases r;rfl
 | ty _=>cases r;rfl
 | stk _ _=>exact (show False from r).elim
theorem RelV.inj {x y:V} {u:Value} (r:RelV x u) (q:RelV y u):x=y:=Option.some.inj (r.abs.symm.trans q.abs)
theorem Vals.inj:∀ {xs ys:List V} {us:List Value},Vals xs us->Vals ys us->xs=ys
 | _,_,_,.nil,.nil=>rfl
 | _,_,_,.cons r t,.cons r' t'=>by rw[r.inj r',Vals.inj t t']
section
variable {X:Cx} {pins:List (Addr×Obj)} {σ:St} {H:Hp} {s:Shared} {a:Addr} {xs ys:List V}
theorem SqL.of {K:PySem.W.Frag} (h:H a=some (.lst xs)):SqL K H a xs:=.inl (.inl h)
theorem SqT.of {K:PySem.W.Frag} (h:H a=some (.tup xs)):SqT K H a xs:=.inl (.inl h)
theorem Inv.list (I:Inv X pins σ H s) (h:SqL X.K H a xs):∃its:List Value,Vals xs its/\PlainL s.heap a its.toArray/\xs.length<=sizeLine:=by
 rcases h with h|⟨o,its,n,hk,hc,hd,hs,hz,r⟩
 ·obtain⟨z,its,n,r,e⟩:=h.ok I.hok;exact⟨its,r,⟨_,n,e,rfl,rfl,rfl⟩,z⟩
 ·refine⟨its.toList,r,⟨o,n,I.kIn a o hk,hc,hd,by simpa using hs⟩,?_⟩;have e:=r.length;simp only [Array.length_toList] at e;omega
theorem Inv.tuple (I:Inv X pins σ H s) (h:SqT X.K H a xs):∃its:List Value,Vals xs its/\IsTup s.heap a its.toArray/\xs.length<=sizeLine:=by
 rcases h with h|⟨o,its,n,hk,hc,hs,hz,r⟩
 ·obtain⟨z,its,r,p⟩:=h.ok I.hok;exact⟨its,r,p,z⟩
 ·refine⟨its.toList,r,⟨o,I.kIn a o hk,hc,n,by simpa using hs⟩,?_⟩;have e:=r.length;simp only [Array.length_toList] at e;omega
theorem Inv.list_inj (I:Inv X pins σ H s) (h:SqL X.K H a xs) (h':SqL X.K H a ys):xs=ys:=by
 obtain⟨its,r,⟨o,n,e,_,_,d⟩,_⟩:=I.list h;obtain⟨its',r',⟨o',n',e',_,_,d'⟩,_⟩:=I.list h';rw[e] at e';cases e';rw[d] at d';injection d' with d1 _;have:its=its':=by simpa using congrArg Array.toList d1
 subst this;exact r.inj r'
theorem Inv.tuple_inj (I:Inv X pins σ H s) (h:SqT X.K H a xs) (h':SqT X.K H a ys):xs=ys:=by
 obtain⟨its,r,⟨o,e,_,n,d⟩,_⟩:=I.tuple h;obtain⟨its',r',⟨o',e',_,n',d'⟩,_⟩:=I.tuple h';rw[e] at e';cases e';rw[d] at d';injection d' with d1 _;have:its=its':=by simpa using congrArg Array.toList d1
 subst this;exact r.inj r'
end
noncomputable abbrev Cx.wish (X:Cx) (E:Value->Shared->Prop):Cx:={ X with xe:=E }
noncomputable abbrev Cx.nox (X:Cx):Cx:=X.wish fun _ _=>False
theorem Cx.Ok.wish {X:Cx} (ok:X.Ok) (E:Value->Shared->Prop):(X.wish E).Ok:=
 ⟨ok.mod,ok.kind,ok.glob,ok.blt,ok.above,ok.inj,ok.has,ok.cab,ok.hd,ok.frames,ok.stk,ok.exf,ok.bs,ok.bsz,ok.noex,ok.exfs,ok.funs,ok.frf⟩
theorem Cx.Ok.unwish {X:Cx} {E:Value->Shared->Prop} (ok:(X.wish E).Ok):X.Ok:=
 ⟨ok.mod,ok.kind,ok.glob,ok.blt,ok.above,ok.inj,ok.has,ok.cab,ok.hd,ok.frames,ok.stk,ok.exf,ok.bs,ok.bsz,ok.noex,ok.exfs,ok.funs,ok.frf⟩
section
variable {X:Cx} {pins:List (Addr×Obj)} {σ:St} {H:Hp} {s:Shared} {E:Value->Shared->Prop}
theorem Inv.wish (I:Inv X pins σ H s) (E:Value->Shared->Prop):Inv (X.wish E) pins σ H s:=⟨I.ok.wish E,I.os,I.bare,I.base,I.loc,I.cell,I.free,I.freeC,I.pin,I.hok,I.len⟩
theorem Inv.unwish (I:Inv (X.wish E) pins σ H s):Inv X pins σ H s:=⟨I.ok.unwish,I.os,I.bare,I.base,I.loc,I.cell,I.free,I.freeC,I.pin,I.hok,I.len⟩
theorem SP.unwish {D:Ends} {f:Flow} {s':Shared} (h:SP (X.wish E) pins D f s'):SP X pins D f s':=by
 cases f with
 | next=>obtain⟨σ',H',I,q⟩:=h;exact⟨σ',H',I.unwish,q⟩
 | brk=>obtain⟨σ',H',I,q⟩:=h;exact⟨σ',H',I.unwish,q⟩
 | cont=>obtain⟨σ',H',I,q⟩:=h;exact⟨σ',H',I.unwish,q⟩
 | ret u=>obtain⟨v,σ',H',I,r,q⟩:=h;exact⟨v,σ',H',I.unwish,r,q⟩
theorem PE.nox {e:Expr} {t:TE} (h:PE X.nox e t):PE X e t:=fun pins s σ H Q I hw=>
 wpAny_mono (h pins s σ H Q (I.wish _) hw) (fun _ _ ⟨v,H',I',r,q⟩=>⟨v,H',I'.unwish,r,q⟩) fun _ _ z=>False.elim z
theorem PT.nox {e:Expr} {t:TT} (h:PT X.nox e t):PT X e t:=fun pins s σ H Q I hw=>
 wpAny_mono (h pins s σ H Q (I.wish _) hw) (fun _ _ ⟨H',I',q⟩=>⟨H',I'.unwish,q⟩) fun _ _ z=>False.elim z
theorem PSs.nox {st:List Stmt} {t:TS} (h:PSs X.nox st t):PSs X st t:=fun pins s σ H D I hw=>
 wpAny_mono (h pins s σ H D (I.wish _) hw) (fun _ _ q=>q.unwish) fun _ _ z=>False.elim z
end
section
variable {X:Cx} {st:Stmt} {rest:List Stmt} {t u:TS} {e:Expr} {te:TE} {pos:Pos}
noncomputable def y0x:TS:=fun D σ H=>D.nx σ H
noncomputable def y2L (t u:TS):TS:=fun D σ H=>t { D with nx:=u D } σ H
theorem zL:PSs X [] y0x:=fun _ _ σ H _ I h=>wpAny_execs_nil ⟨σ,H,I,h⟩
theorem zC (h1:PS X st t) (h2:PSs X rest u):PSs X (st::rest) (y2L t u):=by
 intro pins s σ H D I h;refine wpAny_execs_cons (thn (h1 pins s σ H { D with nx:=u D } I h) fun f s1 q=>?_);cases f with
 | next=>
  obtain⟨σ',H',I',q⟩:=q;exact h2 pins s1 σ' H' D I' q
 | ret v=>exact q
 | brk=>exact q
 | cont=>exact q
theorem zJ (h1:PS X st t):PSs X [st] t:=by
 intro pins s σ H D I h;refine wpAny_execs_cons (thn (h1 pins s σ H D I h) fun f s1 q=>?_);cases f with
 | next=>exact wpAny_execs_nil q
 | ret v=>exact q
 | brk=>exact q
 | cont=>exact q
noncomputable def y1H:TS:=fun D σ H=>D.bk σ H
noncomputable def y2Y:TS:=fun D σ H=>D.ct σ H
theorem Inv.quiet {pins:List (Addr×Obj)} {σ:St} {H:Hp} {s:Shared} (I:Inv X pins σ H s):interactive X.env=false:=by simp [interactive,I.ok.kind]
noncomputable def y1E (te:TE):TS:=fun D σ H=>te σ H fun _ H1=>D.nx σ H1
theorem z0w (he:PE X e te) (hs:swapsWith e none pos.line X.env=pure false:=by rfl):PS X (.Expr e pos) (y1E te):=by
 intro pins s σ H D I h;exact wpAny_Expr_any (thn (he pins s σ H _ I h) fun v s1 ⟨x,H1,I1,r1,q1⟩=>⟨σ,H1,I1,q1⟩) I.quiet hs
noncomputable def y2T (te:TE):TS:=fun D σ H=>te σ H D.rt
theorem zR (he:PE X e te):PS X (.Return (some e) pos) (y2T te):=by
 intro pins s σ H D I h;exact wpAny_Return_some (thn (he pins s σ H _ I h) fun v s1 ⟨x,H1,I1,r1,q1⟩=>⟨x,σ,H1,I1,r1,q1⟩)
noncomputable def y2S:TS:=fun D _ H=>D.rt .non H
noncomputable def y1D (c:TT) (t u:TS):TS:=fun D σ H=>c σ H fun b H1=>if b=true then t D σ H1 else u D σ H1
theorem zl {c:Expr} {a b:List Stmt} {tc:TT} (hc:PT X c tc) (ha:PSs X a t) (hb:PSs X b u):PS X (.If c a b pos) (y1D tc t u):=by
 intro pins s σ H D I h;refine wpAny_If (thn (hc pins s σ H _ I h) fun d s1 ⟨H1,I1,q1⟩=>?_);cases d with
 | true=>exact ha pins s1 σ H1 D I1 q1
 | false=>exact hb pins s1 σ H1 D I1 q1
noncomputable def y0y:TS:=fun _ _ _=>False
theorem yJ:PS X st y0y:=fun _ _ _ _ _ _ h=>h.elim
end
noncomputable abbrev TG:=V->St->Hp->(St->Hp->Prop)->Prop
noncomputable abbrev TGs:=List V->St->Hp->(St->Hp->Prop)->Prop
noncomputable def PG (X:Cx) (target:Expr) (t:TG):Prop:=
 ∀(pins:List (Addr×Obj)) (s:Shared) (σ:St) (H:Hp) (v:V) (u:Value) (Q:St->Hp->Prop),Inv X pins σ H s->RelV v u->t v σ H Q->
  wpAny (model X.prog X.w) X.A (assign target X.env u) (fun _ s'=>∃σ' H',Inv X pins σ' H' s'/\Q σ' H') X.xe s
noncomputable def PGs (X:Cx) (ts:List Expr) (t:TGs):Prop:=
 ∀(pins:List (Addr×Obj)) (s:Shared) (σ:St) (H:Hp) (vs:List V) (us:List Value) (Q:St->Hp->Prop),Inv X pins σ H s->Vals vs us->t vs σ H Q->
  wpAny (model X.prog X.w) X.A (assignInOrder ((assignEach ts X.env).map (·.2)) us) (fun _ s'=>∃σ' H',Inv X pins σ' H' s'/\Q σ' H') X.xe s
noncomputable abbrev y3N:=V->V->V->Hp->(Hp->Prop)->Prop
noncomputable abbrev TIp:=V->V->Hp->VK->Prop
noncomputable def PIp (X:Cx) (op:Operator) (t:TIp):Prop:=
 ∀(pins:List (Addr×Obj)) (s:Shared) (σ:St) (H:Hp) (x y:V) (v u:Value) (Q:VK),Inv X pins σ H s->RelV x v->RelV y u->t x y H Q->
  wpAny (model X.prog X.w) X.A (inplaceOp op v u) (EP X pins σ Q) X.xe s
section
variable {X:Cx} {pos:Pos}
noncomputable def qH (i:Nat):TG:=fun v σ H Q=>Q (σ.set i (some v)) H
theorem zY {i:Nat} {x:Str} (hN:X.N.Nodup) (hi:X.N[i]?=some x) (hx:Loc X.env.scope x) (hf:X.fn x=true∨X.env.scope.names.lookup x=some .local:=by first|exact .inl rfl|exact .inr rfl|assumption):PG X (.Name x pos) (qH i):=by
 intro pins s σ H v u Q I r h;exact wpAny_assign_Name (yu I hN hi hx r (fun s' I'=>⟨_,H,I',h⟩) hf)
noncomputable def y2o:TGs:=fun vs σ H Q=>vs=[]/\Q σ H
noncomputable def z7I (t:TG) (u:TGs):TGs:=fun vs σ H Q=>∃v r,vs=v::r/\t v σ H fun σ' H'=>u r σ' H' Q
theorem xg:PGs X [] y2o:=by
 intro pins s σ H vs us Q I r h;obtain⟨e,h⟩:=h;subst e;cases r;exact assignInOrder_nil ⟨σ,H,I,h⟩
theorem zj {e:Expr} {es:List Expr} {t:TG} {u:TGs} (h1:PG X e t) (h2:PGs X es u)
  (hs:(assignEach (e::es) X.env).map (·.2)=assign e X.env::(assignEach es X.env).map (·.2):=by rfl):PGs X (e::es) (z7I t u):=by
 intro pins s σ H vs us Q I r h;obtain⟨v,vr,e1,h⟩:=h;subst e1;cases r with
 | cons r rr=>
  rw[hs];refine assignInOrder_cons (thn (h1 pins s σ H _ _ _ I r h) fun _ s1 ⟨σ1,H1,I1,q1⟩=>?_);exact h2 pins s1 σ1 H1 _ _ Q I1 rr q1
noncomputable def y3L (K:PySem.W.Frag) (n:Nat) (t:TGs):TG:=fun v σ H Q=>∃a xs,v=.ref a/\SqT K H a xs/\xs.length=n/\t xs σ H Q
theorem we {es:List Expr} {k:Nat} {t:TGs} {n:Nat} (hc:X.calm=true) (h:PGs X es t)
  (hn:(assignEach es X.env).length=n:=by rfl) (hst:(assignEach es X.env).findIdx? (·.1)=none:=by rfl):PG X (.Tuple es k pos) (y3L X.K n t):=by
 intro pins s σ H v u Q I r hw;obtain⟨a,xs,e1,hq,hl,hw⟩:=hw;subst e1;cases r;obtain⟨its,rv,ht,hz⟩:=I.tuple hq;refine assign_Tuple_tuple (I.ok.hd hc) ht (by simp [hn,←hl,rv.length]) hst fun h' hx=>?_;have I1:Inv X pins σ H { s with heap:=h' }:=I.kept (t':=s.toks) fun b o e=>hx b o (Nat.ne_of_lt (Heap.lt_size e)) e;exact h pins _ σ H xs _ Q I1 (by simpa using rv) hw
noncomputable def y3o (to ti:TE) (t:y3N):TG:=fun v σ H Q=>to σ H fun o H1=>ti σ H1 fun i H2=>t o i v H2 fun H3=>Q σ H3
noncomputable def z9k (te:TE) (g:TG):TS:=fun D σ H=>te σ H fun x H1=>g x σ H1 D.nx
theorem z4O {tg e:Expr} {te:TE} {g:TG} (he:PE X e te) (hg:PG X tg g) (hs:swapsWithSole [tg] e pos.line X.env=pure false:=by rfl) (hw:swappedStores [tg] e X.env=pure none:=by rfl)
  (h1:(assignEach [tg] X.env).map (·.2)=[assign tg X.env]:=by rfl):PS X (.Assign [tg] e pos) (z9k te g):=by
 intro pins s σ H D I h;refine wpAny_Assign_stores (thn (he pins s σ H _ I h) fun v s1 ⟨x,H1,I1,r1,q1⟩=>?_) hs hw;rw[h1];exact thn (hg pins s1 σ H1 x v _ I1 r1 q1) fun _ s2 q=>q
theorem zP {i:Nat} {x:Str} {e:Expr} {te:TE} {pos':Pos} (hN:X.N.Nodup) (hi:X.N[i]?=some x) (hx:Loc X.env.scope x) (he:PE X e te) (hs:swapsWith e (some (.Name x pos')) pos.line X.env=pure false:=by rfl) (hf:X.fn x=true∨X.env.scope.names.lookup x=some .local:=by first|exact .inl rfl|exact .inr rfl|assumption) :
  PS X (.Assign [.Name x pos'] e pos) (z9k te (qH i)):=by
 intro pins s σ H D I h;refine wpAny_Assign_Name (thn (he pins s σ H _ I h) fun v s1 ⟨y,H1,I1,r1,q1⟩=>?_) hs;exact yu I1 hN hi hx r1 (fun s2 I2=>⟨_,H1,I2,q1⟩) hf
noncomputable def y3W (i j:Nat) (ta:TA):TS:=fun D σ H=>ta σ H fun vs H1=>∃v w,vs=[v,w]/\D.nx ((σ.set i (some v)).set j (some w)) H1
noncomputable def y3B (i:Nat) (te:TE) (ti:TIp):TS:=fun D σ H=>∃x,σ[i]?=some (some x)/\te σ H fun y H1=>ti (unS x) y H1 fun z H2=>D.nx (σ.set i (some z)) H2
theorem y1W {i:Nat} {x:Str} {e:Expr} {te:TE} {op:Operator} {ti:TIp} {pos':Pos} (hN:X.N.Nodup) (hi:X.N[i]?=some x) (hx:Loc X.env.scope x) (he:PE X e te) (ho:PIp X op ti) (hf:X.fn x=true∨X.env.scope.names.lookup x=some .local:=by first|exact .inl rfl|exact .inr rfl|assumption) :
  PS X (.AugAssign (.Name x pos') op e pos) (y3B i te ti):=by
 intro pins s σ H D I h;obtain⟨v,e1,h⟩:=h;obtain⟨m,hn,hl⟩:=I.loc;have vis:Vis X.env.scope x:=by rcases hx with k|k;exact .inl k;exact .inr (.inl k)
 obtain⟨u,r,l⟩:=hl i x v hi e1 vis;refine wpAny_AugAssign_Name ?_;have go:wpAny (model X.prog X.w) X.A (eval e X.env) (fun w s₂=>wpAny (model X.prog X.w) X.A (inplaceOp op u w) (fun r s₃=>wpAny (model X.prog X.w) X.A (storeName X.env x r) (fun _=>SP X pins D .next) X.xe s₃) X.xe s₂) X.xe s:=by
  refine thn (he pins s σ H _ I h) fun w s1 ⟨y,H1,I1,r1,q1⟩=>?_;refine thn (ho pins s1 σ H1 (unS v) y u w _ I1 r.un r1 q1) fun z s2 ⟨zv,H2,I2,r2,q2⟩=>?_;exact yu I2 hN hi hx r2 (fun s3 I3=>⟨_,H2,I3,q2⟩) hf
 rcases l with⟨hk,hm⟩|⟨hk,c,hc,hcell⟩
 ·exact wpAny_loadName_local I.ok.kind hk hn hm go
 ·rcases hk with hk|hk
  ·exact wpAny_loadName_cell I.ok.kind hk hc hcell go
  ·rcases hx with k|k
   ·have:X.env.scope.names.lookup x=some .free:=hk;rw[k] at this;cases this
   ·have:X.env.scope.names.lookup x=some .free:=hk;rw[k] at this;cases this
noncomputable def ipI (f:Int->Int->Int):TIp:=fun x y H Q=>∃i j,x=.int i/\y=.int j/\Q (.int (f i j)) H
theorem y1t:PIp X .Add (ipI fun i j=>i+j):=by
 intro pins s σ H x y v u Q I r1 r2 h;obtain⟨i,j,e1,e2,q⟩:=h;subst e1;subst e2;obtain⟨t,rfl⟩:=r1;obtain⟨t',rfl⟩:=r2;exact iadd_int ⟨.int _,H,I.tok _,⟨_,rfl⟩,q⟩
end
section
variable {X:Cx} {pos:Pos}
noncomputable def y0t (c:TT) (tb:TS):TS:=fun D σ H=>∃W:Nat->St->Hp->Prop,(∃m,W m σ H)/\∀m σ H,W m σ H->
 c σ H fun b H1=>if b=true then ∃N:St->Hp->Prop,(∀σ' H',N σ' H'->∃m',m'<m/\W m' σ' H')/\tb { D with nx:=N,ct:=N,bk:=D.nx } σ H1 else D.nx σ H1
theorem z4N {c:Expr} {body:List Stmt} {tc:TT} {tb:TS} (hp:PassesOwn (model X.prog X.w) X.A X.env X.xe) (hc:PT X c tc) (hb:PSs X body tb):PS X (.While c body [] pos) (y0t tc tb):=by
 intro pins s σ H D I h;obtain⟨W,⟨m0,w0⟩,turn⟩:=h;refine wpAny_While (codeAny_whileLoop (fun n s'=>∃σ' H',Inv X pins σ' H' s'/\W n σ' H') ?_ m0 ⟨σ,H,I,w0⟩);rintro n s1 ⟨σ1,H1,I1,w1⟩;refine wpAny_passesOwn hp (thn (hc pins s1 σ1 H1 _ I1 (turn n σ1 H1 w1)) fun b s2 ⟨H2,I2,q2⟩=>?_);cases b with
 | true=>
  obtain⟨N,hN,q2⟩:=q2;rw[if_pos rfl];refine wpAny_passesOwn hp (thn (hb pins s2 σ1 H2 _ I2 q2) fun f s3 q3=>?_);cases f with
  | next=>
   obtain⟨σ3,H3,I3,n3⟩:=q3;obtain⟨m',hm,w3⟩:=hN σ3 H3 n3;exact⟨m',hm,σ3,H3,I3,w3⟩
  | cont=>
   obtain⟨σ3,H3,I3,n3⟩:=q3;obtain⟨m',hm,w3⟩:=hN σ3 H3 n3;exact⟨m',hm,σ3,H3,I3,w3⟩
  | brk=>exact q3
  | ret v=>exact q3
 | false=>
  rw[if_neg Bool.false_ne_true];exact wpAny_execs_nil ⟨σ1,H2,I2,q2⟩
end
structure It where
 go:Nat->Hp->Prop
 yld:Nat->Hp->V->Hp->Prop
 stop:Nat->Hp->Prop
noncomputable def z3j (X:Cx) (pins:List (Addr×Obj)) (H:Hp) (b:Addr):Prop:=
 H b=none/\b≠X.env.locals/\b∉X.fs/\(b∈X.ex∨X.s₀.heap.objs.size<=b)/\(∀x c,X.env.cells.lookup x=some c->c≠b)/\∀p∈X.pn++pins,p.1≠b
theorem Inv.fpOk {X:Cx} {pins:List (Addr×Obj)} {σ:St} {H H':Hp} {s:Shared} {b:Addr} (I:Inv X pins σ H s) (hb:s.heap.objs.size<=b) (hn:H' b=none):z3j X pins H' b:=by
 refine⟨hn,Nat.ne_of_gt (Nat.lt_of_lt_of_le I.lt hb),I.nofs hb,.inr (Nat.le_trans I.sz hb),fun x c e z=>?_,fun p hp z=>?_⟩
 ·obtain⟨v,q⟩:=I.cell x c e;exact absurd (Nat.lt_of_lt_of_le q.lt (by rw[z];exact hb)) (Nat.lt_irrefl _)
 ·exact absurd (Nat.lt_of_lt_of_le (Heap.lt_size (I.pin p hp).1) (by rw[z];exact hb)) (Nat.lt_irrefl _)
structure Turn (P:Program) (w:World) (K:PySem.W.Frag) (tg:Expr) (J:It) (fp:List Addr) (it:Addr) (tn:Nat->Heap->Prop):Prop where
 mem:it∈fp
 obj:∀i h,tn i h->∀b∈fp,∃o,h.get? b=some o/\∀v,o.data≠.cell v
 keep:∀i h h',tn i h->(∀b∈fp,∀o,h.get? b=some o->h'.get? b=some o)->tn i h'
 item:∀(X:Cx),X.prog=P->X.w=w->X.K=K->X.calm=true->∀(i:Nat) (pins:List (Addr×Obj)) (s:Shared) (σ:St) (H:Hp) (E:Value->Shared->Prop),Inv X pins σ H s->(∀b∈fp,z3j X pins H b)->tn i s.heap->J.go i H->
  wpAny (model P w) X.A (pyNext (.ref it)) (fun r s1=>∃u,r=some u/\
   wpAny (model P w) X.A (letOwnedTupleGo tg (.ref it) u) (fun _ s2=>∃x H',Inv X pins σ H' s2/\RelV x u/\J.yld i H x H'/\tn (i+1) s2.heap/\∀b∈fp,H' b=none) E s1) E s
 done:∀(X:Cx),X.prog=P->X.w=w->X.K=K->X.calm=true->∀(i:Nat) (pins:List (Addr×Obj)) (s:Shared) (σ:St) (H:Hp) (E:Value->Shared->Prop),Inv X pins σ H s->(∀b∈fp,z3j X pins H b)->tn i s.heap->J.stop i H->
  wpAny (model P w) X.A (pyNext (.ref it)) (fun r s1=>r=none/\Inv X pins σ H s1) E s
 self:∀(A:Around) (i:Nat) (s:Shared) (Q:Value->Shared->Prop) (E:Value->Shared->Prop),tn i s.heap->Q (.ref it) s->wpAny (model P w) A (pyIter (.ref it)) Q E s
noncomputable abbrev TI:=St->Hp->(It->Hp->Prop)->Prop
noncomputable def PIE (X:Cx) (pins:List (Addr×Obj)) (σ:St) (tg:Expr) (R:It->Hp->Prop) (itv:Value) (s2:Shared):Prop:=
 ∃(it:Addr) (fp:List Addr) (tn:Nat->Heap->Prop) (J:It) (H':Hp),itv=.ref it/\Inv X pins σ H' s2/\Turn X.prog X.w X.K tg J fp it tn/\tn 0 s2.heap/\(∀b∈fp,z3j X pins H' b)/\R J H'
noncomputable def PI (X:Cx) (tg iter:Expr) (wi:TI):Prop:=
 ∀(pins:List (Addr×Obj)) (s:Shared) (σ:St) (H:Hp) (R:It->Hp->Prop),Inv X pins σ H s->wi σ H R->
  wpAny (model X.prog X.w) X.A (eval iter X.env) (fun v s1=>wpAny (model X.prog X.w) X.A (pyIter v) (PIE X pins σ tg R) X.xe s1) X.xe s
theorem z5c {M:Model} {A:Around} {E:Value->Shared->Prop} {s:Shared} {tg:Expr} {it:Addr} {u:Value} {o:Obj} {n:String} {vs:Array Value} {Q:Unit->Shared->Prop} (ho:s.heap.get? it=some o) (hc:o.cls=.type n) (hd:o.data=.fields vs)
    (hn:["enumerate", "zip", "dict_itemiterator", "dict_reverseitemiterator", "odict_iterator", "itertools.zip_longest", "itertools.pairwise"].contains n=false) (hQ:Q () s):wpAny M A (letOwnedTupleGo tg (.ref it) u) Q E s:=by
  unfold letOwnedTupleGo;cases tg <;> first
    | exact wpAny_pure hQ
    | (cases u <;> first
        | exact wpAny_pure hQ
        | (refine wpAny_bind (wpAny_load ho ?_)
           rw[hc,hd];show wpAny M A (if (["enumerate", "zip", "dict_itemiterator", "dict_reverseitemiterator", "odict_iterator", "itertools.zip_longest", "itertools.pairwise"].contains n && vs[0]? == some (rawInt _))=true then _ else _) Q E s;rw[if_neg (by intro h;rw[hn,Bool.false_and] at h;cases h)];exact wpAny_pure hQ))
noncomputable def Itl (K:PySem.W.Frag) (a:Addr):It:=
 ⟨fun i H=>∃xs x,SqL K H a xs/\xs[i]?=some x,fun i H x H'=>H'=H/\∀xs,SqL K H a xs->xs[i]?=some x,fun i H=>∃xs,SqL K H a xs/\xs.length<=i⟩
noncomputable def Itt (K:PySem.W.Frag) (a:Addr):It:=
 ⟨fun i H=>∃xs x,SqT K H a xs/\xs[i]?=some x,fun i H x H'=>H'=H/\∀xs,SqT K H a xs->xs[i]?=some x,fun i H=>∃xs,SqT K H a xs/\xs.length<=i⟩
noncomputable def Itr (lo:Int) (n:Nat):It:=⟨fun i _=>i<n,fun i H x H'=>H'=H/\x=.int (lo+i),fun i _=>n<=i⟩
theorem z5s {P:Program} {w:World} {K:PySem.W.Frag} {tg:Expr} (a it:Addr):Turn P w K tg (Itl K a) [it] it (fun i h=>h.IsListIter it a i) where
 mem:=by simp
 obj:=fun i h st b hb=>by
  have e:b=it:=by simpa using hb
  subst e;obtain⟨o,e,c,d⟩:=st;exact⟨o,e,fun v z=>by rw[d] at z;cases z⟩
 keep:=fun i h h' st k=>st.at fun o e=>k it (by simp) o e
 item:=by
  intro X hP hw hK hc i pins s σ H E I hf st hg;subst hP hw hK;obtain⟨xs,x,hq,hx⟩:=hg;obtain⟨its,rv,p,hz⟩:=I.list hq;obtain⟨u,hu,ru⟩:=rv.get hx;obtain⟨f0,f1,f2,f3,f4,f5⟩:=hf it (by simp);refine wpAny_pyNext_list_item st p.isList (x:=u) (by simpa using hu) fun h' st' sb=>?_;have I1:Inv X pins σ H { s with heap:=h' }:=I.turned (t':=s.toks) (fun b o hb e=>(sb.2 b hb).trans e) f0 f1 f3 f4 f5;obtain⟨o,e,c,d⟩:=id st';exact⟨u,rfl,z5c (s:={ s with heap:=h' }) e c d (by decide) ⟨x,H,I1,ru,⟨rfl,fun ys hy=>by rw[I.list_inj hy hq];exact hx⟩,st',fun b hb=>(hf b hb).1⟩⟩
 done:=by
  intro X hP hw hK hc i pins s σ H E I hf st hg;subst hP hw hK;obtain⟨xs,hq,hx⟩:=hg;obtain⟨its,rv,p,hz⟩:=I.list hq;obtain⟨f0,f1,f2,f3,f4,f5⟩:=hf it (by simp);have hl:=rv.length;exact wpAny_pyNext_list_end (I.ok.hd hc) st p.isList (by simp;omega) fun h' eb=>⟨rfl,I.turned (t':=s.toks) (fun b o hb e=>eb b o hb e) f0 f1 f3 f4 f5⟩
 self:=fun _ _ _ _ _ st h=>wpAny_pyIter_listiter st h
theorem z5B {P:Program} {w:World} {K:PySem.W.Frag} {tg:Expr} (a it:Addr):Turn P w K tg (Itt K a) [it] it (fun i h=>h.IsTupleIter it a i) where
 mem:=by simp
 obj:=fun i h st b hb=>by
  have e:b=it:=by simpa using hb
  subst e;obtain⟨o,e,c,d⟩:=st;exact⟨o,e,fun v z=>by rw[d] at z;cases z⟩
 keep:=fun i h h' st k=>st.at fun o e=>k it (by simp) o e
 item:=by
  intro X hP hw hK hc i pins s σ H E I hf st hg;subst hP hw hK;obtain⟨xs,x,hq,hx⟩:=hg;obtain⟨its,rv,p,hz⟩:=I.tuple hq;obtain⟨u,hu,ru⟩:=rv.get hx;obtain⟨f0,f1,f2,f3,f4,f5⟩:=hf it (by simp);refine wpAny_pyNext_tuple_item st (show s.heap.IsTuple a its.toArray from p) (x:=u) (by simpa using hu) fun h' st' sb=>?_;have I1:Inv X pins σ H { s with heap:=h' }:=I.turned (t':=s.toks) (fun b o hb e=>(sb.2 b hb).trans e) f0 f1 f3 f4 f5;obtain⟨o,e,c,d⟩:=id st';exact⟨u,rfl,z5c (s:={ s with heap:=h' }) e c d (by decide) ⟨x,H,I1,ru,⟨rfl,fun ys hy=>by rw[I.tuple_inj hy hq];exact hx⟩,st',fun b hb=>(hf b hb).1⟩⟩
 done:=by
  intro X hP hw hK hc i pins s σ H E I hf st hg;subst hP hw hK;obtain⟨xs,hq,hx⟩:=hg;obtain⟨its,rv,p,hz⟩:=I.tuple hq;obtain⟨f0,f1,f2,f3,f4,f5⟩:=hf it (by simp);have hl:=rv.length;exact wpAny_pyNext_tuple_end (I.ok.hd hc) st (show s.heap.IsTuple a its.toArray from p) (by simp;omega) fun h' eb=>⟨rfl,I.turned (t':=s.toks) (fun b o hb e=>eb b o hb e) f0 f1 f3 f4 f5⟩
 self:=fun _ _ _ _ _ st h=>wpAny_pyIter_tupleiter st h
theorem z5D {P:Program} {w:World} {K:PySem.W.Frag} {tg:Expr} (it:Addr) (lo:Int) (n:Nat):Turn P w K tg (Itr lo n) [it] it (fun i h=>IsRangeIter h it (lo+(i:Nat)*1) ((n:Int)-(i:Nat)) 1) where
 mem:=by simp
 obj:=fun i h st b hb=>by
  have e:b=it:=by simpa using hb
  subst e;exact⟨_,st,fun v z=>by
   have z':Data.fields _=Data.cell v:=z;cases z'⟩
 keep:=fun i h h' st k=>k it (by simp) _ st
 item:=by
  intro X hP hw hK hc i pins s σ H E I hf st hg;subst hP hw hK;obtain⟨f0,f1,f2,f3,f4,f5⟩:=hf it (by simp);have W:=Walks.range (prog:=X.prog) (w:=X.w) (I.ok.hd hc) it lo 1 n;refine W.item i s _ _ hg st fun v h' tk hv st' kk=>?_;obtain⟨t,rfl⟩:=hv;have I1:Inv X pins σ H { s with heap:=h',toks:=tk }:=I.turned (fun b o hb e=>kk b o (by simpa using hb) e) f0 f1 f3 f4 f5;refine⟨_,rfl,z5c (s:={ s with heap:=h',toks:=tk }) (n:= "range_iterator") st' rfl rfl (by decide) ⟨.int (lo+i),H,I1,⟨t,?_⟩,⟨rfl,rfl⟩,st',fun b hb=>(hf b hb).1⟩⟩;rw[Int.mul_one]
 done:=by
  intro X hP hw hK hc i pins s σ H E I hf st hg;subst hP hw hK;obtain⟨f0,f1,f2,f3,f4,f5⟩:=hf it (by simp);exact wpAny_pyNext_range_end (I.ok.hd hc) st (by have:n<=i:=hg;omega) fun h' eb=>⟨rfl,I.turned (t':=s.toks) (fun b o hb e=>eb b o hb e) f0 f1 f3 f4 f5⟩
 self:=fun _ _ _ _ _ st h=>wpAny_pyIter_rangeiter st h
section
variable {X:Cx} {tg:Expr}
noncomputable def y1x (K:PySem.W.Frag) (tl:TE):TI:=fun σ H R=>tl σ H fun x H1=>∃a,x=.ref a/\(∃xs,SqL K H1 a xs)/\R (Itl K a) H1
noncomputable def y3J (K:PySem.W.Frag) (tl:TE):TI:=fun σ H R=>tl σ H fun x H1=>∃a,x=.ref a/\(∃xs,SqT K H1 a xs)/\R (Itt K a) H1
theorem y7 {l:Expr} {tl:TE} (hl:PE X l tl):PI X tg l (y1x X.K tl):=by
 intro pins s σ H R I h;refine thn (hl pins s σ H _ I h) fun v s1 ⟨x,H1,I1,r1,q1⟩=>?_;obtain⟨a,e,⟨xs,hq⟩,q⟩:=q1;subst e;cases r1;obtain⟨its,rv,p,hz⟩:=I1.list hq;refine wpAny_pyIter_list p.isList ?_;refine⟨s1.heap.objs.size,[s1.heap.objs.size],_,_,H1,rfl,I1.kept (t':=s1.toks) fun b o e=>Heap.get?_push_of_some _ e,z5s a _,⟨_,Heap.get?_push_size _ rfl,rfl,rfl⟩,fun b hb=>?_,q⟩;have e:b=s1.heap.objs.size:=by simpa using hb
 subst e;exact I1.fpOk (Nat.le_refl _) (I1.hok.fresh (Nat.le_refl _))
theorem z9T {l:Expr} {tl:TE} (hl:PE X l tl):PI X tg l (y3J X.K tl):=by
 intro pins s σ H R I h;refine thn (hl pins s σ H _ I h) fun v s1 ⟨x,H1,I1,r1,q1⟩=>?_;obtain⟨a,e,⟨xs,hq⟩,q⟩:=q1;subst e;cases r1;obtain⟨its,rv,p,hz⟩:=I1.tuple hq;refine wpAny_pyIter_tuple (show s1.heap.IsTuple a its.toArray from p) ?_;refine⟨s1.heap.objs.size,[s1.heap.objs.size],_,_,H1,rfl,I1.kept (t':=s1.toks) fun b o e=>Heap.get?_push_of_some _ e,z5B a _,⟨_,Heap.get?_push_size _ rfl,rfl,rfl⟩,fun b hb=>?_,q⟩;have e:b=s1.heap.objs.size:=by simpa using hb
 subst e;exact I1.fpOk (Nat.le_refl _) (I1.hok.fresh (Nat.le_refl _))
theorem z8H {pins:List (Addr×Obj)} {σ:St} {H:Hp} {s:Shared} {R:It->Hp->Prop} {E:Value->Shared->Prop} {lo hi:Int} {t u v:Tok} {tk:Nat} (I:Inv X pins σ H s) (h1:-(2^62)<=lo) (h2:lo<2^62) (h3:-(2^62)<=hi) (h4:hi<2^62)
  (q:R (Itr lo (hi-lo).toNat) H):wpAny (model X.prog X.w) X.A (pyIter (.ref s.heap.objs.size)) (PIE X pins σ tg R) E { s with heap:=s.heap.push { cls:=.type "range",data:=.fields #[.int lo t,.int hi u,.int 1 v] },toks:=tk }:=by
 refine wpAny_pyIter_range (IsRange.new ..) (small_one h1 h2 h3 h4) ?_;have I1:Inv X pins σ H { s with heap:=s.heap.push { cls:=.type "range",data:=.fields #[.int lo t,.int hi u,.int 1 v] },toks:=tk }:=I.kept fun b o e=>Heap.get?_push_of_some _ e;refine⟨(s.heap.push { cls:=.type "range",data:=.fields #[.int lo t,.int hi u,.int 1 v] }).objs.size,[(s.heap.push { cls:=.type "range",data:=.fields #[.int lo t,.int hi u,.int 1 v] }).objs.size],_,_,H,rfl,
  I1.kept (t':=tk) fun b o e=>Heap.get?_push_of_some _ e,z5D _ lo (hi-lo).toNat,?_,fun b hb=>?_,q⟩
 ·have e1:lo+((0:Nat):Int)*1=lo:=by simp
  have e2:(((hi-lo).toNat:Nat):Int)-((0:Nat):Int)=Builtin.Range.rangeSize lo hi 1:=by rw[rangeSize_one];split <;> omega
  show IsRangeIter _ _ (lo+((0:Nat):Int)*1) ((((hi-lo).toNat:Nat):Int)-((0:Nat):Int)) 1;rw[e1,e2];exact Heap.get?_push_size _ rfl
 ·have e:b=(s.heap.push { cls:=.type "range",data:=.fields #[.int lo t,.int hi u,.int 1 v] }).objs.size:=by simpa using hb
  subst e;exact I1.fpOk (Nat.le_refl _) (I1.hok.fresh (Nat.le_refl _))
noncomputable def y1w (ta:TA):TI:=fun σ H R=>ta σ H fun vs H1=>∃j:Int,vs=[.int j]/\-(2^62)<=j/\j<2^62/\R (Itr 0 j.toNat) H1
noncomputable def y2k (ta:TA):TI:=fun σ H R=>ta σ H fun vs H1=>∃i j:Int,vs=[.int i,.int j]/\(-(2^62)<=i/\i<2^62/\-(2^62)<=j/\j<2^62)/\R (Itr i (j-i).toNat) H1
theorem x5 {a:Expr} {ta:TA} {p pos:Pos} (hg:Gl X "range") (hm:X.mg "range" = none) (ha:PA X [a] ta) (hs:starEach [a] X.env=[(false,eval a X.env)]:=by rfl):PI X tg (.Call (.Name "range" p) [a] [] pos) (y1w ta):=by
 intro pins s σ H R I h;refine Call_ (vC I hg hm boot_range (PyProof.Rows.callWith_type1 (thn (ha pos pins s σ H _ I h) fun us s1 ⟨vs,H1,I1,r1,q1⟩=>?_) hs rfl));obtain⟨j,e,q1,q2,q⟩:=q1;subst e;cases r1 with
 | cons r rr=>
  cases rr;obtain⟨t,rfl⟩:=r;exact call_range_1 (z8H I1 (by omega) (by omega) q1 q2 (by simpa using q))
noncomputable def y2X (wi:TI) (g:TG) (tb:TS):TS:=fun D σ H=>wi σ H fun J H1=>∃W:Nat->Nat->St->Hp->Prop,(∃m,W 0 m σ H1)/\∀i m σ H,W i m σ H->
 (J.stop i H/\D.nx σ H)∨(J.go i H/\∃N:St->Hp->Prop,(∀σ' H',N σ' H'->∃m',m'<m/\W (i+1) m' σ' H')/\∀x H',J.yld i H x H'->g x σ H' fun σ2 H2=>tb { D with nx:=N,ct:=N,bk:=D.nx } σ2 H2)
noncomputable def vk (fp:List Addr) (h:Heap):List (Addr×Obj):=fp.filterMap fun b=>(h.get? b).map fun o=>(b,o)
theorem yx {fp:List Addr} {h:Heap} {b:Addr} {o:Obj} (hb:b∈fp) (e:h.get? b=some o):(b,o)∈vk fp h:=List.mem_filterMap.mpr ⟨b,hb,by rw[e];rfl⟩
theorem z6d {fp:List Addr} {h:Heap} {p:Addr×Obj} (hp:p∈vk fp h):p.1∈fp/\h.get? p.1=some p.2:=by
 obtain⟨b,hb,e⟩:=List.mem_filterMap.mp hp;cases q:h.get? b with
 | none=>rw[q] at e;cases e
 | some o=>
  rw[q] at e;have e':(b,o)=p:=Option.some.inj e;subst e';exact⟨hb,q⟩
theorem Inv.pinned {pins:List (Addr×Obj)} {σ:St} {H:Hp} {s:Shared} {fp:List Addr} (I:Inv X pins σ H s) (hf:∀b∈fp,z3j X pins H b) (ho:∀b∈fp,∃o,s.heap.get? b=some o/\∀v,o.data≠.cell v):Inv X (pins++vk fp s.heap) σ H s:=
 I.pins_of fun p hp=>(List.mem_append.mp hp).elim (fun z=>I.pin p (List.mem_append_right _ z)) fun z=>by
  obtain⟨hb,e⟩:=z6d z;obtain⟨f0,f1,f2,_⟩:=hf p.1 hb;obtain⟨o,e',d⟩:=ho p.1 hb;rw[e] at e';cases e';exact⟨e,f0,f1,f2,d⟩
theorem Inv.unpinned {pins pl:List (Addr×Obj)} {σ:St} {H:Hp} {s:Shared} (I:Inv X (pins++pl) σ H s):Inv X pins σ H s:=I.pins_of fun p hp=>I.pin p (List.mem_append_right _ (List.mem_append_left _ hp))
theorem xZ {iter:Expr} {body:List Stmt} {wi:TI} {g:TG} {tb:TS} {pos:Pos} (hp:PassesOwn (model X.prog X.w) X.A X.env X.xe) (hc:X.calm=true) (hi:PI X tg iter wi) (hg:PG X tg g) (hb:PSs X body tb)
  (hs:∀x,foldedSetIterable iter X.env x=pure x:=by intro _;rfl):PS X (.For tg iter body [] pos) (y2X wi g tb):=by
 intro pins s σ H D I h;refine wpAny_For (thn (hi pins s σ H _ I h) fun v s1 h1=>thn h1 fun itv s2 h2=>?_) hs;obtain⟨it,fp,tn,J,H2,e,I2,T,st2,f2,W,⟨m0,w0⟩,turn⟩:=h2;subst e;have stat:∀ {H':Hp},(∀b∈fp,H' b=none)->∀b∈fp,z3j X pins H' b:=fun hn b hb=>⟨hn b hb,(f2 b hb).2⟩
 refine codeAny_forLoop_any (fun n s'=>∃i σ' H',Inv X pins σ' H' s'/\tn i s'.heap/\(∀b∈fp,H' b=none)/\W i n σ' H') ?_ m0 ⟨0,σ,H2,I2,st2,fun b hb=>(f2 b hb).1,w0⟩;rintro n s3 ⟨i,σ3,H3,I3,st3,fr3,w3⟩;rcases turn i n σ3 H3 w3 with⟨stop,qn⟩|⟨go,N,hN,step⟩
 ·refine wpAny_passesOwn hp (thn (T.done X rfl rfl rfl hc i pins s3 σ3 H3 X.xe I3 (stat fr3) st3 stop) fun r s4 ⟨hr,I4⟩=>?_);subst hr;exact wpAny_execs_nil ⟨σ3,H3,I4,qn⟩
 ·refine wpAny_passesOwn hp (thn (T.item X rfl rfl rfl hc i pins s3 σ3 H3 X.xe I3 (stat fr3) st3 go) fun r s4 ⟨u,hr,h4⟩=>?_);subst hr;refine wpAny_passesOwn hp (thn h4 fun _ s5 ⟨x,H5,I5,r5,y5,st5,fr5⟩=>?_);have I5':=I5.pinned (stat fr5) (T.obj _ _ st5);refine wpAny_passesOwn hp (thn (hg _ s5 σ3 H5 x u _ I5' r5 (step x H5 y5)) fun _ s6 ⟨σ6,H6,I6,q6⟩=>?_);refine wpAny_passesOwn hp (thn (hb _ s6 σ6 H6 _ I6 q6) fun f s7 q7=>?_);have again:∀ {σ7:St} {H7:Hp},Inv X (pins++vk fp s5.heap) σ7 H7 s7->N σ7 H7->∃m,m<n/\∃i σ' H',Inv X pins σ' H' s7/\tn i s7.heap/\(∀b∈fp,H' b=none)/\W i m σ' H':=fun {σ7 H7} I7 n7=>by
   obtain⟨m',hm,w7⟩:=hN σ7 H7 n7;refine⟨m',hm,i+1,σ7,H7,I7.unpinned,T.keep _ _ _ st5 fun b hb o e=>(I7.pin (b,o) (List.mem_append_right _ (List.mem_append_right _ (yx hb e)))).1,fun b hb=>?_,w7⟩;obtain⟨o,e,d⟩:=T.obj _ _ st5 b hb;exact (I7.pin (b,o) (List.mem_append_right _ (List.mem_append_right _ (yx hb e)))).2.1
  cases f with
  | next=>obtain⟨σ7,H7,I7,n7⟩:=q7;exact again I7 n7
  | cont=>obtain⟨σ7,H7,I7,n7⟩:=q7;exact again I7 n7
  | brk=>obtain⟨σ7,H7,I7,q7⟩:=q7;exact⟨σ7,H7,I7.unpinned,q7⟩
  | ret v=>obtain⟨x7,σ7,H7,I7,r7,q7⟩:=q7;exact⟨x7,σ7,H7,I7.unpinned,r7,q7⟩
end
theorem z8t {K:PySem.W.Frag} {a:Addr} {xs:List V} {g:TG} {tb:TS} {D:Ends} {σ:St} {H:Hp} (Pv:Nat->St->Hp->Prop) (h0:Pv 0 σ H) (hl:∀i σ H,i<=xs.length->Pv i σ H->SqL K H a xs)
  (hs:∀i x σ H,xs[i]?=some x->Pv i σ H->g x σ H fun σ2 H2=>tb { D with nx:=Pv (i+1),ct:=Pv (i+1),bk:=D.nx } σ2 H2) (hd:∀σ H,Pv xs.length σ H->D.nx σ H) :
  ∃W:Nat->Nat->St->Hp->Prop,(∃m,W 0 m σ H)/\∀i m σ H,W i m σ H->
   ((Itl K a).stop i H/\D.nx σ H)∨((Itl K a).go i H/\∃N:St->Hp->Prop,(∀σ' H',N σ' H'->∃m',m'<m/\W (i+1) m' σ' H')/\∀x H',(Itl K a).yld i H x H'->g x σ H' fun σ2 H2=>tb { D with nx:=N,ct:=N,bk:=D.nx } σ2 H2):=by
 refine⟨fun i m σ H=>m=xs.length-i/\i<=xs.length/\Pv i σ H,⟨xs.length,by simp,Nat.zero_le _,h0⟩,?_⟩;rintro i m σ H ⟨rfl,hi,p⟩;have q:=hl i σ H hi p;by_cases hlt:i<xs.length
 ·refine .inr ⟨⟨xs,xs[i],q,by simp [hlt]⟩,Pv (i+1),fun σ' H' p'=>⟨xs.length-(i+1),by omega,rfl,hlt,p'⟩,fun x H' y=>?_⟩;obtain⟨e,y⟩:=y;subst e;exact hs i x σ _ (y xs q) p
 ·have e:i=xs.length:=by omega
  subst e;exact .inl ⟨⟨xs,q,Nat.le_refl _⟩,hd σ H p⟩
theorem y0b {K:PySem.W.Frag} {a:Addr} {xs:List V} {g:TG} {tb:TS} {D:Ends} {σ:St} {H:Hp} (Pv:Nat->St->Hp->Prop) (h0:Pv 0 σ H) (hl:∀i σ H,i<=xs.length->Pv i σ H->SqT K H a xs)
  (hs:∀i x σ H,xs[i]?=some x->Pv i σ H->g x σ H fun σ2 H2=>tb { D with nx:=Pv (i+1),ct:=Pv (i+1),bk:=D.nx } σ2 H2) (hd:∀σ H,Pv xs.length σ H->D.nx σ H) :
  ∃W:Nat->Nat->St->Hp->Prop,(∃m,W 0 m σ H)/\∀i m σ H,W i m σ H->
   ((Itt K a).stop i H/\D.nx σ H)∨((Itt K a).go i H/\∃N:St->Hp->Prop,(∀σ' H',N σ' H'->∃m',m'<m/\W (i+1) m' σ' H')/\∀x H',(Itt K a).yld i H x H'->g x σ H' fun σ2 H2=>tb { D with nx:=N,ct:=N,bk:=D.nx } σ2 H2):=by
 refine⟨fun i m σ H=>m=xs.length-i/\i<=xs.length/\Pv i σ H,⟨xs.length,by simp,Nat.zero_le _,h0⟩,?_⟩;rintro i m σ H ⟨rfl,hi,p⟩;have q:=hl i σ H hi p;by_cases hlt:i<xs.length
 ·refine .inr ⟨⟨xs,xs[i],q,by simp [hlt]⟩,Pv (i+1),fun σ' H' p'=>⟨xs.length-(i+1),by omega,rfl,hlt,p'⟩,fun x H' y=>?_⟩;obtain⟨e,y⟩:=y;subst e;exact hs i x σ _ (y xs q) p
 ·have e:i=xs.length:=by omega
  subst e;exact .inl ⟨⟨xs,q,Nat.le_refl _⟩,hd σ H p⟩
theorem z7K {lo:Int} {n:Nat} {g:TG} {tb:TS} {D:Ends} {σ:St} {H:Hp} (Pv:Nat->St->Hp->Prop) (h0:Pv 0 σ H)
  (hs:∀i σ H,i<n->Pv i σ H->g (.int (lo+i)) σ H fun σ2 H2=>tb { D with nx:=Pv (i+1),ct:=Pv (i+1),bk:=D.nx } σ2 H2) (hd:∀σ H,Pv n σ H->D.nx σ H) :
  ∃W:Nat->Nat->St->Hp->Prop,(∃m,W 0 m σ H)/\∀i m σ H,W i m σ H->
   ((Itr lo n).stop i H/\D.nx σ H)∨((Itr lo n).go i H/\∃N:St->Hp->Prop,(∀σ' H',N σ' H'->∃m',m'<m/\W (i+1) m' σ' H')/\∀x H',(Itr lo n).yld i H x H'->g x σ H' fun σ2 H2=>tb { D with nx:=N,ct:=N,bk:=D.nx } σ2 H2):=by
 refine⟨fun i m σ H=>m=n-i/\i<=n/\Pv i σ H,⟨n,by simp,Nat.zero_le _,h0⟩,?_⟩;rintro i m σ H ⟨rfl,hi,p⟩;by_cases hlt:i<n
 ·refine .inr ⟨hlt,Pv (i+1),fun σ' H' p'=>⟨n-(i+1),by omega,rfl,hlt,p'⟩,fun x H' y=>?_⟩;obtain⟨e,y⟩:=y;subst e y;exact hs i σ _ hlt p
 ·have e:i=n:=by omega
  subst e;exact .inl ⟨Nat.le_refl _,hd σ H p⟩
noncomputable abbrev R2:=V->V->Hp->VK->Prop
noncomputable def OpR (X:Cx) (f:Value->Value->Sem Value) (r:R2):Prop:=
 ∀(pins:List (Addr×Obj)) (s:Shared) (σ:St) (H:Hp) (x y:V) (v u:Value) (Q:VK),Inv X pins σ H s->RelV x v->RelV y u->r x y H Q->
  wpAny (model X.prog X.w) X.A (f v u) (EP X pins σ Q) X.xe s
noncomputable def UnR (X:Cx) (f:Value->Sem Value) (r:V->Hp->VK->Prop):Prop:=
 ∀(pins:List (Addr×Obj)) (s:Shared) (σ:St) (H:Hp) (x:V) (v:Value) (Q:VK),Inv X pins σ H s->RelV x v->r x H Q->
  wpAny (model X.prog X.w) X.A (f v) (EP X pins σ Q) X.xe s
noncomputable def jY (X:Cx) (f:Value) (r:List V->Hp->VK->Prop):Prop:=
 ∀(pins:List (Addr×Obj)) (s:Shared) (σ:St) (H:Hp) (xs:List V) (us:List Value) (Q:VK),Inv X pins σ H s->Vals xs us->r xs H Q->
  wpAny (model X.prog X.w) X.A (call f us) (EP X pins σ Q) X.xe s
noncomputable def tOp (r:R2) (ta tb:TE):TE:=fun σ H Q=>ta σ H fun x H1=>tb σ H1 fun y H2=>r x y H2 Q
noncomputable def tUn (r:V->Hp->VK->Prop) (ta:TE):TE:=fun σ H Q=>ta σ H fun x H1=>r x H1 Q
noncomputable def rI (C:Int->Int->Prop) (g:Int->Int->V):R2:=fun x y H Q=>∃i j,x=.int i/\y=.int j/\C i j/\Q (g i j) H
noncomputable def rI0 (g:Int->Int->V):R2:=fun x y H Q=>∃i j,x=.int i/\y=.int j/\Q (g i j) H
noncomputable def rU (g:Int->V):V->Hp->VK->Prop:=fun x H Q=>∃i,x=.int i/\Q (g i) H
section
variable {X:Cx} {a b c:Expr} {ta tb tc:TE} {pos:Pos}
theorem y2O (ha:PE X a ta) (hb:PE X b tb) {pins:List (Addr×Obj)} {s:Shared} {σ:St} {H:Hp} {R:V->V->Hp->Prop} (I:Inv X pins σ H s)
  (h:ta σ H fun x H1=>tb σ H1 fun y H2=>R x y H2) {Q:Value->Shared->Prop} {f:Value->Value->Sem Value}
  (hf:∀v u s2 x y H2,Inv X pins σ H2 s2->RelV x v->RelV y u->R x y H2->wpAny (model X.prog X.w) X.A (f v u) Q X.xe s2) :
  wpAny (model X.prog X.w) X.A (eval a X.env) (fun v s₁=>wpAny (model X.prog X.w) X.A (eval b X.env) (fun u s₂=>wpAny (model X.prog X.w) X.A (f v u) Q X.xe s₂) X.xe s₁) X.xe s:=by
 refine thn (ha pins s σ H _ I h) fun v s1 ⟨x,H1,I1,r1,q1⟩=>?_;refine thn (hb pins s1 σ H1 _ I1 q1) fun u s2 ⟨y,H2,I2,r2,q2⟩=>?_;exact hf v u s2 x y H2 I2 r1 r2 q2
theorem zM {op:Operator} {r:R2} (ho:OpR X (binaryOp op) r) (ha:PE X a ta) (hb:PE X b tb):PE X (.BinOp a op b pos) (tOp r ta tb):=by
 intro pins s σ H Q I h;exact wpAny_BinOp (y2O ha hb I h fun v u s2 x y H2 I2 rx ry q=>ho pins s2 σ H2 x y v u Q I2 rx ry q)
theorem y1b {op:UnaryOp} {r:V->Hp->VK->Prop} (ho:UnR X (unaryOp op) r) (ha:PE X a ta):PE X (.UnaryOp op a pos) (tUn r ta):=by
 intro pins s σ H Q I h;exact UnaryOp_ (thn (ha pins s σ H _ I h) fun v s1 ⟨x,H1,I1,r1,q1⟩=>ho pins s1 σ H1 x v Q I1 r1 q1)
theorem opI {f:Value->Value->Sem Value} {C:Int->Int->Prop} {g:Int->Int->Int}
  (rule:∀(i j:Int) (t u:Tok) (s:Shared) (Q:Value->Shared->Prop) (E:Value->Shared->Prop),C i j->Q (.int (g i j) s.toks) { s with toks:=s.toks+1 }->wpAny (model X.prog X.w) X.A (f (.int i t) (.int j u)) Q E s) :
  OpR X f (rI C fun i j=>.int (g i j)):=by
 intro pins s σ H x y v u Q I rx ry h;obtain⟨i,j,rfl,rfl,hc,q⟩:=h;obtain⟨t,rfl⟩:=rx;obtain⟨t',rfl⟩:=ry;exact rule i j t t' s _ _ hc ⟨.int (g i j),H,I.tok _,⟨_,rfl⟩,q⟩
theorem y3H {f:Value->Value->Sem Value} {g:Int->Int->Int}
  (rule:∀(i j:Int) (t u:Tok) (s:Shared) (Q:Value->Shared->Prop) (E:Value->Shared->Prop),Q (.int (g i j) s.toks) { s with toks:=s.toks+1 }->wpAny (model X.prog X.w) X.A (f (.int i t) (.int j u)) Q E s) :
  OpR X f (rI0 fun i j=>.int (g i j)):=by
 intro pins s σ H x y v u Q I rx ry h;obtain⟨i,j,rfl,rfl,q⟩:=h;obtain⟨t,rfl⟩:=rx;obtain⟨t',rfl⟩:=ry;exact rule i j t t' s _ _ ⟨.int (g i j),H,I.tok _,⟨_,rfl⟩,q⟩
theorem y2N {f:Value->Value->Sem Value} {g:Int->Int->Bool}
  (rule:∀(i j:Int) (t u:Tok) (s:Shared) (Q:Value->Shared->Prop) (E:Value->Shared->Prop),Q (.bool (g i j)) s->wpAny (model X.prog X.w) X.A (f (.int i t) (.int j u)) Q E s) :
  OpR X f (rI0 fun i j=>.bl (g i j)):=by
 intro pins s σ H x y v u Q I rx ry h;obtain⟨i,j,rfl,rfl,q⟩:=h;obtain⟨t,rfl⟩:=rx;obtain⟨t',rfl⟩:=ry;exact rule i j t t' s _ _ ⟨.bl (g i j),H,I,rfl,q⟩
noncomputable def y2t (i j:Int):Prop:=0<=j/\j<=1000000/\i.natAbs<2^64
theorem j8:OpR X (binaryOp .Add) (rI0 fun i j=>.int (i+j)):=y3H fun _ _ _ _ _ _ _ q=>add_int q
theorem j7:OpR X (binaryOp .Sub) (rI0 fun i j=>.int (i-j)):=y3H fun _ _ _ _ _ _ _ q=>sub_int q
theorem zr:OpR X (binaryOp .Mod) (rI (fun _ j=>0<j) fun i j=>.int (i%j)):=opI fun i j _ _ _ _ _ hc q=>by
 have h1:(0:Int)<j:=hc;exact mod_int' (by omega) (by rw[Int.fmod_eq_emod_of_nonneg i (by omega)];exact q)
theorem z4T:OpR X (binaryOp .Pow) (rI y2t fun i j=>.int (i^j.toNat)):=opI fun _ _ _ _ _ _ _ hc q=>pow_int_small hc.1 hc.2.1 hc.2.2 q
theorem unI {f:Value->Sem Value} {g:Int->Int}
  (rule:∀(i:Int) (t:Tok) (s:Shared) (Q:Value->Shared->Prop) (E:Value->Shared->Prop),Q (.int (g i) s.toks) { s with toks:=s.toks+1 }->wpAny (model X.prog X.w) X.A (f (.int i t)) Q E s) :
  UnR X f (rU fun i=>.int (g i)):=by
 intro pins s σ H x v Q I rx h;obtain⟨i,rfl,q⟩:=h;obtain⟨t,rfl⟩:=rx;exact rule i t s _ _ ⟨.int (g i),H,I.tok _,⟨_,rfl⟩,q⟩
theorem z9K:UnR X (unaryOp .USub) (rU fun i=>.int (-i)):=unI fun _ _ _ _ _ q=>neg_int q
end
noncomputable def y3D:V->V->Bool
 | .non,.non=>true | .non,.int _=>true | .int _,.non=>true | .non,.bl _=>true | .bl _,.non=>true | .non,.str _=>true | .str _,.non=>true
 | .int _,.int _=>true | .bl _,.bl _=>true | .str _,.str _=>true | .byt _,.byt _=>true
 | .int _,.str _=>true | .str _,.int _=>true | .bl _,.str _=>true | .str _,.bl _=>true
 | _,_=>false
noncomputable def rEq:R2:=fun x y H Q=>y3D x y=true/\Q (.bl (decide (x=y))) H
noncomputable def rNe:R2:=fun x y H Q=>y3D x y=true/\Q (.bl (!decide (x=y))) H
theorem z7S {i j:Int}:decide (V.int i=V.int j)=(i == j):=by
 rw[Bool.eq_iff_iff];simp
theorem z9c {i j:Bool}:decide (V.bl i=V.bl j)=(i == j):=by
 rw[Bool.eq_iff_iff];simp
theorem z7R {i j:Str}:decide (V.str i=V.str j)=(i == j):=by
 rw[Bool.eq_iff_iff];simp
theorem z7T {i j:Array UInt8}:decide (V.byt i=V.byt j)=(i.toList == j.toList):=by
 rw[Bool.eq_iff_iff];cases i;cases j;simp
section
variable {X:Cx} {a b c:Expr} {ta tb tc:TE} {pos:Pos}
theorem zt {pins:List (Addr×Obj)} {σ:St} {H:Hp} {s:Shared} {Q:VK} {k k':Bool} (I:Inv X pins σ H s) (q:Q (.bl k) H) (e:k=k'):EP X pins σ Q (.bool k') s:=by
 subst e;exact⟨.bl k,H,I,rfl,q⟩
theorem yt:OpR X (compareOp .Eq) rEq:=by
 intro pins s σ H x y v u Q I rx ry h;obtain⟨hs,q⟩:=h;cases x with
 | non=>
  cases rx;cases y with
  | non=>cases ry;exact PySem.EqNone.eq_none_none (zt I q (by simp))
  | bl j=>cases ry;exact PySem.EqNone.eq_none_bool (zt I q (by simp))
  | int j=>obtain⟨t',rfl⟩:=ry;exact PySem.EqNone.eq_none_int (zt I q (by simp))
  | str j=>obtain⟨t',rfl⟩:=ry;exact PySem.EqNone.eq_none_str (zt I q (by simp))
  | _=>exact absurd (show false=true from hs) Bool.false_ne_true
 | bl i=>
  cases rx;cases y with
  | non=>cases ry;exact PySem.EqNone.eq_bool_none (zt I q (by simp))
  | bl j=>cases ry;exact eq_bool (zt I q z9c)
  | str j=>obtain⟨t',rfl⟩:=ry;exact PySem.EqMixed.eq_bool_str (zt I q (by simp))
  | _=>exact absurd (show false=true from hs) Bool.false_ne_true
 | int i=>
  obtain⟨t,rfl⟩:=rx;cases y with
  | non=>cases ry;exact PySem.EqNone.eq_int_none (zt I q (by simp))
  | int j=>obtain⟨t',rfl⟩:=ry;exact eq_int (zt I q z7S)
  | str j=>obtain⟨t',rfl⟩:=ry;exact PySem.EqMixed.eq_int_str (zt I q (by simp))
  | _=>exact absurd (show false=true from hs) Bool.false_ne_true
 | str i=>
  obtain⟨t,rfl⟩:=rx;cases y with
  | non=>cases ry;exact PySem.EqNone.eq_str_none (zt I q (by simp))
  | bl j=>cases ry;exact PySem.EqMixed.eq_str_bool (zt I q (by simp))
  | int j=>obtain⟨t',rfl⟩:=ry;exact PySem.EqMixed.eq_str_int (zt I q (by simp))
  | str j=>obtain⟨t',rfl⟩:=ry;exact eq_str (zt I q z7R)
  | _=>exact absurd (show false=true from hs) Bool.false_ne_true
 | byt i=>
  obtain⟨t,rfl⟩:=rx;cases y with
  | byt j=>obtain⟨t',rfl⟩:=ry;exact PySem.W.eq_bytes (zt I q z7T)
  | _=>exact absurd (show false=true from hs) Bool.false_ne_true
 | _=>cases y <;> exact absurd (show false=true from hs) Bool.false_ne_true
theorem z6b:OpR X (compareOp .NotEq) rNe:=by
 intro pins s σ H x y v u Q I rx ry h;obtain⟨hs,q⟩:=h;cases x with
 | non=>
  cases rx;cases y with
  | non=>cases ry;exact PySem.EqNone.ne_none_none (zt I q (by simp))
  | bl j=>cases ry;exact PySem.EqNone.ne_none_bool (zt I q (by simp))
  | int j=>obtain⟨t',rfl⟩:=ry;exact PySem.EqNone.ne_none_int (zt I q (by simp))
  | str j=>obtain⟨t',rfl⟩:=ry;exact PySem.EqNone.ne_none_str (zt I q (by simp))
  | _=>exact absurd (show false=true from hs) Bool.false_ne_true
 | bl i=>
  cases rx;cases y with
  | non=>cases ry;exact PySem.EqNone.ne_bool_none (zt I q (by simp))
  | bl j=>cases ry;exact ne_bool (zt I q (congrArg not z9c))
  | str j=>obtain⟨t',rfl⟩:=ry;exact PySem.EqMixed.ne_bool_str (zt I q (by simp))
  | _=>exact absurd (show false=true from hs) Bool.false_ne_true
 | int i=>
  obtain⟨t,rfl⟩:=rx;cases y with
  | non=>cases ry;exact PySem.EqNone.ne_int_none (zt I q (by simp))
  | int j=>obtain⟨t',rfl⟩:=ry;exact ne_int (zt I q (congrArg not z7S))
  | str j=>obtain⟨t',rfl⟩:=ry;exact PySem.EqMixed.ne_int_str (zt I q (by simp))
  | _=>exact absurd (show false=true from hs) Bool.false_ne_true
 | str i=>
  obtain⟨t,rfl⟩:=rx;cases y with
  | non=>cases ry;exact PySem.EqNone.ne_str_none (zt I q (by simp))
  | bl j=>cases ry;exact PySem.EqMixed.ne_str_bool (zt I q (by simp))
  | int j=>obtain⟨t',rfl⟩:=ry;exact PySem.EqMixed.ne_str_int (zt I q (by simp))
  | str j=>obtain⟨t',rfl⟩:=ry;exact ne_str (zt I q (congrArg not z7R))
  | _=>exact absurd (show false=true from hs) Bool.false_ne_true
 | byt i=>
  obtain⟨t,rfl⟩:=rx;cases y with
  | byt j=>obtain⟨t',rfl⟩:=ry;exact PySem.W.ne_bytes (zt I q (congrArg not z7T))
  | _=>exact absurd (show false=true from hs) Bool.false_ne_true
 | _=>cases y <;> exact absurd (show false=true from hs) Bool.false_ne_true
theorem z2I:OpR X (compareOp .Lt) (rI0 fun i j=>.bl (decide (i<j))):=y2N fun _ _ _ _ _ _ _ q=>lt_int q
theorem z2J:OpR X (compareOp .LtE) (rI0 fun i j=>.bl (decide (i<=j))):=y2N fun _ _ _ _ _ _ _ q=>le_int q
theorem z3N:OpR X (compareOp .Gt) (rI0 fun i j=>.bl (decide (j<i))):=y2N fun _ _ _ _ _ _ _ q=>gt_int q
theorem y0M:OpR X (compareOp .GtE) (rI0 fun i j=>.bl (decide (j<=i))):=y2N fun _ _ _ _ _ _ _ q=>ge_int q
theorem z2K:OpR X (compareOp .In) (fun x y H Q=>∃i j,x=.str i/\y=.str j/\Q (.bl (!(Builtin.Str.occurrences j i 0 j.length 1).isEmpty)) H):=by
 intro pins s σ H x y v u Q I rx ry h;obtain⟨i,j,rfl,rfl,q⟩:=h;obtain⟨t,rfl⟩:=rx;obtain⟨t',rfl⟩:=ry;exact in_str (zt I q rfl)
theorem z4U:OpR X (compareOp .Is) (fun x y H Q=>y=.non/\Q (.bl (decide (x=.non))) H):=by
  intro pins s σ H x y v u Q I rx ry h;obtain⟨rfl,q⟩:=h;cases ry;refine is_none_gen (zt I q ?_);cases x <;> first
    | exact (show False from rx).elim
    | (cases rx;rfl)
    | (obtain⟨t,rfl⟩:=rx;rfl)
theorem wg:OpR X (compareOp .IsNot) (fun x y H Q=>y=.non/\Q (.bl (!decide (x=.non))) H):=by
  intro pins s σ H x y v u Q I rx ry h;obtain⟨rfl,q⟩:=h;cases ry;refine isnot_none_gen (zt I q ?_);cases x <;> first
    | exact (show False from rx).elim
    | (cases rx;rfl)
    | (obtain⟨t,rfl⟩:=rx;rfl)
theorem zW (b:Expr) {op:CmpOp} (h:op≠.In:=by decide) (h2:op≠.NotIn:=by decide):behindInMarks op b=false:=by
 have e1:(op == CmpOp.In)=false:=by cases op <;> first|rfl|exact absurd rfl h
 have e2:(op == CmpOp.NotIn)=false:=by cases op <;> first|rfl|exact absurd rfl h2
 cases b <;> simp [behindInMarks,e1,e2]
theorem xW {op:CmpOp} {r:R2} (ho:OpR X (compareOp op) r) (ha:PE X a ta) (hb:PE X b tb) (hm:behindInMarks op b=false):PE X (.Compare a [op] [b] pos) (tOp r ta tb):=by
 intro pins s σ H Q I h;exact wpAny_Compare1 (y2O ha hb I h fun v u s2 x y H2 I2 rx ry q=>ho pins s2 σ H2 x y v u Q I2 rx ry q) hm
noncomputable def y0u (t:TE):TT:=fun σ H Q=>t σ H fun x H'=>∃k,x=.bl k/\Q k H'
theorem zN {op:CmpOp} {r:R2} (ho:OpR X (compareOp op) r) (ha:PE X a ta) (hb:PE X b tb) (hm:behindInMarks op b=false):PT X (.Compare a [op] [b] pos) (y0u (tOp r ta tb)):=by
 intro pins s σ H Q I h;refine wpAny_isTrue_Compare1 (thn (ha pins s σ H _ I h) fun v s1 ⟨x,H1,I1,r1,q1⟩=>thn (hb pins s1 σ H1 _ I1 q1) fun u s2 ⟨y,H2,I2,r2,q2⟩=>
  thn (ho pins s2 σ H2 x y v u _ I2 r1 r2 q2) fun c s3 ⟨z,H3,I3,r3,k,e,q3⟩=>?_) hm
 subst e;cases r3;exact wpAny_truthy_bool ⟨H3,I3,q3⟩
noncomputable def z9P (r r':R2) (ta tb tc:TE):TE:=fun σ H Q=>ta σ H fun x H1=>tb σ H1 fun y H2=>r x y H2 fun z H3=>∃k,z=.bl k/\
 (if k=true then tc σ H3 fun w' H4=>r' y w' H4 Q else Q (.bl false) H3)
theorem z0x {op op':CmpOp} {r r':R2} (ho:OpR X (compareOp op) r) (ho':OpR X (compareOp op') r') (ha:PE X a ta) (hb:PE X b tb) (hc:PE X c tc)
  (hm:lastMarks [op,op'] [b,c]=false:=by with_unfolding_all rfl):PE X (.Compare a [op,op'] [b,c] pos) (z9P r r' ta tb tc):=by
 intro pins s σ H Q I h;refine Compare_chain (thn (ha pins s σ H _ I h) fun v s1 ⟨x,H1,I1,r1,q1⟩=>chain_link (thn (hb pins s1 σ H1 _ I1 q1) fun u s2 ⟨y,H2,I2,r2,q2⟩=>
  thn (ho pins s2 σ H2 x y v u _ I2 r1 r2 q2) fun d s3 ⟨z,H3,I3,r3,k,e,q3⟩=>?_)) hm
 subst e;cases r3;refine wpAny_truthy_bool ?_;cases k with
 | false=>exact ite_ff ⟨.bl false,H3,I3,rfl,q3⟩
 | true=>exact ite_tt (chain_last (thn (hc pins s3 σ H3 _ I3 q3) fun w' s4 ⟨z',H4,I4,r4,q4⟩=>ho' pins s4 σ H4 y z' u w' Q I4 r2 r4 q4))
theorem z2Q:(sizeLine:Nat)<2^63:=by rw[sizeLine_eq];decide
theorem zU:OpR X (binaryOp .Add) (fun x y H Q=>∃i j,x=.str i/\y=.str j/\i.length+j.length<=sizeLine/\Q (.str (i++j)) H):=by
 intro pins s σ H x y v u Q I rx ry h;obtain⟨i,j,rfl,rfl,hz,q⟩:=h;obtain⟨t,rfl⟩:=rx;obtain⟨t',rfl⟩:=ry;exact add_str (fun t' tk=>⟨.str (i++j),H,I.tok _,⟨_,rfl⟩,q⟩) hz
theorem z5p {x:V} {us:List Value} (r:Vals [x] us):∃u,us=[u]/\RelV x u:=by
 cases r with
 | cons r1 r2=>cases r2;exact⟨_,rfl,r1⟩
theorem y2P {x y:V} {us:List Value} (r:Vals [x,y] us):∃u w',us=[u,w']/\RelV x u/\RelV y w':=by
 cases r with
 | cons r1 r2=>
  cases r2 with
  | cons r3 r4=>cases r4;exact⟨_,_,rfl,r1,r3⟩
theorem z7f (hc:X.calm=true):jY X (.builtin "min") (fun xs H Q=>∃i j,xs=[.int i,.int j]/\Q (.int (if j<i then j else i)) H):=by
 intro pins s σ H xs us Q I r h;obtain⟨i,j,rfl,q⟩:=h;obtain⟨u,w',rfl,⟨t,rfl⟩,⟨t',rfl⟩⟩:=y2P r;refine min_two_ints (I.ok.hd hc) fun h' tk k=>⟨_,H,I.kept k,?_,q⟩
 by_cases hj:j<i
 ·rw[if_pos hj,if_pos hj];exact⟨_,rfl⟩
 ·rw[if_neg hj,if_neg hj];exact⟨_,rfl⟩
theorem zi:jY X (.type "str") (fun xs H Q=>∃i,xs=[.int i]/\i.natAbs.log2<1920/\Q (.str (toString i)) H):=by
 intro pins s σ H xs us Q I r h;obtain⟨i,rfl,hz,q⟩:=h;obtain⟨u,rfl,t,rfl⟩:=z5p r;exact PySem.P.str_of_int hz ⟨.str _,H,I.tok _,⟨_,rfl⟩,q⟩
end
structure ObjM (h:Heap) (x dx C:Addr) (mA:Str->Option Value):Prop where
 obj:h.get? x=some (PySem.W.instObj C dx)
 ns:h.Ns1 dx mA
 ne:dx≠x
theorem z6n {h:Heap} {dx:Addr} {mA:Str->Option Value} (n:h.Ns1 dx mA):∃od,h.get? dx=some od/\∀name,PySem.W.lookIn name od=some (mA name):=by
 obtain⟨o,es,ep,ho,hd,hk,_,hm⟩:=n;refine⟨o,ho,fun name=>?_⟩;have e:=hm name;unfold nsFind findBy at e;rw[←Array.find?_toList] at e;unfold PySem.W.lookIn;rw[hd];dsimp only;split
 ·rename_i y q
  rw[q] at e;exact congrArg some e
 ·rename_i q
  rw[q] at e;have a:es.toList.any (·.refKey)=false:=by
   rw[List.any_eq_false];intro y hy;obtain⟨z,t,hkey⟩:=hk y (Array.mem_toList_iff.mp hy);simp [DictEntry.refKey,hkey]
  have a':¬es.toList.any (·.refKey)=true:=by rw[a];exact Bool.false_ne_true
  rw[if_neg a'];exact congrArg some e
theorem ObjM.look {h:Heap} {x dx C:Addr} {mA:Str->Option Value} (I:ObjM h x dx C mA):∃od,PySem.W.InstAt h x (PySem.W.instObj C dx) C (some od)/\∀name,PySem.W.lookIn name od=some (mA name):=
 let ⟨od,ho,hl⟩:=z6n I.ns
 ⟨od,⟨I.obj,rfl,rfl,ho⟩,hl⟩
section
variable {prog:Program} {w:World} {A:Around} {E:Value->Shared->Prop} {s:Shared} {K:PySem.W.Frag} {x dx C f:Addr} {mA:Str->Option Value} {name:Str} {v:Value}
theorem y0a {expr:Bool} {Q:Value->Shared->Prop} (X:K.In s.heap) (I:ObjM s.heap x dx C mA) (hg:PySem.W.plainGet K C name=true) (hh:PySem.W.hasDictIn K C=true)
  (ha:PySem.W.findIn K (.ref C) name=some none) (hv:mA name=some v) (hv':PySem.W.handedIn v=true) (h:Q v { s with toks:=s.toks+1 }) :
  wpAny (model prog w) A (getAttr (.ref x) name expr) Q E s:=by
 obtain⟨od,J,hl⟩:=I.look;exact PySem.W.get_value X J (PySem.W.plainGet_of hg).1 (PySem.W.findObj_own hh ha rfl (by rw[hl,hv])) hv' h
theorem z8r {pl:Sem Bool} {Q:Value×List Value->Shared->Prop} (X:K.In s.heap) (I:ObjM s.heap x dx C mA) (hg:PySem.W.plainGet K C name=true)
  (hf:PySem.W.findIn K (.ref C) name=some (some (.ref f))) (ht:PySem.W.isFn K (.ref f)=true) (hv:mA name=none) (h:Q (.ref f,[.ref x]) s) :
  wpAny (model prog w) A (getMethod (.ref x) name pl) Q E s:=by
 obtain⟨od,J,hl⟩:=I.look;exact PySem.W.method_fn X J (PySem.W.plainGet_of hg).1 (PySem.W.plainGet_of hg).2 hf (beq_iff_eq.mp ht) (by show (PySem.W.lookIn name od).map (·.isSome)=some false;rw[hl,hv];rfl) h
theorem z9p {ns:List Str} {Q:Unit->Shared->Prop} (X:K.In s.heap) (I:ObjM s.heap x dx C mA)
  (hs:PySem.W.findIn K (.ref C) "__setattr__" = some (some (.builtin "object.__setattr__"))) (hp:PySem.W.plainOver K C=true) (ht:PySem.W.takerIn K C name=some none) (hh:PySem.W.hasDictIn K C=true)
  (hw:PySem.Within mA ns) (hsz:ns.length<=sizeLine)
  (h:∀h',ObjM h' x dx C (fun y=>if y=name then some v else mA y)->Heap.SameBut dx s.heap h'->Q () { s with heap:=h',toks:=s.toks+2 }) :
  wpAny (model prog w) A (setAttr (.ref x) name v) Q E s:=by
 obtain⟨od,J,hl⟩:=I.look;refine PySem.W.set_plain X J hs (PySem.W.osa_open (s:={ s with toks:=s.toks+1 }) (r:=none) X J hp ht fun b=>?_);obtain⟨cd,hc,hd'⟩:=PySem.W.any_some hh;have hx:s.heap.get? x=some ⟨.ref C,some dx,.plain,#[]⟩:=I.obj;refine wpAny_bind (wpAny_pure (wpAny_bind (wpAny_bind (wpAny_loadPart hx (wpAny_bind (PySem.W.Looks.here (s:={ s with toks:=s.toks+1 }) (PySem.W.looks_clsIn X hc) ?_))))));rw[hd'];refine wpAny_pure (a:=some dx) (wpAny_bind (wpAny_pure (wpAny_bind ?_)));refine wpAny_nsSet1 (s:={ s with toks:=s.toks+1 }) I.ns fun h' hn2 hs2=>?_;obtain⟨oD,esD,epD,hoD,hdD,hcD⟩:=hn2.count (PySem.Within.cons name v hw);refine wpAny_bind (wpAny_lookBehind hoD (by rw[hdD];exact pastItsLine_dict (Nat.le_trans hcD (by rw[List.length_cons];omega))) ?_);exact wpAny_pure (h _ ⟨(hs2.2 _ (Ne.symm I.ne)).trans I.obj,hn2,I.ne⟩ hs2)
theorem z8a {R:Result->Shared->Prop} {vs:List Value} {kw:List (Str×Value)} (X:K.In s.heap) (hm:PySem.W.makesIn K C=true)
  (hi:PySem.W.findIn K (.ref C) "__init__" = some (some (.ref f))) (hf:PySem.W.typeIn K (.ref f)=some (.type "function"))
  (h:codeAny (model prog w) (A.under (.builtin "type.__call__" ⟨.ref C::vs,kw⟩)) (.call (.ref f) ⟨.ref (s.heap.objs.size+1)::vs,kw⟩) (PySem.W.InitBack (s.heap.objs.size+1) R)
   { s with heap:=(s.heap.push PySem.W.emptyDict).push (PySem.W.instObj C s.heap.objs.size) }) :
  codeAny (model prog w) A (.call (.ref C) ⟨vs,kw⟩) R s:=by
 obtain⟨hh,g,d,t,os⟩:=s;exact PySem.W.make_core (PySem.W.makes_of X hm) (PySem.W.looks_findIn X hi) (fun self=>PySem.W.bind_fn X self hf) (.inl rfl) h
end
noncomputable def z0v (f:Str) (v:V):List (Str×V)->List (Str×V)
  | []=>[(f,v)]
  | (g,x)::r=>if g=f then (g,v)::r else (g,x)::z0v f v r
theorem wy (f g:Str) (v:V):∀fs:List (Str×V),(z0v f v fs).lookup g=if g=f then some v else fs.lookup g
  | []=>by
    show List.lookup g [(f,v)]=_;by_cases h:g=f
    · have hb:(g == f)=true:=beq_iff_eq.mpr h;simp only [List.lookup,hb,if_pos h]
    · have hb:(g == f)=false:=beq_eq_false_iff_ne.mpr h;simp only [List.lookup,hb,if_neg h]
  | (k,x)::r=>by
    have ih:=wy f g v r;rw[show z0v f v ((k,x)::r)=(if k=f then (k,v)::r else (k,x)::z0v f v r) from rfl];by_cases hk:k=f
    · rw[if_pos hk];by_cases h:g=k
      · have hb:(g == k)=true:=beq_iff_eq.mpr h;simp only [List.lookup,hb,if_pos (h.trans hk)]
      · have hb:(g == k)=false:=beq_eq_false_iff_ne.mpr h;simp only [List.lookup,hb,if_neg (fun e:g=f=>h (e.trans hk.symm))]
    · rw[if_neg hk];by_cases h:g=k
      · have hb:(g == k)=true:=beq_iff_eq.mpr h;simp only [List.lookup,hb,if_neg (fun e:g=f=>hk (h.symm.trans e))]
      · have hb:(g == k)=false:=beq_eq_false_iff_ne.mpr h;simp only [List.lookup,hb];exact ih
theorem vD (f:Str) (v:V):∀fs:List (Str×V),f∈(z0v f v fs).map (·.1)/\∀g,g∈fs.map (·.1)->g∈(z0v f v fs).map (·.1)
  | []=>⟨by simp [z0v],fun g h=>by simp at h⟩
  | (k,x)::r=>by
    obtain⟨i1,i2⟩:=vD f v r;rw[show z0v f v ((k,x)::r)=(if k=f then (k,v)::r else (k,x)::z0v f v r) from rfl];by_cases hk:k=f
    · rw[if_pos hk];subst hk;exact⟨by simp,fun g h=>by simpa using h⟩
    · rw[if_neg hk];refine⟨?_,fun g h=>?_⟩
      · rw[List.map_cons];exact List.mem_cons_of_mem _ i1
      · rw[List.map_cons] at h ⊢;rcases List.mem_cons.mp h with e|e
        · exact List.mem_cons.mpr (.inl e)
        · exact List.mem_cons_of_mem _ (i2 g e)
theorem vB (f:Str) (v:V):∀fs:List (Str×V),(z0v f v fs).length<=fs.length+1
  | []=>by simp [z0v]
  | (k,x)::r=>by
    have ih:=vB f v r;rw[show z0v f v ((k,x)::r)=(if k=f then (k,v)::r else (k,x)::z0v f v r) from rfl];by_cases hk:k=f
    · rw[if_pos hk,List.length_cons,List.length_cons];omega
    · rw[if_neg hk,List.length_cons,List.length_cons];omega
theorem RelO.some_of {v:V} {o:Option Value} (r:RelO (some v) o):∃u,o=some u/\RelV v u:=by
 cases o with
 | none=>exact (show False from r).elim
 | some u=>exact⟨u,rfl,r⟩
theorem RelO.none_of {o:Option Value} (r:RelO none o):o=none:=by
 cases o with
 | none=>rfl
 | some u=>exact (show False from r).elim
theorem z7A {v:V} {u:Value} (r:RelV v u):PySem.W.handedIn u=true:=by
 cases v with
 | non=>cases (show u=Value.none from r);rfl
 | bl b=>cases (show u=Value.bool b from r);rfl
 | int i=>obtain⟨t,e⟩:=(show ∃t,u=Value.int i t from r);cases e;rfl
 | str x=>obtain⟨t,e⟩:=(show ∃t,u=Value.str x t from r);cases e;rfl
 | byt b=>obtain⟨t,e⟩:=(show ∃t,u=Value.bytes b t from r);cases e;rfl
 | flt b=>obtain⟨t,e⟩:=(show ∃t,u=Value.float b t from r);cases e;rfl
 | ref a=>cases (show u=Value.ref a from r);rfl
 | ty n=>cases (show u=Value.type n from r);rfl
 | stk _ _=>exact (show False from r).elim
section
variable {P:Program} {w:World} {H H':Hp} {h h':Heap} {a C dx:Addr} {fs fs':List (Str×V)}
theorem z1J (hok:HOk P w H h) (e:H a=some (.ins C dx fs)):∃mA,ObjM h a dx C mA/\(∀f,RelO (fs.lookup f) (mA f))/\PySem.Within mA (fs.map (·.1))/\fs.length<=1000/\H dx=some (.own a):=by
 obtain⟨d,z,ne,ob,mA,n,r,q⟩:=(show ObjOk P w H h a (.ins C dx fs) from hok a _ e)
 exact⟨mA,⟨ob,n,ne⟩,r,q,z,d⟩
end
structure Cls (K:PySem.W.Frag) (C:Addr):Prop where
 pg:PySem.W.plainGet K C Str.empty=true
 hd:PySem.W.hasDictIn K C=true
 po:PySem.W.plainOver K C=true
 sa:PySem.W.findIn K (.ref C) "__setattr__" = some (some (.builtin "object.__setattr__"))
theorem Cls.get {K:PySem.W.Frag} {C:Addr} (c:Cls K C) (f:Str):PySem.W.plainGet K C f=true:=c.pg
noncomputable def NoAttr (K:PySem.W.Frag) (C:Addr) (f:Str):Prop:=PySem.W.findIn K (.ref C) f=some none
theorem NoAttr.taker {K:PySem.W.Frag} {C:Addr} {f:Str} (n:NoAttr K C f):PySem.W.takerIn K C f=some none:=by
 unfold PySem.W.takerIn;rw[show PySem.W.findIn K (.ref C) f=some none from n];rfl
structure Meth (K:PySem.W.Frag) (C:Addr) (m:Str) (f:Addr):Prop where
 at_:PySem.W.findIn K (.ref C) m=some (some (.ref f))
 fn:PySem.W.isFn K (.ref f)=true
 kp:PySem.W.keepIn K (.ref f)=true
section
variable {X:Cx} {pins:List (Addr×Obj)} {σ:St} {H:Hp} {s:Shared} {a C dx:Addr} {fs:List (Str×V)} {f:Str} {v:V} {A:Around} {E:Value->Shared->Prop}
theorem z5d {b:Bool} {Q:Value->Shared->Prop} (I:Inv X pins σ H s) (e:H a=some (.ins C dx fs)) (c:Cls X.K C) (n:NoAttr X.K C f) (l:fs.lookup f=some v)
  (h:∀u s',Inv X pins σ H s'->RelV v u->Q u s'):wpAny (model X.prog X.w) A (getAttr (.ref a) f b) Q E s:=by
 obtain⟨mA,O,r,_,_,_⟩:=z1J I.hok e;obtain⟨u,hu,ru⟩:=RelO.some_of (v:=v) (o:=mA f) (by rw[←l];exact r f);exact y0a I.kIn O (c.get f) c.hd n hu (z7A ru) (h u _ (I.tok _) ru)
theorem vz {m:Str} {g:Addr} {pl:Sem Bool} {Q:Value×List Value->Shared->Prop} (I:Inv X pins σ H s) (e:H a=some (.ins C dx fs)) (c:Cls X.K C) (k:Meth X.K C m g) (l:fs.lookup m=none)
  (h:Q (.ref g,[.ref a]) s):wpAny (model X.prog X.w) A (getMethod (.ref a) m pl) Q E s:=by
 obtain⟨mA,O,r,_,_,_⟩:=z1J I.hok e;have hn:mA m=none:=RelO.none_of (by rw[←l];exact r m);exact z8r I.kIn O (c.get m) k.at_ k.fn hn h
theorem Inv.made (I:Inv X pins σ H s):Inv X pins σ (upd (upd H s.heap.objs.size (.own (s.heap.objs.size+1))) (s.heap.objs.size+1) (.ins C s.heap.objs.size []))
  { s with heap:=(s.heap.push PySem.W.emptyDict).push (PySem.W.instObj C s.heap.objs.size) }:=by
 have e1:(s.heap.push PySem.W.emptyDict).get? s.heap.objs.size=some PySem.W.emptyDict:=Heap.get?_push_size s.heap rfl;have e2:((s.heap.push PySem.W.emptyDict).push (PySem.W.instObj C s.heap.objs.size)).get? (s.heap.objs.size+1)=some (PySem.W.instObj C s.heap.objs.size):=by
  have:=Heap.get?_push_size (s.heap.push PySem.W.emptyDict) (o:=PySem.W.instObj C s.heap.objs.size) rfl;rwa [Heap.size_push] at this
 have e3:(s.heap.push PySem.W.emptyDict).Ns s.heap.objs.size (fun _=>none):=⟨PySem.W.emptyDict,#[],_,e1,rfl,(fun e he=>absurd he (by simp)),fun _=>rfl⟩
 have I1:=I.laid (a:=s.heap.objs.size) (o:=.own (s.heap.objs.size+1)) (h':=s.heap.push PySem.W.emptyDict) (t':=s.toks) (fun b u q=>Heap.get?_push_of_some _ q) (Nat.le_refl _) ⟨_,e1⟩;refine I1.laid (a:=s.heap.objs.size+1) (o:=.ins C s.heap.objs.size []) (t':=s.toks) (fun b u q=>Heap.get?_push_of_some _ q) (Nat.le_of_eq (Heap.size_push _ _)) ?_;have ne:s.heap.objs.size≠s.heap.objs.size+1:=Nat.ne_of_lt (Nat.lt_succ_self _);refine⟨by rw[za ne,zG],Nat.zero_le _,ne,e2,fun _=>none,(Heap.Ns1.of_empty e3).at fun o q=>Heap.get?_push_of_some _ q,fun _=>True.intro,fun y hy=>absurd rfl hy⟩
theorem y0j {prog:Program} {w:World} {env:Env} {e:Expr} {f:Str} {pos:Pos} {s:Shared} {Q:Value->Shared->Prop} (hb:attributeBase e f env (eval e env)=eval e env)
  (h:wpAny (model prog w) A (eval e env) (fun o s₁=>wpAny (model prog w) A (getAttr o f true) Q E s₁) E s):wpAny (model prog w) A (eval (.Attribute e f pos) env) Q E s:=
 Attribute_any_ h (by rw[arm_eval_Attribute,hb])
end
noncomputable def y2y (K:PySem.W.Frag) (ta:TE) (f:Str):TE:=fun σ H Q=>ta σ H fun x H1=>∃a C dx fs v,x=.ref a/\H1 a=some (.ins C dx fs)/\Cls K C/\NoAttr K C f/\fs.lookup f=some v/\Q v H1
noncomputable def y3E (K:PySem.W.Frag) (ta tv:TE) (f:Str):TS:=fun D σ H=>tv σ H fun y H1=>ta σ H1 fun x H2=>∃a C dx fs,x=.ref a/\H2 a=some (.ins C dx fs)/\Cls K C/\NoAttr K C f/\fs.length<1000/\
 D.nx σ (upd H2 a (.ins C dx (z0v f y fs)))
noncomputable def z9s (K:PySem.W.Frag) (ta tv:TE) (rd:V->V->Hp->VK->Prop) (f:Str):TS:=fun D σ H=>ta σ H fun x H1=>∃a C dx fs v,x=.ref a/\H1 a=some (.ins C dx fs)/\Cls K C/\NoAttr K C f/\fs.lookup f=some v/\
 tv σ H1 fun y H2=>rd v y H2 fun z H3=>∃dx' fs',H3 a=some (.ins C dx' fs')/\fs'.length<1000/\D.nx σ (upd H3 a (.ins C dx' (z0v f z fs')))
section
variable {X:Cx} {o e value:Expr} {f:Str} {pos pos' tpos:Pos} {ta tv:TE}
theorem z6X (he:PE X e ta) (hb:attributeBase e f X.env (eval e X.env)=eval e X.env):PE X (.Attribute e f pos) (y2y X.K ta f):=by
 intro pins s σ H Q I h;refine y0j hb (thn (he pins s σ H _ I h) fun u s1 ⟨x,H1,I1,rx,a,C,dx,fs,v,ex,ea,c,n,l,q⟩=>?_);subst ex;obtain rfl:u=Value.ref a:=rx;exact z5d I1 ea c n l fun u' s2 I2 ru=>⟨v,H1,I2,ru,q⟩
end
section
variable {X:Cx} {pins:List (Addr×Obj)} {σ:St} {H:Hp} {s:Shared} {A:Around} {E:Value->Shared->Prop} {Q:Value->Shared->Prop} {c:Value} {b:Bool}
inductive TyOf (K:PySem.W.Frag) (H:Hp):V->Value->Prop where
 | non:TyOf K H .non (.type "NoneType")
 | bl (x:Bool):TyOf K H (.bl x) (.type "bool")
 | int (i:Int):TyOf K H (.int i) (.type "int")
 | str (x:Str):TyOf K H (.str x) (.type "str")
 | flt (x:UInt64):TyOf K H (.flt x) (.type "float")
 | lst {a:Addr} {xs:List V} (e:H a=some (.lst xs)):TyOf K H (.ref a) (.type "list")
 | frz {a:Addr} {o:Obj} {xs:List V} (e:H a=some (.frz o (.lst xs))):TyOf K H (.ref a) (.type "list")
 | tup {a:Addr} {xs:List V} (e:H a=some (.tup xs)):TyOf K H (.ref a) (.type "tuple")
 | dK {a:Addr} {kvs:List (Key×V)} (e:H a=some (.dK kvs)):TyOf K H (.ref a) (.type "dict")
 | dT {a:Addr} {kvs:List (List Key×V)} (e:H a=some (.dT kvs)):TyOf K H (.ref a) (.type "dict")
 | ins {a C dx:Addr} {fs:List (Str×V)} (e:H a=some (.ins C dx fs)) (cl:Cls K C) (ha:PySem.W.findIn K (.ref C) "__class__" = some (some (.builtin "object.__class__")))
   (hn:PySem.W.specialIn K (.builtin "object.__class__") "__get__" = some (some (.builtin "getset_descriptor.__get__"))) (htk:PySem.W.takesIn K (.builtin "object.__class__")=some true)
   (hm:PySem.W.mroIn K C (.type "object")=some true):TyOf K H (.ref a) (.ref C)
theorem z6t {x:V} {u t:Value} (I:Inv X pins σ H s) (rx:RelV x u) (ty:TyOf X.K H x t) (e:PySem.W.kitOne X.K t c=some b) (h:∀tk,Q (.bool b) { s with toks:=tk }) :
  wpAny (model X.prog X.w) A (call (.builtin "isinstance") [u,c]) Q E s:=by
 cases ty with
 | non=>cases (show u=Value.none from rx);exact PySem.W.kia_one PySem.W.kitx_none I.kIn True.intro e (fun z=>nomatch z) h
 | bl y=>cases (show u=Value.bool y from rx);exact PySem.W.kia_one PySem.W.kitx_bool I.kIn True.intro e (fun z=>nomatch z) h
 | int i=>obtain⟨t,q⟩:=(show ∃t,u=Value.int i t from rx);cases q;exact PySem.W.kia_one PySem.W.kitx_int I.kIn True.intro e (fun z=>nomatch z) h
 | str y=>obtain⟨t,q⟩:=(show ∃t,u=Value.str y t from rx);cases q;exact PySem.W.kia_one PySem.W.kitx_str I.kIn True.intro e (fun z=>nomatch z) h
 | flt y=>obtain⟨t,q⟩:=(show ∃t,u=Value.float y t from rx);cases q;exact PySem.W.kia_one PySem.W.kitx_float I.kIn True.intro e (fun z=>nomatch z) h
 | @lst a xs ea=>
  cases (show u=Value.ref a from rx);obtain⟨_,_,n,_,h1⟩:=(show ObjOk X.prog X.w H s.heap a (.lst xs) from I.hok a _ ea)
  exact PySem.W.kia_one PySem.W.kitx_list I.kIn ⟨_,h1,rfl⟩ e (fun z=>nomatch z) h
 | @frz a ob xs ea=>
  cases (show u=Value.ref a from rx);obtain⟨_,_,_,n,_,h1⟩:=(show ObjOk X.prog X.w H s.heap a (.frz ob (.lst xs)) from I.hok a _ ea)
  exact PySem.W.kia_one PySem.W.kitx_list I.kIn ⟨_,h1,rfl⟩ e (fun z=>nomatch z) h
 | @tup a xs ea=>
  cases (show u=Value.ref a from rx);obtain⟨_,_,_,p⟩:=(show ObjOk X.prog X.w H s.heap a (.tup xs) from I.hok a _ ea)
  obtain⟨o,h1,h2,_⟩:=p;exact PySem.W.kia_one PySem.W.kitx_tuple I.kIn ⟨o,h1,h2⟩ e (fun z=>nomatch z) h
 | @dK a kvs ea=>
  cases (show u=Value.ref a from rx);obtain⟨_,_,vs,_,p⟩:=(show ObjOk X.prog X.w H s.heap a (.dK kvs) from I.hok a _ ea)
  obtain⟨o,es,ep,h1,h2,_⟩:=p;exact PySem.W.kia_one PySem.W.kitx_dict I.kIn ⟨o,h1,h2.1⟩ e (fun z=>nomatch z) h
 | @dT a kvs ea=>
  cases (show u=Value.ref a from rx);obtain⟨_,_,xs,_,o,es,ep,h1,h2,_⟩:=(show ObjOk X.prog X.w H s.heap a (.dT kvs) from I.hok a _ ea)
  exact PySem.W.kia_one PySem.W.kitx_dict I.kIn ⟨o,h1,h2.1⟩ e (fun z=>nomatch z) h
 | @ins a C dx fs ea cl ha hn htk hm=>
  cases (show u=Value.ref a from rx);obtain⟨mA,O,_⟩:=z1J I.hok ea;obtain⟨od,J,_⟩:=O.look;exact PySem.W.kia_one (PySem.W.kitx_own (cl.get _) cl.hd ha hn htk hm) I.kIn J e (fun z=>nomatch z) h
end
structure Room (k:Nat) (A:Around):Prop where
 hd:A.handled=none
 dp:A.depth+3*k+5<recursionLimit
 un:A.units+16*k+200<cLine
theorem Room.mono {j k:Nat} {A:Around} (r:Room k A) (h:j<=k):Room j A:=⟨r.hd,by have:=r.dp;omega,by have:=r.un;omega⟩
theorem Room.deeper {k:Nat} {A:Around} (r:Room (k+1) A) (env:Env):Room k (A.deeper env):=
 ⟨r.hd,by have:=r.dp;show A.depth+1+3*k+5<_;omega,by have:=r.un;show A.units+3+16*k+200<_;omega⟩
theorem Room.in1 {k:Nat} {A:Around} (r:Room (k+1) A):Room k A.in1:=
 ⟨r.hd,by have:=r.dp;show A.depth+3*k+5<_;omega,by have:=r.un;show A.units+1+16*k+200<_;omega⟩
theorem z5N {A:Around} {C:Addr} {us:List Value} {kw:List (Str×Value)}:(A.under (.builtin "type.__call__" ⟨.ref C::us,kw⟩)).depth=A.depth+1:=by
 first|rfl|simp [Around.under,Code.weight,Code.isCreation,Code.isGuard,Code.isCaller,Code.frames,Code.isFrame,guardIds]
theorem z5M {A:Around} {C:Addr} {us:List Value} {kw:List (Str×Value)}:(A.under (.builtin "type.__call__" ⟨.ref C::us,kw⟩)).units=A.units+1:=by
 first|rfl|simp [Around.under,Code.cUnits,Code.frames,Code.isFrame]
theorem Room.make {k:Nat} {A:Around} (r:Room (k+1) A) (C:Addr) (us:List Value) (kw:List (Str×Value)):Room k (A.under (.builtin "type.__call__" ⟨.ref C::us,kw⟩)):=
 ⟨r.hd,by have:=r.dp;rw[z5N];omega,by have:=r.un;rw[z5M];omega⟩
theorem Room.depth {k:Nat} {A:Around} (r:Room k A):A.depth<recursionLimit:=by have:=r.dp;omega
theorem Room.units {k:Nat} {A:Around} (r:Room k A):A.units+64<cLine:=by have:=r.un;omega
noncomputable def z9N:TA:=fun _ H Q=>Q [] H
noncomputable def z0Y (ta:TE) (tr:TA):TA:=fun σ H Q=>ta σ H fun x H1=>tr σ H1 fun xs H2=>Q (x::xs) H2
section
variable {X:Cx} {e:Expr} {es:List Expr} {te:TE} {t:TA} {pos:Pos}
theorem zE:PA X [] z9N:=fun _ _ _ _ H Q I h=>Calls.spliced_nil ⟨[],H,I,.nil,h⟩
theorem zB (ha:PE X e te) (hr:PA X es t) (hs:starEach (e::es) X.env=(false,eval e X.env)::starEach es X.env:=by rfl):PA X (e::es) (z0Y te t):=by
 intro pos pins s σ H Q I h;rw[hs];show wpAny _ _ (spliced ((false,eval e X.env)::backTo pos (starEach es X.env))) _ _ s;refine Calls.spliced_cons (thn (ha pins s σ H _ I h) fun u s1 ⟨x,H1,I1,r1,q1⟩=>?_);exact thn (hr pos pins s1 σ H1 _ I1 q1) fun us s2 ⟨xs,H2,I2,r2,q2⟩=>⟨x::xs,H2,I2,.cons r1 r2,q2⟩
noncomputable def y2u (t:TA):TE:=fun σ H Q=>t σ H fun xs H1=>xs.length<=sizeLine/\∀p,H1 p=none->Q (.ref p) (upd H1 p (.tup xs))
noncomputable def y2w (t:TA):TE:=fun σ H Q=>t σ H fun xs H1=>xs.length<=sizeLine/\∀p,H1 p=none->Q (.ref p) (upd H1 p (.lst xs))
theorem yl {x1} (h:PA X es t):PE X (.Tuple es x1 pos) (y2u t):=by
 intro pins s σ H Q I hq;refine wpAny_Tuple_spliced (thn (h pos pins s σ H _ I hq) fun us s1 ⟨xs,H1,I1,r,z,q⟩=>⟨by rw[←r.length];exact z,?_⟩);have hf:H1 s1.heap.objs.size=none:=I1.hok.fresh (Nat.le_refl _);refine⟨.ref s1.heap.objs.size,upd H1 s1.heap.objs.size (.tup xs),I1.laid (t':=s1.toks) (fun b u e=>Heap.get?_push_of_some _ e) (Nat.le_refl _) ?_,rfl,q _ hf⟩;exact⟨z,us,r,⟨_,Heap.get?_push_size _ rfl,rfl,_,rfl⟩⟩
theorem zq (h:PA X es t):PE X (.List es pos) (y2w t):=by
 intro pins s σ H Q I hq;refine wpAny_List_spliced (thn (h pos pins s σ H _ I hq) fun us s1 ⟨xs,H1,I1,r,z,q⟩=>⟨by rw[←r.length];exact z,?_⟩);have hf:H1 s1.heap.objs.size=none:=I1.hok.fresh (Nat.le_refl _);refine⟨.ref s1.heap.objs.size,upd H1 s1.heap.objs.size (.lst xs),I1.laid (t':=s1.toks) (fun b u e=>Heap.get?_push_of_some _ e) (Nat.le_refl _) ?_,rfl,q _ hf⟩;exact⟨z,us,0,r,Heap.get?_push_size _ rfl⟩
end
noncomputable abbrev Sp:=List V->Hp->VK->XK->Prop
noncomputable abbrev CXT:=List Env->Hp->Shared->XK->Value->Shared->Prop
structure Env0 (P:Program) (w:World) (K:PySem.W.Frag) (mg:Str->Option Value) (base:Heap) (A:Around) (outer:List Env) (s:Shared) (H:Hp):Prop where
 frames:A.frames=some outer
 mod:Mod K mg base
 bs:∀b o,base.get? b=some o->s.heap.get? b=some o/\H b=none
 bsz:base.objs.size<=s.heap.objs.size
 funs:s.heap.FunFrames base outer
 frf:∀b∈frs outer,H b=none
 hok:HOk P w H s.heap
 bare:AllBare s.gens
noncomputable def CE (outer:List Env) (P:Program) (w:World) (H:Hp) (s:Shared) (Q:VK) (u:Value) (s':Shared):Prop:=
 ∃v H',s'.os=s.os/\AllBare s'.gens/\Un (frs outer) [] H H' s.heap s'.heap/\HOk P w H' s'.heap/\RelV v u/\Q v H'
noncomputable def CR (CX:CXT) (outer:List Env) (P:Program) (w:World) (H:Hp) (s:Shared) (Q:VK) (E:XK) (r:Result) (s':Shared):Prop:=
 match r with
 | .ok (.ret u)=>CE outer P w H s Q u s'
 | .ok _=>False
 | .error e=>CX outer H s E e s'
structure FnOk (P:Program) (w:World) (K:PySem.W.Frag) (mg:Str->Option Value) (base:Heap) (CX:CXT) (k:Nat) (f:Addr) (fd:FuncData) (ps:List Str) (sp:Sp):Prop where
 len:∀vs H Q E,sp vs H Q E->vs.length=ps.length
 run:∀(A:Around) (outer:List Env) (s:Shared) (H:Hp) (args:Args) (us:List Value) (vs:List V) (Q:VK) (E:XK),Room k A->Env0 P w K mg base A outer s H->BindsTo s fd args (ps.zip us)->Vals vs us->sp vs H Q E->
  codeAny (model P w) A (.call (.ref f) args) (CR CX outer P w H s Q E) s
theorem FnOk.mono {P:Program} {w:World} {K:PySem.W.Frag} {mg:Str->Option Value} {base:Heap} {CX:CXT} {j k:Nat} {f:Addr} {fd:FuncData} {ps:List Str} {sp:Sp} (F:FnOk P w K mg base CX j f fd ps sp) (h:j<=k) :
  FnOk P w K mg base CX k f fd ps sp:=⟨F.len,fun A outer s H args us vs Q E hr=>F.run A outer s H args us vs Q E (hr.mono h)⟩
theorem FnOk.imp {P:Program} {w:World} {K:PySem.W.Frag} {mg:Str->Option Value} {base:Heap} {CX:CXT} {k:Nat} {f:Addr} {fd:FuncData} {ps:List Str} {sp sp':Sp} (F:FnOk P w K mg base CX k f fd ps sp)
  (h:∀vs H Q E,sp' vs H Q E->sp vs H Q E):FnOk P w K mg base CX k f fd ps sp':=
 ⟨fun vs H Q E q=>F.len vs H Q E (h _ _ _ _ q),fun A outer s H args us vs Q E hr he hb hv hs=>F.run A outer s H args us vs Q E hr he hb hv (h _ _ _ _ hs)⟩
theorem Env0.make {P:Program} {w:World} {K:PySem.W.Frag} {mg:Str->Option Value} {base:Heap} {A:Around} {outer:List Env} {s:Shared} {H:Hp} (e:Env0 P w K mg base A outer s H) (C:Addr) (us:List Value) (kw:List (Str×Value)) :
  Env0 P w K mg base (A.under (.builtin "type.__call__" ⟨.ref C::us,kw⟩)) outer s H:=⟨by first|exact e.frames|(simpa [Around.under,Code.envs,Code.isFrame,pushEnvs] using e.frames),e.mod,e.bs,e.bsz,e.funs,e.frf,e.hok,e.bare⟩
theorem Env0.in1 {P:Program} {w:World} {K:PySem.W.Frag} {mg:Str->Option Value} {base:Heap} {A:Around} {outer:List Env} {s:Shared} {H:Hp} (e:Env0 P w K mg base A outer s H) :
  Env0 P w K mg base A.in1 outer s H:=⟨e.frames,e.mod,e.bs,e.bsz,e.funs,e.frf,e.hok,e.bare⟩
section
variable {X:Cx} {pins:List (Addr×Obj)} {σ:St} {H:Hp} {s s':Shared}
theorem Inv.env0 (I:Inv X pins σ H s):Env0 X.prog X.w X.K X.mg X.base X.A X.stack s H:=
 ⟨I.ok.frames,I.ok.mod,I.bs,Nat.le_trans I.ok.bsz I.sz,I.stack,I.stkFree,I.hok,I.bare⟩
theorem Inv.after {Q:VK} {u:Value} (I:Inv X pins σ H s) (h:CE X.stack X.prog X.w H s Q u s'):EP X pins σ Q u s':=by
 obtain⟨v,H',os,bare,un,hok,r,q⟩:=h;obtain⟨hh,g,d,t,os'⟩:=s';obtain rfl:os'=s.os:=os;exact⟨v,H',I.call (h':=hh) (g':=g) (d':=d) (t':=t) (ch:=[]) un hok bare (fun b z=>absurd z (by simp)),r,q⟩
end
noncomputable def z2z (sp:Sp) (dvs:List V) (E:XK) (t:TA):TE:=fun σ H Q=>t σ H fun vs H1=>sp (vs++dvs) H1 Q E
noncomputable def z7u (C:Addr) (m:Str) (sp:Sp) (dvs:List V) (E:XK) (ta:TE) (t:TA):TE:=fun σ H Q=>ta σ H fun x H1=>∃a dx fs,x=.ref a/\H1 a=some (.ins C dx fs)/\fs.lookup m=none/\
 t σ H1 fun vs H2=>sp (x::(vs++dvs)) H2 Q E
noncomputable def y1B (C:Addr) (sp:Sp) (dvs:List V) (E:XK) (t:TA):TE:=fun σ H Q=>t σ H fun vs H1=>∀x dx,H1 x=none->H1 dx=none->dx≠x->
 sp (.ref x::(vs++dvs)) (upd (upd H1 dx (.own x)) x (.ins C dx [])) (fun v H2=>v=.non/\Q (.ref x) H2) E
noncomputable def Binds (K:PySem.W.Frag) (fd:FuncData) (ps:List Str) (ds:List Value):Prop:=
 ∀(s:Shared) (us:List Value),K.In s.heap->(us++ds).length=ps.length->BindsTo s fd ⟨us,[]⟩ (ps.zip (us++ds))
theorem Binds.all {K:PySem.W.Frag} {fd:FuncData} {ps:List Str} (h:∀us:List Value,us.length=ps.length->bindArgs fd ⟨us,[]⟩=pure (ps.zip us)):Binds K fd ps []:=fun s us _ hl=>by
 rw[List.append_nil] at hl ⊢;exact .of_eq (h us hl)
noncomputable def vP (CX:CXT) (X:Cx) (E:XK):Prop:=∀(pins:List (Addr×Obj)) (σ:St) (H:Hp) (s:Shared) (e:Value) (s':Shared),Inv X pins σ H s->CX X.stack H s E e s'->X.xe e s'
section
variable {X:Cx} {CX:CXT} {k:Nat} {f C:Addr} {fd:FuncData} {ps:List Str} {sp:Sp} {dvs:List V} {ds:List Value} {E:XK} {x m:Str} {p pos apos:Pos} {e o:Expr} {es:List Expr} {ta:TE} {t:TA}
theorem z6P {pins:List (Addr×Obj)} {σ:St} {H:Hp} {s:Shared} {Q:VK} {us:List Value} {vs:List V} (F:FnOk X.prog X.w X.K X.mg X.base CX k f fd ps sp) (hr:Room k X.A) (hb:Binds X.K fd ps ds) (hd:Vals dvs ds) (hx:vP CX X E)
  (I:Inv X pins σ H s) (r:Vals vs us) (h:sp (vs++dvs) H Q E):wpAny (model X.prog X.w) X.A (call (.ref f) us) (EP X pins σ Q) X.xe s:=by
 have r2:Vals (vs++dvs) (us++ds):=r.append hd;have hl:(us++ds).length=ps.length:=by rw[←r2.length];exact F.len _ _ _ _ h
 refine wpAny_call (codeAny_mono (F.run X.A X.stack s H ⟨us,[]⟩ (us++ds) (vs++dvs) Q E hr I.env0 (hb s us I.kIn hl) r2 h) fun r s' hq=>?_);cases r with
 | error e=>exact hx pins σ H s e s' I hq
 | ok fl=>
  cases fl with
  | ret u=>exact I.after hq
  | next=>exact False.elim hq
  | brk=>exact False.elim hq
  | cont=>exact False.elim hq
theorem z6Y (F:FnOk X.prog X.w X.K X.mg X.base CX k f fd ps sp) (hr:Room k X.A) (hg:Gl X x) (hm:X.mg x=some (.ref f)) (hk:PySem.W.keepIn X.K (.ref f)=true) (hb:Binds X.K fd ps ds) (hd:Vals dvs ds) (hx:vP CX X E)
  (ha:PA X (e::es) t) (hdb:(x == ("__debug__" : Str))=false:=by decide) (he:starEach (e::es) X.env=(false,eval e X.env)::starEach es X.env:=by rfl) (hpl:(backTo pos (starEach es X.env)).any (·.1)=false:=by rfl) :
  PE X (.Call (.Name x p) (e::es) [] pos) (z2z sp dvs E t):=by
 intro pins s σ H Q I h;refine wpAny_Call_Name_kw (jI I hg hm ?_ hdb);refine PySem.W.callWith_K (h₀:=X.base) I.ok.mod.kin hk (thn (ha pos pins s σ H _ I h) fun us s1 ⟨vs,H1,I1,r,q⟩=>⟨I1.kIn,?_⟩) he hpl;exact z6P F hr hb hd hx I1 r q
theorem y0F {pl:Sem Bool} (he:PE X o ta) (c:Cls X.K C) (hm:Meth X.K C m f) (F:FnOk X.prog X.w X.K X.mg X.base CX k f fd ps sp) (hr:Room k X.A) (hb:Binds X.K fd ps ds) (hd:Vals dvs ds) (hx:vP CX X E) (ha:PA X (e::es) t)
  (hst:starEach (e::es) X.env=(false,eval e X.env)::starEach es X.env:=by rfl) (hpl:(backTo pos (starEach es X.env)).any (·.1)=false:=by rfl)
  (ht:eval (.Call (.Attribute o m apos) (e::es) [] pos) X.env=(do
   let ov ←eval o X.env
   standAt apos.atName
   let (f,first) ←holding [ov] (getMethod ov m pl)
   callWith pos f first (backTo pos (starEach (e::es) X.env)) (backToKw pos (keywordEach [] X.env))):=by rfl) :
  PE X (.Call (.Attribute o m apos) (e::es) [] pos) (z7u C m sp dvs E ta t):=by
 intro pins s σ H Q I h;refine PySem.W.methodCall_KW (pl:=pl) (thn (he pins s σ H _ I h) fun u s1 ⟨x,H1,I1,rx,a,dx,fs,ex,ea,l,q⟩=>?_) ht;subst ex;obtain rfl:u=Value.ref a:=rx;refine vz I1 ea c hm l ?_;refine PySem.W.callWith_K (first:=[.ref a]) (h₀:=X.base) I.ok.mod.kin hm.kp (thn (ha pos pins s1 σ H1 _ I1 q) fun us s2 ⟨vs,H2,I2,r,q2⟩=>⟨I2.kIn,?_⟩) hst hpl;exact z6P (us:=.ref a::us) (vs:=.ref a::vs) F hr hb hd hx I2 (.cons rfl r) q2
end
noncomputable def PK (X:Cx) (kws:List Keyword) (t:TA):Prop:=
 ∀(pos:Pos) (pins:List (Addr×Obj)) (s:Shared) (σ:St) (H:Hp) (Q:List V->Hp->Prop),Inv X pins σ H s->t σ H Q->wpAny (model X.prog X.w) X.A (evalAll ((backToKw pos (keywordEach kws X.env)).map (·.2))) (AP X pins σ Q) X.xe s
section
variable {X:Cx} {CX:CXT} {k:Nat} {f C:Addr} {fd:FuncData} {ps ks:List Str} {sp:Sp} {E:XK} {x m:Str} {p pos apos kpos:Pos} {e o:Expr} {es:List Expr} {kws:List Keyword} {te ta:TE} {t tk:TA} {nm:Option Str}
theorem y1Y:PK X [] z9N:=fun _ _ _ _ H Q I h=>wpAny_evalAll_nil ⟨[],H,I,.nil,h⟩
theorem y0C (ha:PE X e te) (hr:PK X kws t):PK X (⟨nm,e,kpos⟩::kws) (z0Y te t):=by
 intro pos pins s σ H Q I h;show wpAny _ _ (evalAll ((do let v ←eval e X.env;standAt pos;pure v)::(backToKw pos (keywordEach kws X.env)).map (·.2))) _ _ s;refine wpAny_evalAll_cons (wpAny_bind (thn (ha pins s σ H _ I h) fun u s1 ⟨x,H1,I1,r1,q1⟩=>wpAny_bind (wpAny_standAt (wpAny_pure ?_))));exact thn (hr pos pins s1 σ H1 _ I1 q1) fun us s2 ⟨xs,H2,I2,r2,q2⟩=>⟨x::xs,H2,I2,.cons r1 r2,q2⟩
variable {g:List Value->List Value->List Value} {gV:List V->List V->List V}
end
structure FnScope (N P:List Str) (sc:Scope):Prop where
 kind:sc.kind=.function
 co:sc.isCoroutine=false
 gen:sc.isGenerator=false
 nd:N.Nodup
 pre:N.take P.length=P
 par:∀x∈P,sc.names.lookup x=some .local∨sc.names.lookup x=some .cell
 nofree:∀y∈sc.names,y.2≠.free
theorem z2n {kindOf:Str->Option NameKind} {x:Str}:∀ {binds:List (Str×Value)} {m:Str->Option Value},(∀v,(x,v)∉binds)->bindL kindOf binds m x=m x
  | [],_,_=>rfl
  | (n,v)::r,m,h=>by
    unfold bindL;rw[z2n fun w hw=>h w (List.mem_cons_of_mem _ hw)];split
    · have:x≠n:=by rintro rfl;exact h v List.mem_cons_self
      simp [this]
    · rfl
theorem z2p {kindOf:Str->Option NameKind} {x:Str}:∀ {binds:List (Str×Value)} {m:Str->Option Value},(∀v,(x,v)∉binds)->bindC kindOf binds m x=m x
  | [],_,_=>rfl
  | (n,v)::r,m,h=>by
    unfold bindC;rw[z2p fun w hw=>h w (List.mem_cons_of_mem _ hw)];split
    · rfl
    · have:x≠n:=by rintro rfl;exact h v List.mem_cons_self
      simp [this]
theorem z2o {kindOf:Str->Option NameKind} {x:Str} {v:Value}:∀ {P:List Str} {vs:List Value} {i:Nat} {m:Str->Option Value},P.Nodup->P[i]?=some x->vs[i]?=some v->kindOf x=some .local->
  bindL kindOf (P.zip vs) m x=some v
 | [],_,_,_,_,h,_,_=>by simp at h
 | _::_,[],_,_,_,_,h,_=>by simp at h
 | p::P,w::vs,0,m,nd,h1,h2,hk=>by
  simp at h1 h2;subst h1;subst h2;show bindL kindOf ((p,w)::P.zip vs) m p=_;unfold bindL;rw[z2n fun v hv=>(List.nodup_cons.mp nd).1 (List.of_mem_zip hv).1,if_pos hk];simp
 | p::P,w::vs,i+1,m,nd,h1,h2,hk=>by
  show bindL kindOf ((p,w)::P.zip vs) m x=_;unfold bindL;exact z2o (i:=i) (List.nodup_cons.mp nd).2 (by simpa using h1) (by simpa using h2) hk
theorem z2q {kindOf:Str->Option NameKind} {x:Str} {v:Value}:∀ {P:List Str} {vs:List Value} {i:Nat} {m:Str->Option Value},P.Nodup->P[i]?=some x->vs[i]?=some v->kindOf x≠some .local->
  bindC kindOf (P.zip vs) m x=some v
 | [],_,_,_,_,h,_,_=>by simp at h
 | _::_,[],_,_,_,_,h,_=>by simp at h
 | p::P,w::vs,0,m,nd,h1,h2,hk=>by
  simp at h1 h2;subst h1;subst h2;show bindC kindOf ((p,w)::P.zip vs) m p=_;unfold bindC;rw[z2p fun v hv=>(List.nodup_cons.mp nd).1 (List.of_mem_zip hv).1,if_neg hk];simp
 | p::P,w::vs,i+1,m,nd,h1,h2,hk=>by
  show bindC kindOf ((p,w)::P.zip vs) m x=_;unfold bindC;exact z2q (i:=i) (List.nodup_cons.mp nd).2 (by simpa using h1) (by simpa using h2) hk
noncomputable def yo (N:List Str) (vs:List V):St:=vs.map some++List.replicate (N.length-vs.length) none
noncomputable def qN (CX:CXT) (P:Program) (w:World) (K:PySem.W.Frag) (mg:Str->Option Value) (base:Heap) (N:List Str) (qual:Str) (scope:Scope) (f:Addr) (cd:Value) (A:Around) (outer:List Env) (s:Shared) (H:Hp) (E:XK):Cx where
 prog:=P
 w:=w
 K:=K
 mg:=mg
 base:=base
 A:=A.deeper (envOfC qual scope s.heap.objs.size f cd)
 N:=N
 s₀:=s
 H₀:=H
 env:=envOfC qual scope s.heap.objs.size f cd
 outer:=outer
 stack:=envOfC qual scope s.heap.objs.size f cd::outer
 ex:=[]
 calm:=true
 fn:=fun _=>true
 pn:=[]
 xe:=fun e s'=>wpAny (model P w) (A.deeper (envOfC qual scope s.heap.objs.size f cd)) (leaving (envOfC qual scope s.heap.objs.size f cd) e) (fun _ s''=>CX outer H s E e s'') (fun e' s''=>CX outer H s E e' s'') s'
theorem z4u {sc:Scope} {n:Nat} {x:Str} (h:sc.names.lookup x=some .cell):∃c,(cellsFrom n sc.names []).lookup x=some c:=by
 have q:=PySem.W.cellsFrom_some sc.names n [] (.inl h);exact Option.isSome_iff_exists.mp q
theorem vG {CX:CXT} {P:Program} {w:World} {K:PySem.W.Frag} {mg:Str->Option Value} {base:Heap} {N ps:List Str} {qual:Str} {scope:Scope} {f:Addr} {cd:Value} {A:Around} {outer:List Env} {s s1:Shared} {H:Hp} {E:XK} {us:List Value} {vs:List V}
  (S:FnScope N ps scope) (hd:A.handled=none) (e0:Env0 P w K mg base A outer s H) (hl:vs.length=ps.length) (r:∀(i:Nat) (v:V),vs[i]?=some v->∃u,us[i]?=some u/\RelL v u)
  (x:InCallC s s.heap.objs.size (bindL (envOfC qual scope s.heap.objs.size f cd).kindOf (ps.zip us) fun _=>none) (cellsFrom (s.heap.objs.size+1) scope.names []) (bindC (envOfC qual scope s.heap.objs.size f cd).kindOf (ps.zip us) fun _=>none) s1) :
  Inv (qN CX P w K mg base N qual scope f cd A outer s H E) [] (yo N vs) H s1:=by
 have hpl:ps.length<=N.length:=by have:=congrArg List.length S.pre;rw[List.length_take] at this;omega
 obtain⟨h1,tk,rfl,hk⟩:=x.done;have noA:∀b:Addr,b∉(qN CX P w K mg base N qual scope f cd A outer s H E).ex:=fun b z=>absurd (show b∈([]:List Addr) from z) (by simp);refine⟨⟨e0.mod,S.kind,rfl,rfl,Nat.le_refl _,fun y z c h1 h2=>?_,fun y hy=>?_,fun y c _ h=>?_,fun _=>hd,Around.frames_deeper e0.frames,.inr ⟨rfl,rfl⟩,fun b z=>absurd z (noA b),e0.bs,e0.bsz,fun b _ _=>noA b,fun b z=>absurd z (noA b),e0.funs,e0.frf⟩,
  rfl,e0.bare,Un.kept hk,⟨_,x.toInCall.ns,fun i y v h1 h2 h3=>?_⟩,fun y c h=>⟨_,x.cell y c h⟩,e0.hok.fresh (Nat.le_refl _),fun y c h=>?_,fun p hp=>absurd (show p∈([]:List (Addr×Obj)) from hp) (by simp),e0.hok.kept hk,?_⟩
 ·exact name_of_addr x.apart (PySem.mem_of_lookup h1) (PySem.mem_of_lookup h2)
 ·have hy:scope.names.lookup y=some .cell∨scope.names.lookup y=some .free:=hy;rcases hy with hy|hy
  ·exact z4u hy
  ·exact absurd rfl (S.nofree _ (PySem.mem_of_lookup hy))
 ·exact Nat.le_of_lt (x.above y c (PySem.mem_of_lookup h))
 ·have hi:i<vs.length:=by
   unfold yo at h2;by_cases hi:i<vs.length
   ·exact hi
   ·rw[List.getElem?_append_right (by simpa using hi)] at h2;rw[List.getElem?_replicate] at h2;split at h2 <;> cases h2
  have ha:vs[i]?=some v:=by
   unfold yo at h2;rw[List.getElem?_append_left (by simpa using hi),List.getElem?_map] at h2;cases e:vs[i]? with
   | none=>rw[e] at h2;cases h2
   | some a=>rw[e] at h2;cases h2;rfl
  obtain⟨u,hu,rv⟩:=r i v ha;have hp:ps[i]?=some y:=by
   rw[←S.pre,List.getElem?_take_of_lt (by omega)];exact h1
  have ndP:ps.Nodup:=by rw[←S.pre];exact S.nd.sublist (List.take_sublist _ _)
  refine⟨u,rv,?_⟩;rcases S.par y (List.mem_of_getElem? hp) with k|k
  ·exact .inl ⟨k,z2o ndP hp hu k⟩
  ·obtain⟨c,e⟩:=z4u (n:=s.heap.objs.size+1) k;refine .inr ⟨.inl k,c,e,?_⟩;have q:=x.cell y c e;rw[z2q ndP hp hu (by show scope.names.lookup y≠_;rw[k];decide)] at q;exact q
 ·exact e0.hok.fresh (Nat.le_of_lt (x.above y c (PySem.mem_of_lookup h)))
 ·unfold yo;show _=N.length;rw[List.length_append,List.length_map,List.length_replicate];omega
theorem z8w {CX:CXT} {P:Program} {w:World} {K:PySem.W.Frag} {mg:Str->Option Value} {base:Heap} {k:Nat} {f:Addr} {name qual:Str} {params:Arguments} {body:List Stmt} {scope:Scope} {dV kV doc pm cdv ct oc:Value} {an od:Option Addr}
  {osl:Array (Option Value)} {N ps:List Str} {sp:Sp} (lk:K.lookup f=some ⟨oc,od,.func (PySem.W.fnOf name qual params body scope dV kV doc pm an cdv ct),osl⟩) (hcd:PySem.W.codeIn K cdv qual=true) (S:FnScope N ps scope)
  (len:∀vs H Q E,sp vs H Q E->vs.length=ps.length)
  (hbody:∀(A:Around) (outer:List Env) (s:Shared) (H:Hp) (vs:List V) (Q:VK) (E:XK),Room k (A.deeper (envOfC qual scope s.heap.objs.size f cdv))->sp vs H Q E->
   ∃t,PSs (qN CX P w K mg base N qual scope f cdv A outer s H E) body t/\t { nx:=fun _ H'=>Q .non H',rt:=Q } (yo N vs) H) :
  FnOk P w K mg base CX (k+1) f (PySem.W.fnOf name qual params body scope dV kV doc pm an cdv ct) ps sp:=by
 refine⟨len,fun A outer s H args us vs Q E hr e0 hb r hsp=>?_⟩;have hl:=len _ _ _ _ hsp;have KX:K.In s.heap:=e0.mod.kin.keeps fun b o e=>(e0.bs b o e).1;have lim:s.heap.NoLimit:=e0.mod.nolimit.keeps fun b o e=>(e0.bs b o e).1;have hkind:∀y∈ps.zip us,scope.names.lookup y.1=some .local∨(scope.names.lookup y.1=some .cell/\((cellsFrom (s.heap.objs.size+1) scope.names []).lookup y.1).isSome=true):=fun⟨n,v⟩ hy=>by
  rcases S.par n (List.of_mem_zip hy).1 with q|q
  ·exact .inl q
  ·exact .inr ⟨q,PySem.W.cellsFrom_some _ _ _ (.inl q)⟩
 refine codeAny_call_function hr.depth (KX _ _ lk) rfl S.co S.gen rfl (PySem.W.codeRec_of KX hcd) (hb _ _ _ _ ?_);refine wpAny_newFunctionEnv_cells S.kind hkind fun env he s1 x=>?_;subst he;refine⟨lim.keeps x.toInCall.keep,codeAny_func ?_⟩;obtain⟨t,ht,hq⟩:=hbody A outer s H vs Q E (hr.deeper _) hsp;have I:Inv (qN CX P w K mg base N qual scope f cdv A outer s H E) [] (yo N vs) H s1:=vG S hr.hd e0 hl (fun i v e=>let ⟨u,a,b⟩:=r.get e;⟨u,a,b.toL⟩) x;refine wpAny_mono (ht [] s1 (yo N vs) H _ I hq) (fun fl s' hs=>?_) fun e s' hs=>hs;have fin:∀ {σ':St} {H':Hp} {v:V} {u:Value},Inv (qN CX P w K mg base N qual scope f cdv A outer s H E) [] σ' H' s'->RelV v u->Q v H'->CE outer P w H s Q u s':=
  fun {σ' H' v u} J rv q=>⟨v,H',J.os,J.bare,J.base,J.hok,rv,q⟩
 cases fl with
 | ret u=>
  obtain⟨v,σ',H',J,rv,q⟩:=hs;exact fin J rv q
 | next=>
  obtain⟨σ',H',J,q⟩:=hs;exact fin (v:=V.non) (u:=Value.none) J rfl q
 | brk=>
  obtain⟨_,_,_,q⟩:=hs;exact False.elim q
 | cont=>
  obtain⟨_,_,_,q⟩:=hs;exact False.elim q
section
variable {X:Cx} {x:Str} {p pos:Pos} {e:Expr} {es:List Expr} {t:TA} {id T:String} {r:List V->Hp->VK->Prop}
noncomputable def tCB (r:List V->Hp->VK->Prop) (t:TA):TE:=fun σ H Q=>t σ H fun vs H1=>r vs H1 Q
theorem ze (hc:jY X (.builtin id) r) (hg:Gl X x) (hm:X.mg x=none) (hv:bootBuiltins x=some (.builtin id)) (ha:PA X (e::es) t) (hn:x≠ "__name__" :=by decide) (hdb:(x == ("__debug__" : Str))=false:=by decide)
  (he:starEach (e::es) X.env=(false,eval e X.env)::starEach es X.env:=by rfl) (hpl:(backTo pos (starEach es X.env)).any (·.1)=false:=by rfl):PE X (.Call (.Name x p) (e::es) [] pos) (tCB r t):=by
 intro pins s σ H Q I h;refine wpAny_Call_Name_kw (vC I hg hm hv ?_ hn hdb);exact PyProof.Rows.callWith_builtin1 (thn (ha pos pins s σ H _ I h) fun us s1 ⟨vs,H1,I1,r1,q1⟩=>hc pins s1 σ H1 vs us Q I1 r1 q1) he hpl
theorem zb (hc:jY X (.type T) r) (hg:Gl X x) (hm:X.mg x=none) (hv:bootBuiltins x=some (.type T)) (ha:PA X (e::es) t) (hn:x≠ "__name__" :=by decide) (hdb:(x == ("__debug__" : Str))=false:=by decide)
  (he:starEach (e::es) X.env=(false,eval e X.env)::starEach es X.env:=by rfl) (hpl:(backTo pos (starEach es X.env)).any (·.1)=false:=by rfl):PE X (.Call (.Name x p) (e::es) [] pos) (tCB r t):=by
 intro pins s σ H Q I h;refine wpAny_Call_Name_kw (vC I hg hm hv ?_ hn hdb);exact PyProof.Rows.callWith_type1 (thn (ha pos pins s σ H _ I h) fun us s1 ⟨vs,H1,I1,r1,q1⟩=>hc pins s1 σ H1 vs us Q I1 r1 q1) he hpl
end
end L2
namespace HT
open PySem PyProof.Rows
section
open PySem.SeqAt
open PySem.AutoSeq1 (wpAny_loadPart')
open PySem.MeetsSeq PySem.MeetsSeq2 PySem.MeetsSeq3
end
section
variable {prog:Program} {w:World} {A:Around} {E:Value->Shared->Prop} {s:Shared}
noncomputable def sIx (n d:Nat):Option Int->Nat
 | none=>d
 | some v=>if v<0 then (v+(n:Int)).toNat else min v.toNat n
theorem sIx_none (n d:Nat):sIx n d none=d:=rfl
theorem sIx_nat (n d k:Nat):sIx n d (some (k:Int))=min k n:=by
 show (if (k:Int)<0 then ((k:Int)+(n:Int)).toNat else min (k:Int).toNat n)=min k n;rw[if_neg (by omega),Int.toNat_natCast]
theorem y1Q (n d:Nat) (hd:d<=n) (o:Option Int):sIx n d o<=n:=by
 cases o with
 | none=>exact hd
 | some v=>
  show (if v<0 then (v+(n:Int)).toNat else min v.toNat n)<=n;by_cases hv:v<0
  ·rw[if_pos hv];omega
  ·rw[if_neg hv];exact Nat.min_le_right _ _
theorem z7c (v:Int) (n d:Nat):(if v<0 then max (v+(n:Int)) 0 else min v (n:Int))=((sIx n d (some v):Nat):Int):=by
 show (if v<0 then max (v+(n:Int)) 0 else min v (n:Int))=(((if v<0 then (v+(n:Int)).toNat else min v.toNat n):Nat):Int)
 by_cases hv:v<0
 ·simp only [if_pos hv];omega
 ·simp only [if_neg hv];omega
theorem z5l (lo hi:Option Int) (n:Nat):Builtin.Slice.sliceAdjust lo hi 1 (n:Int)=(((sIx n 0 lo:Nat):Int),((sIx n n hi:Nat):Int)):=by
 have h1:¬((1:Int)<0):=by omega
 unfold Builtin.Slice.sliceAdjust;simp only [h1,if_false];refine Prod.ext ?_ ?_
 ·cases lo with
  | none=>rfl
  | some v=>exact z7c v n 0
 ·cases hi with
  | none=>rfl
  | some v=>exact z7c v n n
theorem z5K (i j:Nat):Builtin.Slice.slicePlaces (i:Int) (j:Int) 1=j-i:=by
 unfold Builtin.Slice.slicePlaces;have h1:(1:Int) > 0:=by omega
 simp only [h1,if_true,Int.ediv_one];split <;> omega
theorem vi {v:Value} {o:Option Int} {Q:Option Int->Shared->Prop} (p:IsPart v o) (h:Q o s):wpAny (model prog w) A (Builtin.Slice.slicePartIndex v) Q E s:=by
 cases p with
 | none=>exact slicePart_none h
 | int i t=>exact slicePart_int h
theorem kC {sl:Addr} {vl vu:Value} {lo hi:Option Int} {n:Nat} {Q:Int×Int×Nat->Shared->Prop} (hs:s.heap.IsSliceOf sl vl vu .none) (pl:IsPart vl lo) (pu:IsPart vu hi)
  (h:Q (((sIx n 0 lo:Nat):Int),1,sIx n n hi-sIx n 0 lo) s):wpAny (model prog w) A (Builtin.Slice.sliceApplied (.ref sl) (pure (n:Int))) Q E s:=by
 obtain⟨os,hos,hcs,hds⟩:=id hs;unfold Builtin.Slice.sliceApplied Builtin.Slice.sliceFields;refine wpAny_bind (wpAny_bind (wpAny_field hos hds (x:=vl) rfl (wpAny_bind (wpAny_field hos hds (x:=vu) rfl (wpAny_bind (wpAny_field hos hds (x:=.none) rfl (wpAny_pure ?_)))))));refine wpAny_bind (slicePart_none ?_);show wpAny _ _ (if ((1:Int) == 0)=true then _ else _) _ _ s;rw[if_neg (by decide)];refine wpAny_bind (vi pl (wpAny_bind (vi pu (wpAny_bind (wpAny_pure ?_)))));show wpAny _ _ (match Builtin.Slice.sliceAdjust lo hi 1 (n:Int) with|(lo,hi)=>pure (lo,(1:Int),Builtin.Slice.slicePlaces lo hi 1)) _ _ s;rw[z5l lo hi n];show wpAny _ _ (pure (((sIx n 0 lo:Nat):Int),(1:Int),Builtin.Slice.slicePlaces ((sIx n 0 lo:Nat):Int) ((sIx n n hi:Nat):Int) 1)) _ _ s;rw[z5K];exact wpAny_pure h
theorem z8P (xs:Array Value) (i k:Nat):((List.range k).filterMap fun (m:Nat)=>xs[((i:Int)+(m:Int)*1).toNat]?).toArray=((xs.toList.drop i).take k).toArray:=by
 have e:(fun (m:Nat)=>xs[((i:Int)+(m:Int)*1).toNat]?)=fun m=>xs[i+m]?:=by
  funext m;have:((i:Int)+(m:Int)*1).toNat=i+m:=by omega
  rw[this]
 rw[e];have:=pick_run xs i k;rw[List.filterMap_map] at this;have e2:((fun x=>xs[x]?)∘fun x=>i+x)=fun m=>xs[i+m]?:=rfl;rw[e2] at this;rw[this]
theorem getItem_tuple_cut {t sl:Addr} {items:Array Value} {vl vu:Value} {lo hi:Option Int} {Q:Value->Shared->Prop} (ht:IsTup s.heap t items) (hs:s.heap.IsSliceOf sl vl vu .none) (pl:IsPart vl lo) (pu:IsPart vu hi)
  (hw:¬(sIx items.size 0 lo=0/\sIx items.size items.size hi=items.size))
  (h:Q (.ref s.heap.objs.size) { s with heap:=s.heap.push { cls:=.type "tuple",data:=.seq ((items.toList.drop (sIx items.size 0 lo)).take (sIx items.size items.size hi-sIx items.size 0 lo)).toArray } })
  (hsz:items.size<=sizeLine):wpAny (model prog w) A (getItem (.ref t) (.ref sl)) Q E s:=by
 have htake:sizeOk (.seq ((items.toList.drop (sIx items.size 0 lo)).take (sIx items.size items.size hi-sIx items.size 0 lo)).toArray):=by
  show ((items.toList.drop (sIx items.size 0 lo)).take (sIx items.size items.size hi-sIx items.size 0 lo)).toArray.size<=sizeLine;rw[List.size_toArray,List.length_take,List.length_drop,Array.length_toList];omega
 have hj:sIx items.size items.size hi<=items.size:=y1Q _ _ (Nat.le_refl _) hi;obtain⟨os,hos,hcs,hds⟩:=id hs;have hTs:s.TypeIs (.ref sl) "slice" :=⟨os,hos,hcs⟩
 unfold getItem
 try with_reducible refine wpAny_holding ?_
 first|refine wpAny_bind (wpAny_pure ?_)|skip
 refine wpAny_bind (wpAny_sequenceKey ht.typeIs (by decide) ?_);refine wpAny_bind (wpAny_callSpecial?_slot (name:=Str.ofString "__getitem__") ht.typeIs PyProof.Rows.slot_tuple_getitem
  (wpAny_call_entry PyProof.Rows.slot_tuple_getitem ht.typeIs entry_tuple_getitem ?_ (args_tuple_getitem _ _)))
 show wpAny _ _ (Builtin.Tuple.tupleItemsOf (.ref t) >>= _) _ _ s;refine wpAny_bind (tupleItemsOf_ ht ?_);refine wpAny_bind (wpAny_typeOf hTs ?_);rw[if_pos (by decide)];refine wpAny_bind (kC hs pl pu ?_);have hno:¬((((sIx items.size 0 lo:Nat):Int) == 0 && (1:Int) == 1 && (sIx items.size items.size hi-sIx items.size 0 lo) == items.size)=true):=by
  intro q;rw[Bool.and_eq_true,Bool.and_eq_true] at q;have q1:((sIx items.size 0 lo:Nat):Int)=0:=eq_of_beq q.1.1;have q2:sIx items.size items.size hi-sIx items.size 0 lo=items.size:=eq_of_beq q.2;exact hw ⟨by omega,by omega⟩
 show wpAny _ _ (if (((sIx items.size 0 lo:Nat):Int) == 0 && (1:Int) == 1 && (sIx items.size items.size hi-sIx items.size 0 lo) == items.size)=true then _ else _) _ _ s;rw[if_neg hno,z8P]
 first
  | exact wpAny_bind (m:=Builtin.Tuple.tupleExact _) (wpAny_newObj_type (wpAny_pure ⟨_,rfl,wpAny_pure h⟩) htake)
  | exact wpAny_bind (m:=Builtin.Tuple.tupleExact _) (wpAny_newObj_type (wpAny_bind (wpAny_pure (wpAny_pure ⟨_,rfl,wpAny_pure h⟩))) htake)
  | exact wpAny_bind (wpAny_bind (m:=Builtin.Tuple.tupleExact _) (wpAny_newObj_type (wpAny_pure (wpAny_pure ⟨_,rfl,wpAny_pure h⟩)) htake))
  | exact wpAny_bind (wpAny_bind (m:=Builtin.Tuple.tupleExact _) (wpAny_newObj_type (wpAny_pure ⟨_,rfl,wpAny_pure h⟩) htake))
end
end HT
namespace L2
open PySem PySem.Spec PyProof.Rows
noncomputable abbrev TO:=St->Hp->(Option Int->Hp->Prop)->Prop
noncomputable def PO (X:Cx) (e:Option Expr) (t:TO):Prop:=
 ∀(pins:List (Addr×Obj)) (s:Shared) (σ:St) (H:Hp) (Q:Option Int->Hp->Prop),Inv X pins σ H s->t σ H Q->
  wpAny (model X.prog X.w) X.A (evalPart e X.env) (fun u s'=>∃o H',Inv X pins σ H' s'/\IsPart u o/\Q o H') X.xe s
noncomputable def z5y:TO:=fun _ H Q=>Q none H
noncomputable def y0w (t:TE):TO:=fun σ H Q=>t σ H fun x H1=>∃i,x=.int i/\Q (some i) H1
theorem qk {ns:List Int}:∀ {us:List Value},Vals (ns.map V.int) us->IntsAre us ns:=by
 induction ns with
 | nil=>intro us r;rw[List.map_nil] at r;cases r;exact .nil
 | cons n ns ih=>
  intro us r;rw[List.map_cons] at r;cases r with
  | cons r1 r2=>
   obtain⟨t,e⟩:=r1;subst e;exact .cons n t (ih r2)
section
variable {X:Cx} {e:Expr} {te:TE} {lo hi:Option Expr} {tl th:TO} {pos p2:Pos}
theorem qf:PO X none z5y:=by
 intro pins s σ H Q I h;rw[evalPart_none];exact wpAny_pure ⟨none,H,I,.none,h⟩
theorem jG (h:PE X e te):PO X (some e) (y0w te):=by
 intro pins s σ H Q I hw;rw[evalPart_some];refine thn (h pins s σ H _ I hw) fun u s1 ⟨x,H1,I1,r1,q1⟩=>?_;obtain⟨i,rfl,q⟩:=q1;obtain⟨t,rfl⟩:=r1;exact⟨some i,H1,I1,.int i t,q⟩
noncomputable def SlR (X:Cx) (r:V->Option Int->Option Int->Hp->VK->Prop):Prop:=
 ∀(pins:List (Addr×Obj)) (s:Shared) (σ:St) (H:Hp) (x:V) (v vl vu:Value) (lo hi:Option Int) (sl:Addr) (Q:VK),Inv X pins σ H s->RelV x v->s.heap.IsSliceOf sl vl vu .none->IsPart vl lo->IsPart vu hi->r x lo hi H Q->
  ∃T id,typeLookup (.type T) "__getitem__" = pure (some (.builtin id))/\s.TypeIs v T/\wpAny (model X.prog X.w) X.A (getItem v (.ref sl)) (EP X pins σ Q) X.xe s
noncomputable def tSl (r:V->Option Int->Option Int->Hp->VK->Prop) (te:TE) (tl th:TO):TE:=fun σ H Q=>te σ H fun x H1=>tl σ H1 fun l H2=>th σ H2 fun u H3=>r x l u H3 Q
theorem xh {r:V->Option Int->Option Int->Hp->VK->Prop} (hr:SlR X r) (he:PE X e te) (hl:PO X lo tl) (hu:PO X hi th):PE X (.Subscript e (.Slice lo hi none p2) pos) (tSl r te tl th):=by
 intro pins s σ H Q I h;refine Subscript_ (thn (he pins s σ H _ I h) fun v s1 ⟨x,H1,I1,r1,q1⟩=>?_);refine wpAny_Slice (thn (hl pins s1 σ H1 _ I1 q1) fun vl s2 ⟨l,H2,I2,pl,q2⟩=>thn (hu pins s2 σ H2 _ I2 q2) fun vu s3 ⟨u,H3,I3,pu,q3⟩=>?_);rw[evalPart_none];refine wpAny_pure ?_;have I4:Inv X pins σ H3 { s3 with heap:=s3.heap.push { cls:=.type "slice",data:=.fields #[vl,vu,.none] } }:=I3.kept (t':=s3.toks) fun b ob q=>Heap.get?_push_of_some _ q;obtain⟨T,id,hT,ht,hg⟩:=hr pins { s3 with heap:=s3.heap.push { cls:=.type "slice",data:=.fields #[vl,vu,.none] } } σ H3 x v vl vu l u s3.heap.objs.size Q I4 r1 (Heap.IsSliceOf.new ..) pl pu q3;show wpAny (model X.prog X.w) X.A (subscriptTail e (.Slice lo hi none p2) v (.ref s3.heap.objs.size)) (EP X pins σ Q) X.xe { s3 with heap:=s3.heap.push { cls:=.type "slice",data:=.fields #[vl,vu,.none] } };exact tail_any (ops:=[.ref s3.heap.objs.size,v]) ht hT hg (by with_unfolding_all rfl)
noncomputable def z7q (xs:List V) (lo hi:Option Int):List V:=(xs.drop (HT.sIx xs.length 0 lo)).take (HT.sIx xs.length xs.length hi-HT.sIx xs.length 0 lo)
theorem vL (xs:List V) (lo hi:Option Int):(z7q xs lo hi).length<=xs.length:=by
 unfold z7q;rw[List.length_take,List.length_drop];omega
noncomputable def y3b (K:PySem.W.Frag):V->Option Int->Option Int->Hp->VK->Prop:=fun x lo hi H Q=>∃a xs,x=.ref a/\SqT K H a xs/\
 ¬(HT.sIx xs.length 0 lo=0/\HT.sIx xs.length xs.length hi=xs.length)/\∀p,H p=none->Q (.ref p) (upd H p (.tup (z7q xs lo hi)))
theorem y1L:SlR X (y3b X.K):=by
 intro pins s σ H x v vl vu lo hi sl Q I rx hs pl pu h;obtain⟨a,xs,rfl,hx,hw,q⟩:=h;cases rx;obtain⟨its,r,ht,hz⟩:=I.tuple hx;have hlen:its.toArray.size=xs.length:=by rw[List.size_toArray];exact r.length.symm
 refine⟨"tuple",_,PyProof.Rows.slot_tuple_getitem.lookup,ht.typeIs,?_⟩;refine HT.getItem_tuple_cut ht hs pl pu (by rw[hlen];exact hw) ?_ (by rw[hlen];exact hz);rw[hlen];refine⟨.ref s.heap.objs.size,_,I.laid (t':=s.toks) (o:=.tup (z7q xs lo hi)) (fun b ob q=>Heap.get?_push_of_some _ q) (Nat.le_refl _) ?_,rfl,q _ (I.hok.fresh (Nat.le_refl _))⟩;exact⟨Nat.le_trans (vL xs lo hi) hz,_,(r.drop (HT.sIx xs.length 0 lo)).take (HT.sIx xs.length xs.length hi-HT.sIx xs.length 0 lo),IsTup.new _ _⟩
end
noncomputable def ixN (n:Nat) (i:Int):Option Nat:=if 0<=i then (if i<n then some i.toNat else none) else if -(n:Int)<=i then some (i+n).toNat else none
noncomputable def atI {α:Type} (xs:List α) (i:Int):Option α:=(ixN xs.length i).bind fun j=>xs[j]?
theorem y0U {n:Nat} {i:Int} {j:Nat} (h:ixN n i=some j):seqIndex? i n=some j/\j<n/\-(n:Int)<=i/\i<n:=by
 unfold ixN at h;by_cases h0:0<=i
 ·rw[if_pos h0] at h;by_cases h1:i<n
  ·rw[if_pos h1] at h;have e:i.toNat=j:=Option.some.inj h;exact⟨by rw[seqIndex_of h0 h1,e],by omega,by omega,h1⟩
  ·rw[if_neg h1] at h;cases h
 ·rw[if_neg h0] at h;by_cases h1:-(n:Int)<=i
  ·rw[if_pos h1] at h;have e:(i+n).toNat=j:=Option.some.inj h;exact⟨by rw[seqIndex_neg (by omega) h1,e],by omega,h1,by omega⟩
  ·rw[if_neg h1] at h;cases h
theorem z3h {α:Type} {xs:List α} {i:Int} {v:α} (h:atI xs i=some v):∃j,seqIndex? i xs.length=some j/\xs[j]?=some v/\j<xs.length/\-(xs.length:Int)<=i/\i<xs.length:=by
 unfold atI at h;cases e:ixN xs.length i with
 | none=>rw[e] at h;cases h
 | some j=>
  rw[e] at h;obtain⟨h1,h2,h3,h4⟩:=y0U e;exact⟨j,h1,h,h2,h3,h4⟩
theorem zZ {α:Type} {xs:List α} {j:Nat} {v:α} (h:xs[j]?=some v):atI xs (j:Int)=some v:=by
 have hj:j<xs.length:=(List.getElem?_eq_some_iff.mp h).1;have e:ixN xs.length (j:Int)=some j:=by
  unfold ixN;rw[if_pos (by omega),if_pos (by omega)];simp
 unfold atI;rw[e];exact h
noncomputable def z7n (b:Expr):Prop:=∀o i,subscripted b false o i=operate [o,i] (getItem o i)
noncomputable def IxR (X:Cx) (r:R2):Prop:=
 ∀(value slice:Expr) (pins:List (Addr×Obj)) (s:Shared) (σ:St) (H:Hp) (x y:V) (v u:Value) (Q:VK),Inv X pins σ H s->RelV x v->RelV y u->r x y H Q->
  subscripted slice false v u=operate [v,u] (getItem v u)->wpAny (model X.prog X.w) X.A (subscriptTail value slice v u) (EP X pins σ Q) X.xe s
noncomputable def MtR (X:Cx) (id:String) (r:V->List V->Hp->VK->Prop):Prop:=
 ∀(pins:List (Addr×Obj)) (s:Shared) (σ:St) (H:Hp) (x:V) (xs:List V) (v:Value) (us:List Value) (Q:VK),Inv X pins σ H s->RelV x v->Vals xs us->r x xs H Q->
  wpAny (model X.prog X.w) X.A (call (.builtin id) (v::us)) (EP X pins σ Q) X.xe s
section
variable {X:Cx} {a b:Expr} {ta tb:TE} {pos:Pos}
theorem zn {r:R2} (hr:IxR X r) (ha:PE X a ta) (hb:PE X b tb) (hs:z7n b):PE X (.Subscript a b pos) (tOp r ta tb):=by
 intro pins s σ H Q I h;exact Subscript_ (y2O ha hb I h fun v u s2 x y H2 I2 rx ry q=>hr a b pins s2 σ H2 x y v u Q I2 rx ry q (hs _ _))
noncomputable def y0r (K:PySem.W.Frag):R2:=fun x y H Q=>∃p xs i v,x=.ref p/\y=.int i/\SqL K H p xs/\atI xs i=some v/\Q v H
noncomputable def y3e (K:PySem.W.Frag):R2:=fun x y H Q=>∃p xs i v,x=.ref p/\y=.int i/\SqT K H p xs/\atI xs i=some v/\Q v H
noncomputable def y3f:R2:=fun x y H Q=>∃z i c,x=.str z/\y=.int i/\z.length<=sizeLine/\atI z.cps.toList i=some c/\Q (.str ⟨#[c]⟩) H
theorem zk:IxR X (y0r X.K):=by
 intro value slice pins s σ H x y v u Q I rx ry h hs;obtain⟨p,xs,i,z,rfl,rfl,hq,he,q⟩:=h;cases rx;obtain⟨t,rfl⟩:=ry;obtain⟨its,r,pl,hz⟩:=I.list hq;obtain⟨j,h1,h2,h3,h4,h5⟩:=z3h he;obtain⟨w,ew,rw'⟩:=r.get h2;have hl:=r.length;have hn:=z2Q;have fin:EP X pins σ Q w s:=⟨z,H,I,rw',q⟩
 by_cases h0:0<=i
 ·have hj:i.toNat=j:=by
   rw[seqIndex_of h0 h5] at h1;exact Option.some.inj h1
  exact item_listR pl.isList h0 (by omega) (by rw[hj];simpa using ew) fin hs
 ·have hj:(i+(its.toArray.size:Int)).toNat=j:=by
   rw[seqIndex_neg (by omega) h4] at h1;rw[List.size_toArray,←hl];exact Option.some.inj h1
  exact subscriptTail_builtinR (x:=w) pl.isList.typeIs slot_list_getitem.lookup
   (wpAny_getItem_list_neg (Q:=fun r s'=>r=w/\EP X pins σ Q r s') pl.isList (by omega) (by rw[List.size_toArray] <;> omega) (by omega) (by rw[hj];simpa using ew) ⟨rfl,fin⟩) hs
theorem yW:IxR X (y3e X.K):=by
 intro value slice pins s σ H x y v u Q I rx ry h hs;obtain⟨p,xs,i,z,rfl,rfl,hq,he,q⟩:=h;cases rx;obtain⟨t,rfl⟩:=ry;obtain⟨its,r,pl,hz⟩:=I.tuple hq;obtain⟨j,h1,h2,h3,h4,h5⟩:=z3h he;obtain⟨w,ew,rw'⟩:=r.get h2;have hl:=r.length;have hn:=z2Q;have fin:EP X pins σ Q w s:=⟨z,H,I,rw',q⟩
 exact subscriptTail_builtinR (x:=w) pl.typeIs slot_tuple_getitem.lookup
  (getItem_tuple (j:=j) (Q:=fun r s'=>r=w/\EP X pins σ Q r s') pl (by omega) (by omega) (by rw[List.size_toArray,←hl];exact h1) (by simpa using ew) ⟨rfl,fin⟩) hs
theorem y1s:IxR X y3f:=by
 intro value slice pins s σ H x y v u Q I rx ry h hs;obtain⟨z,i,c,rfl,rfl,hz,he,q⟩:=h;obtain⟨t,rfl⟩:=rx;obtain⟨t',rfl⟩:=ry;obtain⟨j,h1,h2,h3,h4,h5⟩:=z3h he;have hl:z.cps.toList.length=z.length:=by simp [Str.length]
 rw[hl] at h1 h4 h5;have hn:=z2Q;exact tail_any (typeIs_str s z t) slot_str_getitem.lookup (getItem_str (c:=c) (by
  have e1:decide (i < -(2^63:Int))=false:=decide_eq_false (by omega);have e2:decide (i ≥ 2^63)=false:=decide_eq_false (by omega);rw[e1,e2,Bool.or_false]) (by rw[h1];simpa using h2) ⟨.str ⟨#[c]⟩,H,I.tok _,⟨_,rfl⟩,q⟩) hs
theorem Inv.lst {pins:List (Addr×Obj)} {σ:St} {H:Hp} {s:Shared} {p:Addr} {xs:List V} (I:Inv X pins σ H s) (h:H p=some (.lst xs)) :
  ∃(its:List Value) (n:Nat),Vals xs its/\s.heap.get? p=some { cls:=.type "list",data:=.seq its.toArray n }/\xs.length<=sizeLine:=by
 obtain⟨z,its,n,r,e⟩:=I.hok p _ h;exact⟨its,n,r,e,z⟩
theorem z1w (lo hi:Option Int) (n:Nat):(sliceBounds lo hi none n).1=((HT.sIx n 0 lo:Nat):Int)/\(sliceBounds lo hi none n).2.1=((HT.sIx n n hi:Nat):Int)/\(sliceBounds lo hi none n).2.2=1:=by
 refine⟨?_,?_,rfl⟩
 ·cases lo with
  | none=>simp [sliceBounds,HT.sIx]
  | some i=>
   simp only [sliceBounds,HT.sIx,Option.getD_none,show (1:Int) > 0 by decide,if_true];by_cases h:i<0
   ·simp only [h,if_true] <;> omega
   ·simp only [h,if_false] <;> omega
 ·cases hi with
  | none=>simp [sliceBounds,HT.sIx]
  | some i=>
   simp only [sliceBounds,HT.sIx,Option.getD_none,show (1:Int) > 0 by decide,if_true];by_cases h:i<0
   ·simp only [h,if_true] <;> omega
   ·simp only [h,if_false] <;> omega
theorem z0h (its:List Value) (lo hi:Option Int):slicePick its.toArray lo hi none=((its.drop (HT.sIx its.length 0 lo)).take (HT.sIx its.length its.length hi-HT.sIx its.length 0 lo)).toArray:=by
 obtain⟨h1,h2,h3⟩:=z1w lo hi its.toArray.size;unfold slicePick;rw[h1,h2,h3];simp only [sliceRange_one,pick_run,List.size_toArray] <;> rfl
noncomputable def y3d (K:PySem.W.Frag):V->Option Int->Option Int->Hp->VK->Prop:=fun x lo hi H Q=>∃a xs,x=.ref a/\SqL K H a xs/\∀p,H p=none->Q (.ref p) (upd H p (.lst (z7q xs lo hi)))
theorem wT:SlR X (y3d X.K):=by
 intro pins s σ H x v vl vu lo hi sl Q I rx hs pl pu h;obtain⟨a,xs,rfl,hx,q⟩:=h;cases rx;obtain⟨its,r,ht,hz⟩:=I.list hx;have hlen:=r.length;refine⟨"list",_,slot_list_getitem.lookup,ht.isList.typeIs,?_⟩;refine wpAny_getItem_list_slice ht.isList hs pl pu .none (by simp) ?_ (by rw[List.size_toArray] <;> omega);rw[z0h,←hlen];refine⟨.ref s.heap.objs.size,_,I.laid (t':=s.toks) (o:=.lst (z7q xs lo hi)) (fun b ob q=>Heap.get?_push_of_some _ q) (Nat.le_refl _) ?_,rfl,q _ (I.hok.fresh (Nat.le_refl _))⟩;exact⟨Nat.le_trans (vL xs lo hi) hz,_,0,(r.drop (HT.sIx xs.length 0 lo)).take (HT.sIx xs.length xs.length hi-HT.sIx xs.length 0 lo),Heap.get?_push_size _ rfl⟩
theorem yI:jY X (.builtin "len") (fun xs H Q=>∃p ys,xs=[.ref p]/\(SqL X.K H p ys∨SqT X.K H p ys)/\Q (.int ys.length) H):=by
 intro pins s σ H xs us Q I r h;obtain⟨p,ys,rfl,hq,q⟩:=h;obtain⟨u,rfl,rx⟩:=z5p r;cases rx;have hn:=z2Q;rcases hq with hq|hq
 ·obtain⟨its,r',pl,hz⟩:=I.list hq;have hlen:=r'.length;exact Calls.call_len_list pl.isList (by simp only [List.size_toArray] <;> omega) ⟨.int ys.length,H,I.tok _,⟨s.toks+1,by rw[List.size_toArray,hlen]⟩,q⟩
 ·obtain⟨its,r',pl,hz⟩:=I.tuple hq;have hlen:=r'.length;exact len_tuple pl (by simp only [List.size_toArray] <;> omega) ⟨.int ys.length,H,I.tok _,⟨s.toks+1,by rw[List.size_toArray,hlen]⟩,q⟩
theorem xK:jY X (.builtin "len") (fun xs H Q=>∃z,xs=[.str z]/\z.length<=sizeLine/\Q (.int z.length) H):=by
 intro pins s σ H xs us Q I r h;obtain⟨z,rfl,hz,q⟩:=h;obtain⟨u,rfl,t,rfl⟩:=z5p r;have hn:=z2Q;exact len_str (by omega) ⟨.int z.length,H,I.tok _,⟨_,rfl⟩,q⟩
theorem yX:jY X (.type "list") (fun xs H Q=>∃p ys,xs=[.ref p]/\(SqL X.K H p ys∨SqT X.K H p ys)/\∀l,H l=none->Q (.ref l) (upd H l (.lst ys))):=by
 intro pins s σ H xs us Q I r h;obtain⟨p,ys,rfl,hq,q⟩:=h;obtain⟨u,rfl,rx⟩:=z5p r;cases rx;have fin:∀(its:List Value),Vals ys its->ys.length<=sizeLine->∀(h':Heap) (c':Nat),(∀b o',s.heap.get? b=some o'->h'.get? b=some o')->
   h'.get? s.heap.objs.size=some { cls:=.type "list",dict:=none,data:=.seq its.toArray c',slots:=#[] }->EP X pins σ Q (.ref s.heap.objs.size) { s with heap:=h' }:=fun its r' hz h' c' kp e=>
  ⟨.ref s.heap.objs.size,_,I.laid (t':=s.toks) kp (Nat.le_refl _) (show ObjOk X.prog X.w _ h' _ (.lst ys) from⟨hz,its,c',r',e⟩),rfl,q _ (I.hok.fresh (Nat.le_refl _))⟩
 rcases hq with hq|hq
 ·obtain⟨its,r',pl,hz⟩:=I.list hq;have hlen:=r'.length;obtain⟨o,ho,hc,n,hd⟩:=pl.isList;exact call_list_seq p (.inl rfl) ho hc hd (fun h' c' kp e=>fin its r' hz h' c' kp e) (by simp only [List.size_toArray] <;> omega)
 ·obtain⟨its,r',pl,hz⟩:=I.tuple hq;have hlen:=r'.length;obtain⟨o,ho,hc,n,hd⟩:=pl;exact call_list_seq p (.inr rfl) ho hc hd (fun h' c' kp e=>fin its r' hz h' c' kp e) (by simp only [List.size_toArray] <;> omega)
theorem z1d:jY X (.type "tuple") (fun xs H Q=>∃p ys,xs=[.ref p]/\((SqL X.K H p ys/\∀l,H l=none->Q (.ref l) (upd H l (.tup ys)))∨(SqT X.K H p ys/\Q (.ref p) H))):=by
 intro pins s σ H xs us Q I r h;obtain⟨p,ys,rfl,h⟩:=h;obtain⟨u,rfl,rx⟩:=z5p r;cases rx;rcases h with⟨hq,q⟩|⟨hq,q⟩
 ·obtain⟨its,r',pl,hz⟩:=I.list hq;have hlen:=r'.length;refine call_tuple_list pl.isList (fun h' kp=>?_) (by simp only [List.size_toArray] <;> omega);have I1:Inv X pins σ H { s with heap:=h' }:=I.kept (t':=s.toks) kp;have I2:Inv X pins σ (upd H h'.objs.size (.tup ys)) { s with heap:=h'.push { cls:=.type "tuple",data:=.seq its.toArray } }:=
   I1.laid (t':=s.toks) (fun b o e=>Heap.get?_push_of_some _ e) (Nat.le_refl _) (show ObjOk X.prog X.w _ _ _ (.tup ys) from⟨hz,its,r',IsTup.new _ _⟩)
  exact⟨.ref h'.objs.size,_,I2,rfl,q _ (I1.hok.fresh (Nat.le_refl _))⟩
 ·obtain⟨its,r',pl,hz⟩:=I.tuple hq;exact call_tuple_same pl ⟨.ref p,H,I,rfl,q⟩
noncomputable def tyV (K:PySem.W.Frag) (T:String) (x:V) (H:Hp):Prop:=match x with
 | .str _=>T = "str"
 | .int _=>T = "int"
 | .ref p=>(T = "list" /\∃xs,SqL K H p xs)∨(T = "tuple" /\∃o,K.lookup p=some o/\o.cls=.type "tuple" /\o.dict=none)∨
   (T = "dict" /\((∃kvs,H p=some (.dK kvs))∨∃kvs,H p=some (.dT kvs)))∨(T = "set" /\∃S n,H p=some (.set S n))
 | _=>False
theorem z9L {pins:List (Addr×Obj)} {σ:St} {H:Hp} {s:Shared} {T:String} {x:V} {v:Value} (I:Inv X pins σ H s) (r:RelV x v) (ty:tyV X.K T x H) :
  s.TypeIs v T/\∀a,v=.ref a->∃ob,s.heap.get? a=some ob/\ob.dict=none:=by
 cases x with
 | str z=>
  obtain⟨t,rfl⟩:=r;cases (show T = "str" from ty);exact⟨typeIs_str s z t,fun _ e=>nomatch e⟩
 | int i=>
  obtain⟨t,rfl⟩:=r;cases (show T = "int" from ty);exact⟨typeIs_int s i t,fun _ e=>nomatch e⟩
 | ref p=>
  cases r;rcases ty with⟨rfl,xs,hq⟩|⟨rfl,o,hk,hc,hd⟩|⟨rfl,hk⟩|⟨rfl,S,n,hk⟩
  ·obtain⟨its,_,pl,_⟩:=I.list hq;refine⟨pl.isList.typeIs,fun a e=>?_⟩;cases e;obtain⟨o,n,e,c,hd,_⟩:=pl;exact⟨o,e,hd⟩
  ·refine⟨⟨o,I.kIn p o hk,hc⟩,fun a e=>?_⟩;cases e;exact⟨o,I.kIn _ o hk,hd⟩
  ·have z:∃o,s.heap.get? p=some o/\o.ExactDict:=by
    rcases hk with⟨kvs,hk⟩|⟨kvs,hk⟩
    ·obtain⟨_,_,_,_,o,_,_,e,ex,_⟩:=I.hok p _ hk;exact⟨o,e,ex⟩
    ·obtain⟨_,_,_,_,o,_,_,e,ex,_⟩:=I.hok p _ hk;exact⟨o,e,ex⟩
   obtain⟨o,e,ex⟩:=z;refine⟨⟨o,e,ex.1⟩,fun a e2=>?_⟩;cases e2;exact⟨o,e,ex.2.1⟩
  ·obtain⟨o,_,_,_,e,ex,_⟩:=I.hok p _ hk;refine⟨⟨o,e,ex.1⟩,fun a e2=>?_⟩;cases e2;exact⟨o,e,ex.2.1⟩
 | _=>exact False.elim ty
noncomputable def y3Y (K:PySem.W.Frag) (T:String) (r:V->List V->Hp->VK->Prop) (to:TE):TE:=fun σ H Q=>to σ H fun x H1=>tyV K T x H1/\r x [] H1 Q
noncomputable def tBM (K:PySem.W.Frag) (T:String) (r:V->List V->Hp->VK->Prop) (to:TE) (t:TA):TE:=fun σ H Q=>to σ H fun x H1=>tyV K T x H1/\t σ H1 fun xs H2=>r x xs H2 Q
variable {o e:Expr} {es:List Expr} {to:TE} {t:TA} {name:Str} {apos cpos:Pos} {T id:String} {r:V->List V->Hp->VK->Prop}
theorem qh (pa:PlainAttrs T) (slot:Slot T name id) (hty:typeOf (.builtin id)=pure (.type "method_descriptor")) (hm:MtR X id r) (ho:PE X o to) (ha:PA X (e::es) t)
  (hbase:attributeBase o name X.env (eval o X.env)=eval o X.env:=by rfl)
  (hfew:((backTo cpos (starEach (e::es) X.env)).all (fun x=>!x.1) && (backToKw cpos (keywordEach [] X.env)).all (fun x=>x.1.isSome)
   && decide ((e::es).length+([]:List Keyword).length+(if ([]:List Keyword).isEmpty then 0 else 1)<30))=true:=by rfl)
  (hline:(apos.endLine == cpos.line)=true:=by rfl) (hs:starEach (e::es) X.env=(false,eval e X.env)::starEach es X.env:=by rfl) (hplain:(backTo cpos (starEach es X.env)).any (·.1)=false:=by rfl) :
  PE X (.Call (.Attribute o name apos) (e::es) [] cpos) (tBM X.K T r to t):=by
 intro pins s σ H Q I h;refine wpAny_Call_method_late hbase hfew hline rfl (thn (ho pins s σ H _ I h) fun v s1 ⟨x,H1,I1,r1,ty,q1⟩=>?_);obtain⟨h1,h2⟩:=z9L I1 r1 ty;refine⟨T,id,pa,slot,hty,h1,h2,?_⟩;have hA:=ha cpos pins s1 σ H1 _ I1 q1;rw[hs] at hA ⊢;refine Calls.callWith_builtin (by show (false || (backTo cpos (starEach es X.env)).any (·.1))=false;rw[hplain] <;> rfl) (Calls.evalArgs_plain ?_);exact thn hA fun us s2 ⟨vs,H2,I2,r2,q2⟩=>hm pins s2 σ H2 x vs v us Q I2 r1 r2 q2
end
noncomputable def MtM (X:Cx) (id:String) (r:V->List V->Hp->VK->Prop):Prop:=
 ∀(pins:List (Addr×Obj)) (s:Shared) (σ:St) (H:Hp) (x:V) (xs:List V) (v:Value) (us:List Value) (Q:VK),Inv X pins σ H s->RelV x v->Vals xs us->r x xs H Q->
  wpAny (model X.prog X.w) X.A (call (.builtin id) (v::us)) (EP X pins σ Q) X.xe s
theorem Vals.inv {x:V} {xs:List V} {us:List Value}:Vals (x::xs) us->∃u r,us=u::r/\RelV x u/\Vals xs r
 | .cons r h=>⟨_,_,rfl,r,h⟩
theorem Vals.nil0:∀ {us:List Value},Vals [] us->us=[]
 | _,.nil=>rfl
theorem Vals.one {x:V} {us:List Value} (h:Vals [x] us):∃u,us=[u]/\RelV x u:=by
 obtain⟨u,r,rfl,a,h⟩:=h.inv;rw[h.nil0];exact⟨u,rfl,a⟩
theorem Vals.two {x y:V} {us:List Value} (h:Vals [x,y] us):∃u v,us=[u,v]/\RelV x u/\RelV y v:=by
 obtain⟨u,r,rfl,a,h⟩:=h.inv;obtain⟨v,rfl,b⟩:=h.one;exact⟨u,v,rfl,a,b⟩
theorem Vals.zero:∀ {us:List Value},Vals [] us->us=[]
 | _,.nil=>rfl
theorem Vals.dropLast {xs:List V} {us:List Value} (h:Vals xs us):Vals xs.dropLast us.dropLast:=by
 induction h with
 | nil=>exact .nil
 | cons r t ih=>
  cases t with
  | nil=>exact .nil
  | cons q t'=>exact .cons r ih
theorem Vals.eraseIdx:∀ {xs:List V} {us:List Value} (i:Nat),Vals xs us->Vals (xs.eraseIdx i) (us.eraseIdx i)
 | _,_,_,.nil=>.nil
 | _,_,0,.cons _ t=>t
 | _,_,i+1,.cons r t=>.cons r (Vals.eraseIdx i t)
theorem Vals.reverse {xs:List V} {us:List Value} (h:Vals xs us):Vals xs.reverse us.reverse:=by
 induction h with
 | nil=>exact .nil
 | cons r t ih=>rw[List.reverse_cons,List.reverse_cons];exact Vals.append ih (.cons r .nil)
section
variable {X:Cx} {pins:List (Addr×Obj)} {σ:St} {H:Hp} {s:Shared} {l b:Addr} {xs ys zs:List V}
theorem Inv.lset {its its':List Value} {n:Nat} {f:Array Value->Array Value} {t':Nat} (I:Inv X pins σ H s) (hH:H l=some (.lst xs))
  (e:s.heap.get? l=some { cls:=.type "list",data:=.seq its.toArray n }) (hf:f its.toArray=its'.toArray) (hv:Vals ys its') (hz:ys.length<=sizeLine) :
  Inv X pins σ (upd H l (.lst ys)) { s with heap:=s.heap.update l (Obj.mapSeq f),toks:=t' }:=by
 have q:=PySem.IsL.update e f;rw[hf] at q;refine I.write (x:=l) (e:=l) (by rw[hH];exact trivial) (.inl rfl) (fun b' u hb hu=>(Heap.get?_update_other s.heap (Obj.mapSeq f) (Ne.symm hb)).trans hu) ⟨_,q⟩ ?_;exact⟨hz,its',_,hv,q⟩
theorem Inv.lnew {its:List Value} {t':Nat} (I:Inv X pins σ H s) (hv:Vals ys its) (hz:ys.length<=sizeLine) :
  Inv X pins σ (upd H s.heap.objs.size (.lst ys)) { s with heap:=s.heap.push { cls:=.type "list",data:=.seq its.toArray },toks:=t' }:=
 I.laid (fun _ _ q=>Heap.get?_push_of_some _ q) (Nat.le_refl _) ⟨hz,its,0,hv,Heap.get?_push_size _ rfl⟩
theorem Inv.fresh (I:Inv X pins σ H s):H s.heap.objs.size=none:=I.hok.fresh (Nat.le_refl _)
theorem Inv.lstM (I:Inv X pins σ H s) (hH:H l=some (.lst xs)):xs.length<=sizeLine/\∃(its:List Value) (n:Nat),Vals xs its/\xs.length=its.length/\s.heap.get? l=some { cls:=.type "list",data:=.seq its.toArray n }:=by
 obtain⟨z,its,n,r,e⟩:=I.hok l _ hH;exact⟨z,its,n,r,r.length,e⟩
theorem z8U {n:Nat} (h:n<=sizeLine):Builtin.List.listTooLong n=false:=by
 unfold Builtin.List.listTooLong;exact decide_eq_false (by omega)
end
section
variable {X:Cx}
noncomputable def z9v:V->List V->Hp->VK->Prop:=fun x vs H Q=>∃l xs y,x=.ref l/\vs=[y]/\H l=some (.lst xs)/\xs.length<sizeLine/\Q .non (upd H l (.lst (xs++[y])))
theorem qC:MtM X "list.append" z9v:=by
 intro pins s σ H x vs v us Q I rx rv h;obtain⟨l,xs,y,rfl,rfl,hH,hz,q⟩:=h;cases rx;obtain⟨u,rfl,ru⟩:=rv.one;obtain⟨z,its,n,r,hl,e⟩:=I.lstM hH;refine call_meets F.slot_list_append ⟨_,e,rfl⟩ F.entry_list_append (F.args_list_append_2 _ _) (PySem.list_append l its.toArray n u (by rw[List.size_toArray];omega)) ⟨e,?_⟩;refine⟨.non,_,I.lset (its':=its++[u]) hH e (by simp) (r.append (.cons ru .nil)) ?_,rfl,q⟩;rw[List.length_append,List.length_singleton];omega
noncomputable def z9u:V->List V->Hp->VK->Prop:=fun x vs H Q=>∃l b xs zs,x=.ref l/\vs=[.ref b]/\H l=some (.lst xs)/\H b=some (.lst zs)/\xs.length+zs.length<=sizeLine/\Q .non (upd H l (.lst (xs++zs)))
theorem z6j:MtM X "list.extend" z9u:=by
 intro pins s σ H x vs v us Q I rx rv h;obtain⟨l,b,xs,zs,rfl,rfl,hH,hB,hz,q⟩:=h;cases rx;obtain⟨u,rfl,ru⟩:=rv.one;cases ru;obtain⟨z,its,n,r,hl,e⟩:=I.lstM hH;obtain⟨z2,its2,n2,r2,hl2,e2⟩:=I.lstM hB;have hsz:its.toArray.size+its2.toArray.size<=sizeLine:=by rw[List.size_toArray,List.size_toArray];omega
 have hlong:¬(!its.toArray.isEmpty && Builtin.List.listTooLong (its.toArray.size+its2.toArray.size))=true:=by
  rw[z8U hsz,Bool.and_false];exact Bool.false_ne_true
 refine call_meets F.slot_list_extend ⟨_,e,rfl⟩ F.entry_list_extend (F.args_list_extend_2 _ _)
  (AutoSeq1.list_extend_list_list_0 l its.toArray n b its2.toArray n2 hlong (by rw[List.size_toArray];omega) (by omega)) ⟨e,e2,?_⟩
 refine⟨.non,_,I.lset (its':=its++its2) hH e (by simp) (r.append r2) ?_,rfl,q⟩;rw[List.length_append];omega
noncomputable def y3g:R2:=fun x y H Q=>∃l b xs zs,x=.ref l/\y=.ref b/\H l=some (.lst xs)/\H b=some (.lst zs)/\xs.length+zs.length<=sizeLine/\∀p,H p=none->Q (.ref p) (upd H p (.lst (xs++zs)))
theorem y1g:OpR X (binaryOp .Add) y3g:=by
 intro pins s σ H x y v u Q I rx ry h;obtain⟨l,b,xs,zs,rfl,rfl,hH,hB,hz,q⟩:=h;cases rx;cases ry;obtain⟨z,its,n,r,hl,e⟩:=I.lstM hH;obtain⟨z2,its2,n2,r2,hl2,e2⟩:=I.lstM hB;refine PySem.P.add_list e e2 ?_ (by rw[List.size_toArray,List.size_toArray];omega);have ea:its.toArray++its2.toArray=(its++its2).toArray:=by simp
 rw[ea];exact⟨.ref _,_,I.lnew (t':=s.toks) (r.append r2) (by rw[List.length_append];omega),rfl,q _ I.fresh⟩
end
section
variable {prog:Program} {w:World} {A:Around} {E:Value->Shared->Prop} {s:Shared}
end
section
variable {X:Cx}
end
end L2
namespace Att
open PySem PySem.W PySem.Calls PyProof.Rows
theorem vH {P:Params} {h:Heap}:∀(ns:List Int) (vs:List Value),WellAll P h vs (ns.map WData.int)->IntsAre vs ns:=by
 intro ns
 induction ns with
 | nil=>
  intro vs w;rw[List.map_nil] at w;cases w;exact .nil
 | cons n ns ih=>
  intro vs w;rw[List.map_cons] at w;cases w with
  | cons a b=>
   cases a;exact .cons _ _ (ih _ b)
theorem script_of {l:OpenLaw} {n:Nat} (hn:l.most=some n) {P:Params} {h:Heap} {args:List WData} {vals:List Value}
    (hpre:l.row.toRowW.claim.pre args=true) (hwl:WellAll P h vals args) :
    ∃a vs ns,vals=[Value.ref a]/\args=[WData.list (ns.map WData.int)]/\h.get? a=some { cls:=.type "list",data:=.seq vs.toArray }/\IntsAre vs ns/\ns.length<=n:=by
  have hsh:WShape.hasAll [] args [.list .int]=true:=(pre_splitW hpre).1;have hc:l.pre.holds [] { args:=args }=true:=(pre_splitW hpre).2;obtain⟨d,r,rfl,h1,h2⟩:=hasAllW_cons hsh;obtain rfl:=hasAllW_nil h2;obtain⟨xs,rfl,h3⟩:=hasW_list h1;obtain⟨ns,rfl⟩:=items_int h3;have hlen:ns.length<=n:=by
    unfold OpenLaw.pre at hc;have h4:(WTm.not (.lt (.lit (.int (n:Int))) (.len (.arg 0)))).holds [] { args:=[.list (ns.map .int)] }=true:=by
      have h4:=(holds_andW hc).1;rw[hn] at h4;exact h4
    have h5:=condW_of h4 (w_not (w_lt w_lit (w_len_list (w_arg rfl))));rw[List.length_map] at h5;refine Nat.le_of_not_lt fun q=>?_;have q':(n:Int)<((ns.length:Nat):Int):=by omega
    first
      | (rw[decide_eq_true q'] at h5;exact absurd h5 (by decide))
      | (simp at h5;omega)
  cases hwl with
  | cons w1 w2=>
    cases w2;cases w1 with
    | list ho hall=>exact⟨_,_,ns,rfl,rfl,ho,vH ns _ hall,hlen⟩
theorem post_true (l:OpenLaw) (args:List WData):l.row.toRowW.claim.post args (.bool true) args=true:=
 postW_of (r:=l.row.toRowW) (X:=(true == true))
  (show WShape.has [] (.bool true) .bool=true by first|rfl|decide|simp [WShape.has,WShape.arms,WShape.armsAll])
  (show (WTm.eq .res (.lit (.bool true))).value [] { args:=args,res:=some (.bool true),after:=args }=some (.bool (true == true)) from w_eq_bool (w_res rfl) w_lit) rfl
section
variable {prog:Program} {w:World} {A:Around} {E:Value->Shared->Prop} {s:Shared} {K:Frag}
end
end Att
namespace L2
open PySem PySem.Spec PyProof.Rows
theorem z1k:∀ {vs:List Value} {ns:List Int},IntsAre vs ns->Vals (ns.map V.int) vs
 | _,_,.nil=>.nil
 | _,_,.cons n t h=>.cons ⟨t,rfl⟩ (z1k h)
noncomputable def y3O (H:Hp):Prop:=∀b,H b=none∨∃o xs,H b=some (.frz o (.lst xs))
theorem z8e {P:Program} {w:World} {K:PySem.W.Frag} {mg mb:Str->Option Value} {CX:CXT} {k:Nat} {fa a:Addr} {fd:FuncData} {x:Str} {sp:Sp} {s₁:Shared} {vs:List Value} {ns:List Int}
  (KX:K.In s₁.heap) (hns:s₁.heap.Ns mainGlobals mg) (hb:s₁.heap.Ns builtinsNs mb) (hbb:∀x:Str,x≠ "__name__" ->mb x=bootBuiltins x) (hlim:s₁.heap.NoLimit) (hg:s₁.gens = #[])
  (ha:s₁.heap.get? a=some { cls:=.type "list",data:=.seq vs.toArray }) (hi:IntsAre vs ns) (hl:ns.length<=sizeLine) (hr:Room k callerA)
  (F:∀base:Heap,K.In base->base.Ns mainGlobals mg->FnOk P w K mg base CX k fa fd [x] sp) (hbind:∀(s:Shared) (u:Value),BindsTo s fd ⟨[u],[]⟩ [(x,u)])
  (hsp:∀H:Hp,y3O H->SqL K H a (ns.map V.int)->sp [.ref a] H (fun v _=>v=.bl true) fun _ _ _=>False)
  (hCX:∀H e s',CX [] H s₁ (fun _ _ _=>False) e s'->False) :
  codeAny (model P w) callerA (.call (.ref fa) ⟨[.ref a],[]⟩) (fun r s'=>r=.ok (.ret (.bool true))/\OldK s₁.heap s'.heap/\s'.os=s₁.os/\AllBare s'.gens) s₁:=by
 have rv:=z1k hi;have lenV:=hi.length;have core:∀H:Hp,y3O H->SqL K H a (ns.map V.int)->HOk P w H s₁.heap->(∀b,H b≠none->b=a)->(H a≠none->K.lookup a=none)->
   codeAny (model P w) callerA (.call (.ref fa) ⟨[.ref a],[]⟩) (fun r s'=>r=.ok (.ret (.bool true))/\OldK s₁.heap s'.heap/\s'.os=s₁.os/\AllBare s'.gens) s₁:=by
  intro H hO hS hok hA hK;have base_of:∀ {b:Addr} {o:Obj},s₁.heap.get? b=some o->H b=none->(z8i s₁.heap H).get? b=some o:=fun e n=>z8h e n;have noA:∀ {b:Addr} {o:Obj} {es:Array DictEntry} {ep:Nat},s₁.heap.get? b=some o->o.data=.dict es ep->H b=none:=fun {b o es ep} e d=>by
   cases q:H b with
   | none=>rfl
   | some u=>
    have e':b=a:=hA b (by rw[q];simp);subst e';rw[ha] at e;cases e;have d':Data.seq vs.toArray _=Data.dict es ep:=d;cases d'
  have nsK:∀ {b:Addr} {m:Str->Option Value},s₁.heap.Ns b m->(z8i s₁.heap H).Ns b m:=fun {b m} ⟨o,es,ep,e,d,r⟩=>⟨o,es,ep,base_of e (noA e d),d,r⟩
  have hKb:K.In (z8i s₁.heap H):=fun b o e=>base_of (KX b o e) (by
   cases q:H b with
   | none=>rfl
   | some u=>
    have e':b=a:=hA b (by rw[q];simp);subst e';rw[hK (by rw[q];simp)] at e;cases e)
  have hM:Mod K mg (z8i s₁.heap H):=⟨hKb,nsK hns,⟨mb,nsK hb,hbb⟩,let ⟨mc,h1,h2⟩:=hlim;⟨mc,nsK h1,h2⟩⟩
  have e0:Env0 P w K mg (z8i s₁.heap H) callerA [] s₁ H:=⟨rfl,hM,fun b o e=>y0O e,Nat.le_of_eq (z6y _ _),trivial,fun b hb=>absurd (show b∈([]:List Addr) from hb) (by simp),hok,.of_eq hg⟩
  refine codeAny_mono ((F _ hKb (nsK hns)).run callerA [] s₁ H ⟨[.ref a],[]⟩ [.ref a] [.ref a] _ _ hr e0 (hbind s₁ (.ref a)) (.cons rfl .nil) (hsp H hO hS)) fun r s' h=>?_;cases r with
  | error e=>exact (hCX H e s' h).elim
  | ok fl=>
   cases fl with
   | next=>exact False.elim h
   | brk=>exact False.elim h
   | cont=>exact False.elim h
   | ret u=>
    obtain⟨v,H',os,bare,un,hok',r',q⟩:=h;have q':v=.bl true:=q;subst q';obtain rfl:u=Value.bool true:=r';refine⟨rfl,OldK.of_keep fun b o e=>?_,os,bare⟩;cases q:H b with
    | none=>exact un.keep b o e q (by intro z;exact absurd (show b∈([]:List Addr) from z) (by simp)) (by simp)
    | some u=>
     rcases hO b with z|⟨ob,xs,z⟩
     ·rw[q] at z;cases z
     ·have z2:=un.frzs b ob _ z;obtain⟨e1,_⟩:=hok b _ z;obtain⟨e2,_⟩:=hok' b _ z2;rw[e] at e1;cases e1;exact e2
 cases hk:K.lookup a with
 | some o=>
  have e:=KX a o hk;rw[ha] at e;cases e;refine core (fun _=>none) (fun _=>.inl rfl) (.inr ⟨_,vs.toArray,_,hk,rfl,rfl,rfl,by rw[List.size_toArray,lenV];exact hl,by simpa using rv⟩) (fun b u z=>by have z':(none:Option HO)=some u:=z;cases z') (fun b z=>absurd rfl z) fun z=>absurd rfl z
 | none=>
  refine core (fun b=>if b=a then some (.frz { cls:=.type "list",data:=.seq vs.toArray } (.lst (ns.map V.int))) else none) (fun b=>?_) (.inl (.inr ⟨{ cls:=.type "list",data:=.seq vs.toArray },if_pos rfl⟩)) (fun b u z=>?_) (fun b z=>?_) fun _=>hk
  ·by_cases hb:b=a
   ·exact .inr ⟨_,_,if_pos hb⟩
   ·exact .inl (if_neg hb)
  ·by_cases hb:b=a
   ·have z':=(if_pos hb).symm.trans z;cases z';subst hb;exact⟨ha,by rw[List.length_map];exact hl,vs,_,rv,ha⟩
   ·have z':=(if_neg hb).symm.trans z;cases z'
  ·by_cases hb:b=a
   ·exact hb
   ·exact absurd (if_neg hb) z
noncomputable def z3U (s:Stmt) (j:Nat):Stmt:=match s with
 | .ClassDef _ _ _ body _ _ _ _ _ _ _=>body.getD j (.Pass ⟨0,0,0,0⟩)
 | _=>.Pass ⟨0,0,0,0⟩
noncomputable def yg (s:Stmt):Arguments:=match s with
 | .FunctionDef _ a _ _ _ _ _ _ _ _=>a
 | _=>{ posonlyargs:=[],args:=[],vararg:=none,kwonlyargs:=[],kw_defaults:=[],kwarg:=none,defaults:=[] }
noncomputable def yD (s:Stmt):List Stmt:=match s with
 | .FunctionDef _ _ b _ _ _ _ _ _ _=>b
 | _=>[]
noncomputable def zK (s:Stmt):Scope:=match s with
 | .FunctionDef _ _ _ _ _ _ sc _ _ _=>sc
 | _=>{ kind:=.function,names:=[],isGenerator:=false,isCoroutine:=false }
noncomputable abbrev CX0:CXT:=fun _ _ _ _ _ _=>False
noncomputable abbrev E0:XK:=fun _ _ _=>False
theorem z8S {X:Cx}:vP CX0 X E0:=fun _ _ _ _ _ _ _ h=>h.elim
structure Fun (K:PySem.W.Frag) (x qual:Str) (st:Stmt) (f:Addr) (fd:FuncData):Prop where
 ex:∃(oc:Value) (od:Option Addr) (kV doc pm:Value) (an:Option Addr) (cdv ct:Value) (osl:Array (Option Value)),
  fd=PySem.W.fnOf x qual (yg st) (yD st) (zK st) .none kV doc pm an cdv ct/\K.lookup f=some ⟨oc,od,.func fd,osl⟩/\PySem.W.codeIn K cdv qual=true
 kp:PySem.W.keepIn K (.ref f)=true
section
variable {P:Program} {w:World} {K:PySem.W.Frag} {mg:Str->Option Value} {base:Heap}
theorem Fun.ok {x qual:Str} {st:Stmt} {f:Addr} {fd:FuncData} {N ps:List Str} {k:Nat} {sp:Sp} (F:Fun K x qual st f fd) (S:FnScope N ps (zK st)) (len:∀vs H Q E,sp vs H Q E->vs.length=ps.length)
  (hbody:∀(cdv:Value) (A:Around) (outer:List Env) (s:Shared) (H:Hp) (vs:List V) (Q:VK) (E:XK),Room k (A.deeper (envOfC qual (zK st) s.heap.objs.size f cdv))->sp vs H Q E->
   ∃t,PSs (qN CX0 P w K mg base N qual (zK st) f cdv A outer s H E).nox (yD st) t/\t { nx:=fun _ H'=>Q .non H',rt:=Q } (yo N vs) H):FnOk P w K mg base CX0 (k+1) f fd ps sp:=by
 obtain⟨oc,od,kV,doc,pm,an,cdv,ct,osl,rfl,lk,hcd⟩:=F.ex;refine z8w lk hcd S len fun A outer s H vs Q E hr hsp=>?_;obtain⟨t,h,q⟩:=hbody cdv A outer s H vs Q E hr hsp;exact⟨t,h.nox,q⟩
theorem Fun.binds {x qual:Str} {st:Stmt} {f:Addr} {fd:FuncData} {ps:List Str} (F:Fun K x qual st f fd)
  (h:∀(kV doc pm:Value) (an:Option Addr) (cdv ct:Value) (us:List Value),us.length=ps.length->bindArgs (PySem.W.fnOf x qual (yg st) (yD st) (zK st) .none kV doc pm an cdv ct) ⟨us,[]⟩=pure (ps.zip us)):Binds K fd ps []:=by
 obtain⟨oc,od,kV,doc,pm,an,cdv,ct,osl,rfl,lk,hcd⟩:=F.ex;exact .all (h kV doc pm an cdv ct)
theorem z9a {x qual:Str} {st:Stmt} {f:Addr} {oc:Value} {od an:Option Addr} {osl:Array (Option Value)} {kV doc pm cdv ct:Value} (l:K.lookup f=some ⟨oc,od,.func (PySem.W.fnOf x qual (yg st) (yD st) (zK st) .none kV doc pm an cdv ct),osl⟩)
  (c:PySem.W.codeIn K cdv qual=true) (k:PySem.W.keepIn K (.ref f)=true):Fun K x qual st f (PySem.W.fnOf x qual (yg st) (yD st) (zK st) .none kV doc pm an cdv ct):=⟨⟨oc,od,kV,doc,pm,an,cdv,ct,osl,rfl,l,c⟩,k⟩
end
theorem xX {A:Around} {k:Nat} (hr:Room k A):A.units+1<cLine:=Nat.lt_of_le_of_lt (Nat.add_le_add_left (by decide:1<=64) _) hr.units
theorem z6L {n:Nat} (h:n<=1000):n<sizeLine:=Nat.lt_of_le_of_lt h (by decide)
section
variable {X:Cx}
theorem pv (i:Nat) {x:Str} {pos:Pos} (hN:X.N[i]?=some x:=by rfl) (hv:Vis X.env.scope x:=by first|exact Or.inl rfl|exact Or.inr (Or.inl rfl)|exact Or.inr (Or.inr rfl)) (hd:(x == ("__debug__" : Str))=false:=by decide)
  (hcd:(x == ("__classdict__" : Str))=false:=by decide):PE X (.Name x pos) (z3q i):=y1a hN hv hd hcd
end
noncomputable def Same (H H':Hp):Prop:=∀b o,H b=some o->H' b=some o
theorem Same.refl (H:Hp):Same H H:=fun _ _ h=>h
theorem Same.trans {H H1 H2:Hp} (a:Same H H1) (b:Same H1 H2):Same H H2:=fun c o h=>b c o (a c o h)
theorem Same.free {H H':Hp} (e:Same H H') {l:Addr} (h:H' l=Option.none):H l=Option.none:=by
 cases q:H l with
 | none=>rfl
 | some o=>
  rw[e l o q] at h;cases h
theorem Same.seq {K:PySem.W.Frag} {H H':Hp} {a:Addr} {xs:List V} (e:Same H H') (h:SqL K H a xs):SqL K H' a xs:=by
 rcases h with (h|⟨o,h⟩)|h
 ·exact .inl (.inl (e _ _ h))
 ·exact .inl (.inr ⟨o,e _ _ h⟩)
 ·exact .inr h
section
variable {κ:Type} [DecidableEq κ]
noncomputable def wK (kvs:List (κ×V)) (k:κ):Option V:=(kvs.find? fun kv=>decide (kv.1=k)).map (·.2)
noncomputable def z3I (kvs:List (κ×V)) (k:κ) (v:V):List (κ×V):=
 if (kvs.any fun kv=>decide (kv.1=k))=true then kvs.map (fun kv=>if kv.1=k then (kv.1,v) else kv) else kvs++[(k,v)]
noncomputable def y2F (kvs:List (κ×V)) (k:κ):List (κ×V):=kvs.filter fun kv=>decide (kv.1≠k)
theorem yY {p:κ×V} {r:List (κ×V)} {k:κ} (e:p.1=k):wK (p::r) k=some p.2:=by simp [wK,List.find?_cons,e]
theorem yZ {p:κ×V} {r:List (κ×V)} {k:κ} (e:¬p.1=k):wK (p::r) k=wK r k:=by simp [wK,List.find?_cons,e]
theorem kH (k:κ):∀kvs:List (κ×V),(kvs.any fun kv=>decide (kv.1=k))=(wK kvs k).isSome
 | []=>rfl
 | p::r=>by
  rw[List.any_cons];by_cases e:p.1=k
  ·simp only [yY e,decide_eq_true e,Bool.true_or,Option.isSome_some]
  ·rw[yZ e,decide_eq_false e,Bool.false_or];exact kH k r
theorem z3k (k j:κ) (y:V):∀kvs:List (κ×V),wK (kvs.map fun kv=>if kv.1=k then (kv.1,y) else kv) j=(wK kvs j).map fun x=>if j=k then y else x
 | []=>rfl
 | p::r=>by
  have ih:=z3k k j y r;rw[List.map_cons];by_cases h:p.1=k
  ·rw[if_pos h];by_cases e:p.1=j
   ·rw[yY (p:=(p.1,y)) e,yY e,Option.map_some,if_pos (e.symm.trans h)]
   ·rw[yZ (p:=(p.1,y)) e,yZ e,ih]
  ·rw[if_neg h];by_cases e:p.1=j
   ·rw[yY (p:=p) e,yY e,Option.map_some,if_neg (fun z=>h (e.trans z))]
   ·rw[yZ (p:=p) e,yZ e,ih]
theorem z1l (k j:κ) (y:V):∀kvs:List (κ×V),wK kvs k=none->wK (kvs++[(k,y)]) j=if j=k then some y else wK kvs j
 | [],_=>by
  by_cases e:k=j
  ·rw[if_pos e.symm];exact yY (p:=(k,y)) e
  ·rw[if_neg (fun z=>e z.symm)];exact yZ (p:=(k,y)) e
 | p::r,hn=>by
  rw[List.cons_append];have hk:¬p.1=k:=fun z=>by rw[yY z] at hn;cases hn
  rw[yZ hk] at hn;have ih:=z1l k j y r hn;by_cases e:p.1=j
  ·rw[yY e,yY e,if_neg (fun z=>hk (e.trans z))]
  ·rw[yZ e,yZ e,ih]
theorem z7r (kvs:List (κ×V)) (k j:κ) (y:V):wK (z3I kvs k y) j=if j=k then some y else wK kvs j:=by
 unfold z3I;by_cases a:(kvs.any fun kv=>decide (kv.1=k))=true
 ·rw[if_pos a,z3k];rw[kH] at a;by_cases e:j=k
  ·obtain⟨x,hx⟩:=Option.isSome_iff_exists.mp a;rw[if_pos e,e,hx,Option.map_some,if_pos rfl]
  ·rw[if_neg e];cases wK kvs j with
   | none=>rfl
   | some x=>rw[Option.map_some,if_neg e]
 ·rw[if_neg a];refine z1l k j y kvs ?_;rw[kH] at a;cases q:wK kvs k with
  | none=>rfl
  | some x=>rw[q] at a;exact (a rfl).elim
theorem xj (kvs:List (κ×V)) (k:κ) (v:V):(z3I kvs k v).length<=kvs.length+1:=by
 unfold z3I;split
 ·rw[List.length_map];omega
 ·rw[List.length_append,List.length_cons,List.length_nil];omega
theorem RelO.isSome_eq {o:Option V} {u:Option Value} (r:RelO o u):o.isSome=u.isSome:=by
 cases o with
 | none=>cases u with
  | none=>rfl
  | some _=>exact (show False from r).elim
 | some _=>cases u with
  | none=>exact (show False from r).elim
  | some _=>rfl
theorem RelO.getD {o:Option V} {u:Option Value} {d:V} {d':Value} (r:RelO o u) (rd:RelV d d'):RelV (o.getD d) (u.getD d'):=by
 cases o with
 | none=>cases u with
  | none=>exact rd
  | some _=>exact (show False from r).elim
 | some _=>cases u with
  | none=>exact (show False from r).elim
  | some _=>exact r
theorem KV.val {kvs:List (κ×V)} {vs:List (κ×Value)} (r:KV kvs vs) (k:κ):RelO (wK kvs k) (valueAt vs k):=by
 unfold KV at r
 induction r with
 | nil=>exact True.intro
 | @cons p q ps qs h t ih=>
  obtain⟨h1,h2⟩:=h;by_cases e:p.1=k
  ·have e':q.1=k:=h1.symm.trans e;have b:valueAt (q::qs) k=some q.2:=by simp [valueAt,List.find?_cons,e']
   rw[yY e,b];exact h2
  ·have e':¬q.1=k:=fun z=>e (h1.trans z);have b:valueAt (q::qs) k=valueAt qs k:=by simp [valueAt,List.find?_cons,e']
   rw[yZ e,b];exact ih
theorem KV.any {kvs:List (κ×V)} {vs:List (κ×Value)} (r:KV kvs vs) (k:κ):(kvs.any fun kv=>decide (kv.1=k))=vs.any fun kv=>decide (kv.1=k):=by
 unfold KV at r
 induction r with
 | nil=>rfl
 | cons h t ih=>rw[List.any_cons,List.any_cons,ih,h.1]
theorem KV.repl {kvs:List (κ×V)} {vs:List (κ×Value)} (r:KV kvs vs) (k:κ) {y:V} {u:Value} (ry:RelV y u) :
  KV (kvs.map fun kv=>if kv.1=k then (kv.1,y) else kv) (vs.map fun kv=>if kv.1=k then (kv.1,u) else kv):=by
 unfold KV at r ⊢
 induction r with
 | nil=>exact .nil
 | @cons p q ps qs h t ih=>
  rw[List.map_cons,List.map_cons];refine .cons ?_ ih;obtain⟨h1,h2⟩:=h;by_cases e:p.1=k
  ·rw[if_pos e,if_pos (h1.symm.trans e)];exact⟨h1,ry⟩
  ·rw[if_neg e,if_neg (fun z=>e (h1.trans z))];exact⟨h1,h2⟩
theorem KV.put {kvs:List (κ×V)} {vs:List (κ×Value)} (r:KV kvs vs) (k:κ) {y:V} {u:Value} (ry:RelV y u):KV (z3I kvs k y) (stored vs k u):=by
 unfold z3I stored;rw[r.any k];by_cases e:(vs.any fun kv=>decide (kv.1=k))=true
 ·rw[if_pos e,if_pos e];exact r.repl k ry
 ·rw[if_neg e,if_neg e];exact Paired.snoc r ⟨rfl,ry⟩
theorem KV.drop {kvs:List (κ×V)} {vs:List (κ×Value)} (r:KV kvs vs) (k:κ):KV (y2F kvs k) (without vs k):=by
 unfold KV at r ⊢;unfold y2F without
 induction r with
 | nil=>exact .nil
 | @cons p q ps qs h t ih=>
  obtain⟨h1,h2⟩:=h;rw[List.filter_cons,List.filter_cons];by_cases e:p.1=k
  ·have a:¬decide (p.1≠k)=true:=by simp [e]
   have b:¬decide (q.1≠k)=true:=by simp [h1.symm.trans e]
   rw[if_neg a,if_neg b];exact ih
  ·have e':¬q.1=k:=fun z=>e (h1.trans z);have a:decide (p.1≠k)=true:=by simp [e]
   have b:decide (q.1≠k)=true:=by simp [e']
   rw[if_pos a,if_pos b];exact .cons ⟨h1,h2⟩ ih
theorem KV.length {kvs:List (κ×V)} {vs:List (κ×Value)} (r:KV kvs vs):kvs.length=vs.length:=Paired.length r
end
theorem z5Q {P:Program} {w:World} {k:Key} {u:Value} (r:RelV (kV k) u):(yK P w).is k u=true:=by
 cases k with
 | inl i=>obtain⟨t,e⟩:=(show ∃t,u=Value.int i t from r);subst e;exact z3Q P w i t
 | inr x=>obtain⟨t,e⟩:=(show ∃t,u=Value.str x t from r);subst e;exact wv P w x t
theorem z2T {P:Program} {w:World}:∀ {ks:List Key} {us:List Value},Vals (ks.map kV) us->ItemsAre (yK P w) ks us
 | [],_,r=>by rw[List.map_nil] at r;cases r;exact .nil
 | k::ks,_,r=>by
  rw[List.map_cons] at r;cases r with
  | cons h t=>exact .cons (z5Q h) (z2T t)
noncomputable abbrev KT (H:Hp):List (List Key×V)->List (List Key×Addr×Value)->Prop:=Paired fun p q=>p.1=q.1/\H q.2.1=some (.tup (p.1.map kV))/\RelV p.2 q.2.2
theorem KT.val {H:Hp} {kvs:List (List Key×V)} {xs:List (List Key×Addr×Value)} (r:KT H kvs xs) (k:List Key):RelO (wK kvs k) ((atKey xs k).map (·.2)):=by
 induction r with
 | nil=>exact True.intro
 | @cons p q ps qs h t ih=>
  obtain⟨h1,_,h2⟩:=h;by_cases e:p.1=k
  ·have e':q.1=k:=h1.symm.trans e;have b:atKey (q::qs) k=some q.2:=by simp [atKey,List.find?_cons,e']
   rw[yY e,b];exact h2
  ·have e':¬q.1=k:=fun z=>e (h1.trans z);have b:atKey (q::qs) k=atKey qs k:=by simp [atKey,List.find?_cons,e']
   rw[yZ e,b];exact ih
theorem KT.repl {H:Hp} {kvs:List (List Key×V)} {xs:List (List Key×Addr×Value)} (r:KT H kvs xs) (k:List Key) {y:V} {u:Value} (ry:RelV y u) :
  KT H (kvs.map fun kv=>if kv.1=k then (kv.1,y) else kv) (xs.map (putAt k u)):=by
 induction r with
 | nil=>exact .nil
 | @cons p q ps qs h t ih=>
  rw[List.map_cons,List.map_cons];refine .cons ?_ ih;obtain⟨h1,h2,h3⟩:=h;unfold putAt;by_cases e:p.1=k
  ·rw[if_pos e,if_pos (h1.symm.trans e)];exact⟨h1,h2,ry⟩
  ·rw[if_neg e,if_neg (fun z=>e (h1.trans z))];exact⟨h1,h2,h3⟩
theorem KT.put {H:Hp} {kvs:List (List Key×V)} {xs:List (List Key×Addr×Value)} (r:KT H kvs xs) (k:List Key) {b:Addr} {y:V} {u:Value} (hb:H b=some (.tup (k.map kV))) (ry:RelV y u) :
  KT H (z3I kvs k y) (storedH xs k b u):=by
 have e:(kvs.any fun kv=>decide (kv.1=k))=(atKey xs k).isSome:=by
  rw[kH,(r.val k).isSome_eq,Option.isSome_map]
 unfold z3I storedH;rw[e];by_cases q:(atKey xs k).isSome=true
 ·rw[if_pos q,if_pos q];exact r.repl k ry
 ·rw[if_neg q,if_neg q];exact Paired.snoc r ⟨rfl,hb,ry⟩
theorem KT.keeps {H H':Hp} {kvs:List (List Key×V)} {xs:List (List Key×Addr×Value)} (r:KT H kvs xs) (ht:∀b ys,H b=some (.tup ys)->H' b=some (.tup ys)):KT H' kvs xs:=
 Paired.mapP r fun _ _ z=>⟨z.1,ht _ _ z.2.1,z.2.2⟩
section
variable {P:Program} {w:World} {H:Hp} {h:Heap} {a:Addr}
theorem y1S {u:HO} (ok:HOk P w H h) (e:Rd H a u):ObjOk P w H h a u:=e.ok ok
theorem z7P {kvs:List (Key×V)} (ok:HOk P w H h) (e:Rd H a (.dK kvs)):kvs.length<=sizeLine/\(a == sysModules)=false/\∃vs,KV kvs vs/\h.DictOf (yK P w) a vs:=
 show ObjOk P w H h a (.dK kvs) from y1S ok e
theorem y2q {kvs:List (Key×V)} (ok:HOk P w H h) (e:H a=some (.dK kvs)):kvs.length<=sizeLine/\(a == sysModules)=false/\∃vs,KV kvs vs/\h.DictOf (yK P w) a vs:=z7P ok (.inl e)
theorem z2R {ks:List Key} (ok:HOk P w H h) (e:H a=some (.tup (ks.map kV))):(tupleKind (yK P w)).is h ks a:=by
 obtain⟨_,its,r,o,h1,h2,n,h3⟩:=(show ObjOk P w H h a (.tup (ks.map kV)) from ok a _ e)
 exact⟨o,its.toArray,n,h1,h2,h3,by simpa using z2T r⟩
theorem z7O {kvs:List (List Key×V)} (ok:HOk P w H h) (e:Rd H a (.dT kvs)):kvs.length<=sizeLine/\(a == sysModules)=false/\
  ∃xs,KT H kvs xs/\h.DictOfH (tupleKind (yK P w)) a xs:=by
 obtain⟨z,y,xs,r,o,es,ep,h1,h2,h3,h4,h5⟩:=(show ObjOk P w H h a (.dT kvs) from y1S ok e)
 refine⟨z,y,xs,r,o,es,ep,h1,h2,h3,h4,fun x hx=>?_,h5⟩;have all:∀ {l:List (List Key×V)} {m:List (List Key×Addr×Value)},KT H l m->∀x∈m,(tupleKind (yK P w)).is h x.1 x.2.1:=by
  intro l m q
  induction q with
  | nil=>intro x hx;exact nomatch hx
  | @cons p q ps qs hq t ih=>
   intro x hx;rcases List.mem_cons.mp hx with e|hx
   ·subst e;exact z2R ok (by rw[←hq.1];exact hq.2.1)
   ·exact ih x hx
 exact all r x hx
theorem y2p {kvs:List (List Key×V)} (ok:HOk P w H h) (e:H a=some (.dT kvs)):kvs.length<=sizeLine/\(a == sysModules)=false/\
  ∃xs,KT H kvs xs/\h.DictOfH (tupleKind (yK P w)) a xs:=z7O ok (.inl e)
end
noncomputable def DGet (H:Hp) (a:Addr) (y:V) (r:Option V):Prop:=
 (∃kvs k,Rd H a (.dK kvs)/\y=kV k/\r=wK kvs k)∨∃kvs k b,Rd H a (.dT kvs)/\y=.ref b/\H b=some (.tup (k.map kV))/\r=wK kvs k
noncomputable def DPut (H:Hp) (a:Addr) (y v:V) (H':Hp):Prop:=
 (∃kvs k,H a=some (.dK kvs)/\y=kV k/\kvs.length<sizeLine/\H'=upd H a (.dK (z3I kvs k v)))∨
 ∃kvs k b,H a=some (.dT kvs)/\y=.ref b/\H b=some (.tup (k.map kV))/\kvs.length<sizeLine/\H'=upd H a (.dT (z3I kvs k v))
theorem DGet.k {H:Hp} {a:Addr} {kvs:List (Key×V)} {k:Key} (e:H a=some (.dK kvs)):DGet H a (kV k) (wK kvs k):=.inl ⟨kvs,k,.inl e,rfl,rfl⟩
theorem DGet.t {H:Hp} {a b:Addr} {kvs:List (List Key×V)} {k:List Key} (e:H a=some (.dT kvs)) (eb:H b=some (.tup (k.map kV))):DGet H a (.ref b) (wK kvs k):=.inr ⟨kvs,k,b,.inl e,rfl,eb,rfl⟩
theorem DPut.k {H:Hp} {a:Addr} {kvs:List (Key×V)} {k:Key} {v:V} (e:H a=some (.dK kvs)) (hl:kvs.length<sizeLine):DPut H a (kV k) v (upd H a (.dK (z3I kvs k v))):=.inl ⟨kvs,k,e,rfl,hl,rfl⟩
theorem DPut.t {H:Hp} {a b:Addr} {kvs:List (List Key×V)} {k:List Key} {v:V} (e:H a=some (.dT kvs)) (eb:H b=some (.tup (k.map kV))) (hl:kvs.length<sizeLine) :
  DPut H a (.ref b) v (upd H a (.dT (z3I kvs k v))):=.inr ⟨kvs,k,b,e,rfl,eb,hl,rfl⟩
section
variable {X:Cx} {pins:List (Addr×Obj)} {σ:St} {H:Hp} {s:Shared} {a:Addr} {y v:V} {u r:Value} {o:Option V} {A:Around} {E:Value->Shared->Prop}
theorem Inv.big (I:Inv X pins σ H s):sysModules<s.heap.objs.size:=by
 have h:mainGlobals<s.heap.objs.size:=(I.mod.glob.keeps I.bk).lt;exact Nat.lt_trans (by decide) h
theorem z7W {Q:Value->Shared->Prop} (hu:A.units+1<cLine) (I:Inv X pins σ H s) (g:DGet H a y (some v)) (ry:RelV y u) (h:∀w' s',Inv X pins σ H s'->RelV v w'->Q w' s') :
  wpAny (model X.prog X.w) A (getItem (.ref a) u) Q E s:=by
 rcases g with⟨kvs,k,e,ey,l⟩|⟨kvs,k,b,e,ey,eb,l⟩
 ·subst ey;obtain⟨z,hd,vs,rel,dd⟩:=z7P I.hok e;obtain⟨w',hw,rw'⟩:=RelO.some_of (v:=v) (o:=valueAt vs k) (by rw[l];exact rel.val k);exact wpAny_getItem_of (z5Q ry) dd.mapOf hw (h w' _ (I.tok _) rw')
 ·subst ey;cases (show u=Value.ref b from ry);obtain⟨z,hd,xs,rel,dd⟩:=z7O I.hok e;obtain⟨w',hw,rw'⟩:=RelO.some_of (v:=v) (o:=(atKey xs k).map (·.2)) (by rw[l];exact rel.val k);obtain⟨p,hp,hp2⟩:=Option.map_eq_some_iff.mp hw;refine wpAny_getItem_heap (tupleKind_room_in1 hu) (z2R I.hok eb) dd hp ?_;rw[hp2];exact h w' _ (I.tok _) rw'
theorem y3r {Q:Value->Shared->Prop} (hu:A.units+1<cLine) (I:Inv X pins σ H s) (g:DGet H a y o) (ry:RelV y u) (h:∀s',Inv X pins σ H s'->Q (.bool o.isSome) s') :
  wpAny (model X.prog X.w) A (compareOp .In u (.ref a)) Q E s:=by
 rcases g with⟨kvs,k,e,ey,l⟩|⟨kvs,k,b,e,ey,eb,l⟩
 ·subst ey;obtain⟨z,hd,vs,rel,dd⟩:=z7P I.hok e;refine wpAny_in_of (z5Q ry) hd dd.mapOf ?_;rw[←(rel.val k).isSome_eq,←l];exact h _ (I.tok _)
 ·subst ey;cases (show u=Value.ref b from ry);obtain⟨z,hd,xs,rel,dd⟩:=z7O I.hok e;refine wpAny_in_heap (tupleKind_room_in1 hu) (z2R I.hok eb) hd dd ?_;have q:=(rel.val k).isSome_eq;rw[Option.isSome_map] at q;rw[←q,←l];exact h _ (I.tok _)
theorem y0g {Q:Value->Shared->Prop} (hu:A.units+1<cLine) (I:Inv X pins σ H s) (g:DGet H a y o) (ry:RelV y u) (h:∀s',Inv X pins σ H s'->Q (.bool (!o.isSome)) s') :
  wpAny (model X.prog X.w) A (compareOp .NotIn u (.ref a)) Q E s:=by
 rcases g with⟨kvs,k,e,ey,l⟩|⟨kvs,k,b,e,ey,eb,l⟩
 ·subst ey;obtain⟨z,hd,vs,rel,dd⟩:=z7P I.hok e;refine wpAny_notIn_of (z5Q ry) hd dd.mapOf ?_;rw[←(rel.val k).isSome_eq,←l];exact h _ (I.tok _)
 ·subst ey;cases (show u=Value.ref b from ry);obtain⟨z,hd,xs,rel,dd⟩:=z7O I.hok e;refine wpAny_notIn_heap (tupleKind_room_in1 hu) (z2R I.hok eb) hd dd ?_;have q:=(rel.val k).isSome_eq;rw[Option.isSome_map] at q;rw[←q,←l];exact h _ (I.tok _)
theorem z7U {h':Heap} {t':Nat} {ob:HO} (I:Inv X pins σ H s) (mu:Mut (H a)) (hs:Heap.SameBut a s.heap h') (he:∃q,h'.get? a=some q) (new:ObjOk X.prog X.w (upd H a ob) h' a ob) :
  Inv X pins σ (upd H a ob) { s with heap:=h',toks:=t' }:=
 I.write (x:=a) (e:=a) mu (.inl rfl) (fun b q hb z=>(hs.2 b hb).trans z) he new
theorem y2G {P:Program} {w:World} {H':Hp} {h':Heap} {kvs:List (Key×V)} {vs:List (Key×Value)} (z:kvs.length<=sizeLine) (hd:(a == sysModules)=false) (rel:KV kvs vs) (dd:h'.DictOf (yK P w) a vs) :
  ObjOk P w H' h' a (.dK kvs):=⟨z,hd,vs,rel,dd⟩
theorem z7V {H':Hp} {Q:Unit->Shared->Prop} (hu:A.units+1<cLine) (I:Inv X pins σ H s) (g:DPut H a y v H') (ry:RelV y u) (rv:RelV v r) (h:∀s',Inv X pins σ H' s'->Q () s') :
  wpAny (model X.prog X.w) A (setItem (.ref a) u r) Q E s:=by
 rcases g with⟨kvs,k,e,ey,l,eH⟩|⟨kvs,k,b,e,ey,eb,l,eH⟩
 ·subst ey eH;obtain⟨z,hd,vs,rel,dd⟩:=y2q I.hok e;have hz:vs.length<=sizeLine:=by rw[←rel.length];exact z
  have hl:(z3I kvs k v).length<=sizeLine:=by have:=xj kvs k v;omega
  refine wpAny_setItem_pairs (hsz:=hz) (z5Q ry) dd fun h' dd' hs=>h _ ?_;have he:∃q,h'.get? a=some q:=let ⟨q,_,_,hq,_⟩:=dd';⟨q,hq⟩;exact z7U I (by rw[e];exact True.intro) hs he (y2G hl hd (rel.put k rv) dd')
 ·subst ey eH;cases (show u=Value.ref b from ry);obtain⟨z,hd,xs,rel,dd⟩:=y2p I.hok e;have hz:xs.length<=sizeLine:=by rw[←Paired.length rel];exact z
  have hl:(z3I kvs k v).length<=sizeLine:=by have:=xj kvs k v;omega
  refine wpAny_setItem_heap (hsz:=hz) (tupleKind_room_in1 hu) (z2R I.hok eb) dd fun h' dd' hs=>h _ ?_;obtain⟨q,es,ep,hq,h2,h3,h4,_,h5⟩:=dd';refine z7U I (by rw[e];exact True.intro) hs ⟨q,hq⟩ ⟨hl,hd,_,(rel.put k eb rv).keeps fun c ys ec=>?_,q,es,ep,hq,h2,h3,h4,h5⟩;rw[za (yw ec e (fun z=>nomatch z))];exact ec
end
section
variable {X:Cx} {pins:List (Addr×Obj)} {σ:St} {H:Hp} {s:Shared} {a:Addr} {kvs:List (Key×V)} {k:Key} {u:Value} {A:Around} {E:Value->Shared->Prop}
end
noncomputable def y3P (i:Expr):Prop:=∀ov iv,subscripted i false ov iv=operate [ov,iv] (getItem ov iv)
theorem z9l {prog:Program} {w:World} {A:Around} {E:Value->Shared->Prop} {s:Shared} {env:Env} {value slice:Expr} {pos:Pos} {T id:String} {Q:Value->Shared->Prop}
  (hl:typeLookup (.type T) "__getitem__" = pure (some (.builtin id))) (hs:y3P slice)
  (h:wpAny (model prog w) A (eval value env) (fun o s₁=>wpAny (model prog w) A (eval slice env) (fun i s₂=>s₂.TypeIs o T/\wpAny (model prog w) A (getItem o i) Q E s₂) E s₁) E s) :
  wpAny (model prog w) A (eval (.Subscript value slice pos) env) Q E s:=by
 refine Subscript_ (wpAny_mono h (fun o s₁ h₁=>wpAny_mono h₁ (fun i s₂ h₂=>?_) fun _ _ x=>x) fun _ _ x=>x);obtain⟨hT,h₂⟩:=h₂;unfold subscriptTail;refine wpAny_bind ?_;rw[getitemInPython_of_ne hT.not_modules];refine wpAny_bind (wpAny_specialOf hT hl ?_);have fin:wpAny (model prog w) A (subscripted slice false o i) (fun r s₃=>wpAny (model prog w) A (letTemporaryGo value o r >>= fun _=>pure r) Q E s₃) E s₂:=by
  rw[hs o i];exact wpAny_operating (wpAny_mono h₂ (fun r s₃ h₃=>wpAny_bind (wpAny_letTemporaryGo (wpAny_pure h₃))) fun _ _ x=>x)
 first
  | exact wpAny_pure (wpAny_bind fin)
  | exact wpAny_bind (wpAny_pure (wpAny_bind fin))
  | exact wpAny_bind fin
theorem z3c {X:Cx} {pins:List (Addr×Obj)} {σ:St} {H:Hp} {s:Shared} {a:Addr} {y:V} {o:Option V} (I:Inv X pins σ H s) (g:DGet H a y o):s.TypeIs (.ref a) "dict" :=by
 rcases g with⟨kvs,k,e,_,_⟩|⟨kvs,k,b,e,_,_,_⟩
 ·obtain⟨_,_,vs,_,dd⟩:=z7P I.hok e;exact dd.typeIs
 ·obtain⟨_,_,xs,_,dd⟩:=z7O I.hok e;exact dd.typeIs
noncomputable def y1F (td ty:TE):TE:=fun σ H Q=>td σ H fun x H1=>ty σ H1 fun y H2=>∃a v,x=.ref a/\DGet H2 a y (some v)/\Q v H2
noncomputable def y2z (ty td:TE):TE:=fun σ H Q=>ty σ H fun y H1=>td σ H1 fun x H2=>∃a o,x=.ref a/\DGet H2 a y o/\Q (.bl o.isSome) H2
noncomputable def z5z (ty td:TE):TE:=fun σ H Q=>ty σ H fun y H1=>td σ H1 fun x H2=>∃a o,x=.ref a/\DGet H2 a y o/\Q (.bl (!o.isSome)) H2
noncomputable def y1R (td ty tv:TE):TS:=fun D σ H=>tv σ H fun v H1=>td σ H1 fun x H2=>ty σ H2 fun y H3=>∃a H4,x=.ref a/\DPut H3 a y v H4/\D.nx σ H4
section
variable {X:Cx} {o i e value:Expr} {pos pos' tpos:Pos} {td ty tv:TE}
theorem yr (hu:X.A.units+1<cLine) (ho:PE X o td) (hi:PE X i ty) (hs:y3P i):PE X (.Subscript o i pos) (y1F td ty):=by
 intro pins s σ H Q I h;refine z9l PySem.F.slot_dict_getitem.lookup hs (thn (ho pins s σ H _ I h) fun u s1 ⟨x,H1,I1,rx,q1⟩=>thn (hi pins s1 σ H1 _ I1 q1) fun iv s2 ⟨y,H2,I2,ry,a,v,ex,g,q2⟩=>?_);subst ex;obtain rfl:u=Value.ref a:=rx;exact⟨z3c I2 g,z7W hu I2 g ry fun w' s3 I3 rw'=>⟨v,H2,I3,rw',q2⟩⟩
theorem z6a (hu:X.A.units+1<cLine) (hi:PE X i ty) (ho:PE X o td):PC X .In i o (y2z ty td):=by
 intro pins s σ H Q I h;refine thn (hi pins s σ H _ I h) fun iv s1 ⟨y,H1,I1,ry,q1⟩=>thn (ho pins s1 σ H1 _ I1 q1) fun u s2 ⟨x,H2,I2,rx,a,ov,ex,g,q2⟩=>?_;subst ex;obtain rfl:u=Value.ref a:=rx;exact y3r hu I2 g ry fun s3 I3=>⟨.bl ov.isSome,H2,I3,rfl,q2⟩
theorem z6Z (hu:X.A.units+1<cLine) (hi:PE X i ty) (ho:PE X o td):PC X .NotIn i o (z5z ty td):=by
 intro pins s σ H Q I h;refine thn (hi pins s σ H _ I h) fun iv s1 ⟨y,H1,I1,ry,q1⟩=>thn (ho pins s1 σ H1 _ I1 q1) fun u s2 ⟨x,H2,I2,rx,a,ov,ex,g,q2⟩=>?_;subst ex;obtain rfl:u=Value.ref a:=rx;exact y0g hu I2 g ry fun s3 I3=>⟨.bl (!ov.isSome),H2,I3,rfl,q2⟩
theorem wb (hu:X.A.units+1<cLine) (ho:PE X o td) (hi:PE X i ty) (hv:PE X value tv) (hs:swapsWith value (some (.Subscript o i pos')) pos.line X.env=pure false) :
  PS X (.Assign [.Subscript o i pos'] value pos) (y1R td ty tv):=by
 intro pins s σ H D I h;refine wpAny_Assign_Subscript (thn (hv pins s σ H _ I h) fun r s1 ⟨v,H1,I1,rv,q1⟩=>thn (ho pins s1 σ H1 _ I1 q1) fun u s2 ⟨x,H2,I2,rx,q2⟩=>thn (hi pins s2 σ H2 _ I2 q2) fun iv s3 ⟨y,H3,I3,ry,a,H4,ex,g,q3⟩=>?_) hs;subst ex;obtain rfl:u=Value.ref a:=rx;exact z7V hu I3 g ry rv fun s4 I4=>⟨σ,H4,I4,q3⟩
end
theorem z9D {P:Program} {w:World} {H:Hp} (h:Heap) (hb:sysModules<h.objs.size):ObjOk P w H (h.push { cls:=.type "dict",data:=.dict #[] }) h.objs.size (.dK []):=
 ⟨Nat.zero_le _,beq_eq_false_iff_ne.mpr (Ne.symm (Nat.ne_of_lt hb)),[],.nil,Heap.DictOf.new h⟩
noncomputable def z9O:TE:=fun _ H Q=>∀p,H p=none->Q (.ref p) (upd H p (.dK []))
section
variable {X:Cx} {pos:Pos}
theorem z4R:PE X (.Dict [] [] pos) z9O:=fun pins s σ H Q I h=>
 wpAny_Dict_empty ⟨.ref s.heap.objs.size,_,I.laid (a:=s.heap.objs.size) (o:=.dK []) (t':=s.toks) (fun _ _ q=>Heap.get?_push_of_some _ q) (Nat.le_refl _) (z9D s.heap I.big),rfl,h _ (I.hok.fresh (Nat.le_refl _))⟩
end
structure M1 (X:Cx) (o:Expr) (m:Str) (apos:Pos) (e:Expr) (cpos:Pos):Prop where
 base:attributeBase o m X.env (eval o X.env)=eval o X.env
 few:((backTo cpos (starEach [e] X.env)).all (fun x=>!x.1) && (backToKw cpos (keywordEach [] X.env)).all (fun x=>x.1.isSome)
  && decide (([e]:List Expr).length+([]:List Keyword).length+(if ([]:List Keyword).isEmpty then 0 else 1)<30))=true
 line:(apos.endLine == cpos.line)=true
 trees:backTo cpos (starEach [e] X.env)=[(false,eval e X.env)]
section
variable {X:Cx} {pins:List (Addr×Obj)} {σ:St} {H:Hp} {s:Shared} {a:Addr} {y d:V} {u r:Value} {o:Option V} {A:Around} {E:Value->Shared->Prop}
end
section
variable {X:Cx} {o e f:Expr} {apos cpos:Pos} {td ty tx:TE}
end
section
variable {X:Cx} {pins:List (Addr×Obj)} {σ:St} {H:Hp} {s:Shared} {a:Addr} {kvs:List (Key×V)} {A:Around} {E:Value->Shared->Prop}
end
section
variable {X:Cx} {pins:List (Addr×Obj)} {σ:St} {H:Hp} {s:Shared} {a:Addr} {y:V} {u:Value} {A:Around} {E:Value->Shared->Prop}
end
theorem z2i {prog:Program} {w:World} {A:Around} {R:Result->Shared->Prop} {s:Shared} {elt target iter:Expr} {ifs:List Expr} {scope:Scope} {pos:Pos} {it acc:Value} {env:Env} (J:Nat->Shared->Prop)
  (turn:∀n s,J n s->wpAny (model prog w) A (pyNext it) (fun r s₁=>match r with
   | none=>R (.ok .next) s₁
   | some v=>wpAny (model prog w) A (letOwnedTupleGo target it v) (fun _ s₁'=>wpAny (model prog w) A (assign target env v) (fun _ s₂=>
     wpAny (model prog w) A (forIn ifs true fun c r=>if r=true then do let ok ←isTrue c env (eval c env);pure (ForInStep.yield ok) else pure (ForInStep.yield r)) (fun ok s₃=>
      if ok=true then wpAny (model prog w) A (eval elt env) (fun x s₄=>
       wpAny (model prog w) A (call (.builtin "list.append") [acc,x]) (fun _ s₅=>∃m,m<n/\J m s₅) (fun _ _=>False) s₄) (fun _ _=>False) s₃
      else ∃m,m<n/\J m s₃) (fun _ _=>False) s₂) (fun _ _=>False) s₁') (fun _ _=>False) s₁) (fun _ _=>False) s)
  (n:Nat) (h:J n s):codeAny (model prog w) A (.compLoop (.ListComp elt [⟨target,iter,ifs,0⟩] scope pos) 0 it acc env) R s:=by
 refine codeAny_loop rfl J (fun n s hI=>?_) n h;show wpAny _ A ((compTurn (.ListComp elt [⟨target,iter,ifs,0⟩] scope pos) 0 it acc env).onRaise (fun x=>do noteFrame x env;theTreesLotGoes x)) _ _ s;refine wpAny_noted ?_;rw[compTurn_list];refine wpAny_bind (wpAny_standAt (wpAny_bind (wpAny_mono (turn n s hI) (fun r s₁ h₁=>?_) fun _ _ h'=>h'.elim)));cases r with
 | none=>exact wpAny_pure h₁
 | some v=>
  refine wpAny_bind (wpAny_mono h₁ (fun _ s₁' h₁'=>?_) fun _ _ h'=>h'.elim);refine wpAny_bind (wpAny_mono h₁' (fun _ s₂ h₂=>wpAny_bind (wpAny_mono h₂ (fun ok s₃ h₃=>?_) fun _ _ h'=>h'.elim)) fun _ _ h'=>h'.elim);cases ok with
  | false=>exact wpAny_pure ⟨rfl,h₃⟩
  | true=>exact wpAny_bind (wpAny_bind (wpAny_mono h₃ (fun x s₄ h₄=>wpAny_bind (wpAny_mono h₄ (fun _ s₅ h₅=>wpAny_pure (wpAny_pure ⟨rfl,h₅⟩)) fun _ _ h'=>h'.elim)) fun _ _ h'=>h'.elim))
noncomputable def yn (X:Cx) (N:List Str) (scope:Scope) (cl:List (Str×Addr)) (s:Shared) (H:Hp) (fp:List Addr):Cx:=
 { X with N:=N,s₀:=s,H₀:=H,env:=compEnvC scope cl s.heap.objs.size X.env,outer:=X.stack,ex:=fp,fn:=fun _=>false,pn:=[],xe:=fun _ _=>False }
structure CompSc (X:Cx) (own capt:List Str) (scope:Scope) (cl:List (Str×Addr)) (fr:List Nat):Prop where
 clos:closureFor scope X.env=pure cl
 nocell:∀y∈scope.names,y.2≠.cell
 kind:scope.kind=.function
 names:∀y∈scope.names,y.2=.local->scope.names.lookup y.1=some .local
 inn:∀y c,cl.lookup y=some c->X.env.cells.lookup y=some c
 has:∀y,((relabel scope X.env).names.lookup y=some .cell∨(relabel scope X.env).names.lookup y=some .free)->∃c,cl.lookup y=some c
 cap:∀(k:Nat) (y:Str),capt[k]?=some y->∃j c,fr[k]?=some j/\X.N[j]?=some y/\X.env.scope.names.lookup y=some .cell/\cl.lookup y=some c/\
  ((relabel scope X.env).names.lookup y=some .cell∨(relabel scope X.env).names.lookup y=some .free)
 len:capt.length=fr.length
theorem CompSc.none {X:Cx} {own:List Str} {scope:Scope} (h1:∀y∈scope.names,y.2≠.free) (h2:∀y∈scope.names,y.2≠.cell) (kind:scope.kind=.function) (names:∀y∈scope.names,y.2=.local->scope.names.lookup y.1=some .local) :
  CompSc X own [] scope [] [] where
 clos:=closureFor_none h1
 nocell:=h2
 kind:=kind
 names:=names
 inn:=fun y c e=>nomatch e
 has:=fun y e=>by
  have mem:∀(l:List (Str×NameKind)) (y:Str) (k:NameKind),l.lookup y=some k->∃z∈l,z.2=k:=by
   intro l
   induction l with
   | nil=>intro y k e;cases e
   | cons a r ih=>
    intro y k e;obtain⟨n,q⟩:=a;rw[List.lookup_cons] at e;cases hy:y == n with
    | true=>rw[hy] at e;exact⟨(n,q),by simp,Option.some.inj e⟩
    | false=>
     rw[hy] at e;obtain⟨z,hz,e2⟩:=ih y k e;exact⟨z,by simp [hz],e2⟩
  exfalso;have same:(relabel scope X.env).names=scope.names:=by
   unfold relabel;exact map_eq_self (l:=scope.names) fun x hx=>by
    obtain⟨n,k⟩:=x;have:(k == NameKind.free)=false:=by simpa using h1 _ hx
    simp [this]
  rw[same] at e;rcases e with e|e
  ·obtain⟨z,hz,e2⟩:=mem _ _ _ e;exact h2 z hz e2
  ·obtain⟨z,hz,e2⟩:=mem _ _ _ e;exact h1 z hz e2
 cap:=fun k y e=>by simp at e
 len:=rfl
noncomputable def st0 (own:List Str) (fr:List Nat) (σ:St):St:=own.map (fun _=>Option.none)++fr.map fun j=>(σ[j]?).join
theorem z7X {X:Cx} {pins:List (Addr×Obj)} {σ:St} {H:Hp} {s:Shared} {own capt:List Str} {scope:Scope} {cl:List (Str×Addr)} {fr:List Nat} {fp:List Addr} (C:CompSc X own capt scope cl fr)
  (I:Inv X pins σ H s) (hf:∀b∈fp,z3j X pins H b/\b<s.heap.objs.size):(yn X (own++capt) scope cl s H fp).Ok where
 mod:=I.ok.mod
 kind:=C.kind
 glob:=I.ok.glob
 blt:=I.ok.blt
 above:=Nat.le_refl _
 inj:=fun x y c e1 e2=>I.ok.inj x y c (C.inn x c e1) (C.inn y c e2)
 has:=fun x e=>C.has x e
 cab:=fun x c e _=>by cases e
 hd:=I.ok.hd
 frames:=I.ok.frames
 stk:=.inl rfl
 exf:=fun b hb=>⟨Nat.ne_of_lt (hf b hb).2,fun x c e=>(hf b hb).1.2.2.2.2.1 x c (C.inn x c e)⟩
 bs:=I.bs
 bsz:=Nat.le_trans I.ok.bsz I.sz
 noex:=fun b o e hb=>by
  rcases (hf b hb).1.2.2.2.1 with z|z
  ·exact I.ok.noex b o e z
  ·exact absurd (Nat.lt_of_lt_of_le (Heap.lt_size e) (Nat.le_trans I.ok.bsz z)) (Nat.lt_irrefl _)
 exfs:=fun b hb z=>by
  rcases List.mem_cons.mp (I.stkSub b z) with e|z
  ·exact (hf b hb).1.2.1 e
  ·exact (hf b hb).1.2.2.1 z
 funs:=I.stack
 frf:=I.stkFree
theorem z2f {X:Cx} {pins:List (Addr×Obj)} {σ:St} {H:Hp} {s:Shared} {own capt:List Str} {scope:Scope} {cl:List (Str×Addr)} {fr:List Nat} {fp:List Addr} {h':Heap} {t':Nat} {m':Str->Option Value} (C:CompSc X own capt scope cl fr)
  (I:Inv X pins σ H s) (hf:∀b∈fp,z3j X pins H b/\b<s.heap.objs.size) (hn:h'.Ns s.heap.objs.size m') (k:∀b o,s.heap.get? b=some o->h'.get? b=some o) :
  Inv (yn X (own++capt) scope cl s H fp) [] (st0 own fr σ) H { s with heap:=h',toks:=t' } where
 ok:=z7X C I hf
 os:=rfl
 bare:=I.bare
 base:=Un.kept k
 loc:=by
  obtain⟨m,_,hl⟩:=I.loc;refine⟨m',hn,fun i y v e1 e2 _=>?_⟩;have e1':(own++capt)[i]?=some y:=e1;unfold st0 at e2;by_cases hi:i<own.length
  ·rw[List.getElem?_append_left (by simpa using hi)] at e2;rw[List.getElem?_map] at e2;cases q:own[i]? with
   | none=>rw[q] at e2;cases e2
   | some _=>rw[q] at e2;cases e2
  ·rw[List.getElem?_append_right (by simpa using hi)] at e2;rw[List.getElem?_append_right (by simpa using hi)] at e1';simp only [List.length_map] at e2;obtain⟨j,c,f1,f2,f3,f4,f5⟩:=C.cap _ y e1';rw[List.getElem?_map,f1] at e2;have e3:(σ[j]?).join=some v:=Option.some.inj e2;have e4:σ[j]?=some (some v):=by
    cases q:σ[j]? with
    | none=>rw[q] at e3;cases e3
    | some z=>rw[q] at e3;exact congrArg some e3
   obtain⟨u,r,l⟩:=hl j y v f2 e4 (.inr (.inl f3));refine⟨u,r,.inr ⟨f5,c,f4,?_⟩⟩;rcases l with⟨k1,_⟩|⟨_,c',h1,h2⟩
   ·have k1':X.env.scope.names.lookup y=some .local:=k1;rw[f3] at k1';cases k1'
   ·rw[C.inn y c f4] at h1;cases h1;obtain⟨o,ho,hd⟩:=h2;exact⟨o,k _ _ ho,hd⟩
 cell:=fun y c e=>by
  obtain⟨v,o,ho,hd⟩:=I.cell y c (C.inn y c e);exact⟨v,o,k _ _ ho,hd⟩
 free:=I.hok.fresh (Nat.le_refl _)
 freeC:=fun y c e=>I.freeC y c (C.inn y c e)
 pin:=fun p hp=>by
  have:p∈([]:List (Addr×Obj)):=hp;cases this
 hok:=I.hok.kept k
 len:=by
  show (st0 own fr σ).length=(own++capt).length;unfold st0;simp [C.len]
theorem z5i {X:Cx} {pins:List (Addr×Obj)} {σ σ':St} {H H':Hp} {s s':Shared} {N:List Str} {scope:Scope} {cl:List (Str×Addr)} {fp:List Addr} {pins':List (Addr×Obj)} {h':Heap}
  (I:Inv X pins σ H s) (hf:∀b∈fp,z3j X pins H b/\b<s.heap.objs.size) (J:Inv (yn X N scope cl s H fp) pins' σ' H' s') (hs:Heap.SameBut s.heap.objs.size s'.heap h') :
  Inv X pins σ H' { s' with heap:=h' }:=by
 have fr:H' s.heap.objs.size=none:=J.free;have ne:∀ {b:Addr} {o:Obj},s.heap.get? b=some o->b≠s.heap.objs.size:=fun e=>Nat.ne_of_lt (Heap.lt_size e);have B:Un (frs X.stack) fp H H' s.heap s'.heap:=J.base;refine I.call' (s':={ s' with heap:=h' }) (ch:=fp) J.os ?_ ?_ J.bare fun b hb=>⟨(hf b hb).1.2.2.2.1,(hf b hb).1.2.1,(hf b hb).1.2.2.2.2.1,(hf b hb).1.2.2.2.2.2⟩
 ·exact⟨fun b o e n h1 h2=>(hs.2 b (ne e)).trans (B.keep b o e n h1 h2),fun b o e n h1 h2=>let ⟨sl,q⟩:=B.slot b o e n h1 h2;⟨sl,(hs.2 b (ne e)).trans q⟩,B.free,
   fun b o e h1=>let ⟨o',q⟩:=B.there b o e h1;⟨o',(hs.2 b (ne e)).trans q⟩,B.tups,B.frzs,B.tbls⟩
 ·intro b ob e;refine (J.hok b ob e).stay (fun c w' hc q=>(hs.2 c ?_).trans q) (fun _ q=>q) fun _ _ q=>q;rintro rfl;rcases hc with rfl|hc
  ·rw[fr] at e;cases e
  ·rw[fr] at hc;cases hc
noncomputable def PTs (X:Cx) (ifs:List Expr) (t:TT):Prop:=
 ∀(pins:List (Addr×Obj)) (s:Shared) (σ:St) (H:Hp) (Q:Bool->Hp->Prop),Inv X pins σ H s->t σ H Q->
  wpAny (model X.prog X.w) X.A (forIn ifs true fun c r=>if r=true then do let ok ←isTrue c X.env (eval c X.env);pure (ForInStep.yield ok) else pure (ForInStep.yield r)) (TP X pins σ Q) X.xe s
noncomputable def z5E:TT:=fun _ H Q=>Q true H
theorem yq {X:Cx}:PTs X [] z5E:=fun _ _ _ H _ I h=>wpAny_tests_nil ⟨H,I,h⟩
noncomputable def z7w (wi:TI) (g:TG) (tt:TT) (te:TE) (own:List Str) (fr:List Nat):TE:=fun σ H Q=>wi σ H fun J H1=>∀D,H1 D=none->∃W:Nat->Nat->St->Hp->Prop,(∃m,W 0 m (st0 own fr σ) (upd H1 D (.lst [])))/\∀i m σc H,W i m σc H->
 (J.stop i H/\Q (.ref D) H)∨(J.go i H/\∃N:St->Hp->Prop,(∀σ' H',N σ' H'->∃m',m'<m/\W (i+1) m' σ' H')/\∀x H',J.yld i H x H'->g x σc H' fun σ2 H2=>tt σ2 H2 fun b H3=>
  if b=true then te σ2 H3 fun y H4=>∃ys,H4 D=some (.lst ys)/\ys.length<sizeLine/\N σ2 (upd H4 D (.lst (ys++[y]))) else N σ2 H3)
theorem z2g {X:Cx} {own capt:List Str} {scope:Scope} {cl:List (Str×Addr)} {fr:List Nat} {tg iter elt:Expr} {ifs:List Expr} {wi:TI} {g:TG} {tt:TT} {te:TE} {pos:Pos} (C:CompSc X own capt scope cl fr) (hc:X.calm=true)
  (hi:PI X tg iter wi) (hg:∀s H fp,PG (yn X (own++capt) scope cl s H fp) tg g) (ht:∀s H fp,PTs (yn X (own++capt) scope cl s H fp) ifs tt) (he:∀s H fp,PE (yn X (own++capt) scope cl s H fp) elt te)
  {pins:List (Addr×Obj)} {s:Shared} {σ:St} {H:Hp} {Q:VK} {RR:Value->Addr->Result->Shared->Prop} (I:Inv X pins σ H s) (h:z7w wi g tt te own fr σ H Q)
  (hR:∀(D C:Addr) (H':Hp) (s':Shared) (m:Str->Option Value),s'.heap.Ns C m->z3j X pins H' C->(∀h',Heap.SameBut C s'.heap h'->Inv X pins σ H' { s' with heap:=h' })->Q (.ref D) H'->RR (.ref D) C (.ok .next) s') :
  wpAny (model X.prog X.w) X.A (eval iter X.env) (fun x s₁=>wpAny (model X.prog X.w) X.A (pyIter x) (fun it s₂=>wpAny (model X.prog X.w) X.A (newList []) (fun acc s₃=>
   wpAny (model X.prog X.w) X.A (newFunctionEnv scope X.env.globals cl [] X.env.qual none .none (some X.env)) (fun cenv s₄=>
    codeAny (model X.prog X.w) X.A (.compStart (.ListComp elt [⟨tg,iter,ifs,0⟩] scope pos) 0 it acc { cenv with scope:=relabel scope X.env }) (RR acc cenv.locals) s₄) X.xe s₃) X.xe s₂) X.xe s₁) X.xe s:=by
 refine thn (hi pins s σ H _ I h) fun v s1 h1=>thn h1 fun itv s2 h2=>?_;obtain⟨it,fp,tn,J,H2,e,I2,T,st2,f2,h2⟩:=h2;subst e;obtain⟨W,⟨m0,w0⟩,turn⟩:=h2 s2.heap.objs.size I2.fresh;refine wpAny_newObj_type ?_;have I3:Inv X pins σ (upd H2 s2.heap.objs.size (.lst [])) { s2 with heap:=s2.heap.push { cls:=.type "list",data:=.seq ([]:List Value).toArray } }:=I2.lnew (ys:=[]) (its:=[]) (t':=s2.toks) .nil (Nat.zero_le _);generalize hs3:({ s2 with heap:=s2.heap.push { cls:=.type "list",data:=.seq ([]:List Value).toArray } }:Shared)=s3 at I3 ⊢;have keep3:∀b o,s2.heap.get? b=some o->s3.heap.get? b=some o:=fun b o e=>by rw[←hs3];exact Heap.get?_push_of_some _ e
 have sz3:s2.heap.objs.size<s3.heap.objs.size:=by rw[←hs3];show _<(s2.heap.push _).objs.size;rw[Heap.size_push];exact Nat.lt_succ_self _
 have fin:∀b∈fp,b<s2.heap.objs.size:=fun b hb=>by obtain⟨o,e,_⟩:=T.obj _ _ st2 b hb;exact Heap.lt_size e
 have f3:∀b∈fp,z3j X pins (upd H2 s2.heap.objs.size (.lst [])) b/\b<s3.heap.objs.size:=fun b hb=>by
  obtain⟨a1,a2⟩:=f2 b hb;exact⟨⟨by rw[za (Nat.ne_of_lt (fin b hb))];exact a1,a2⟩,Nat.lt_trans (fin b hb) sz3⟩
 refine wpAny_newFunctionEnv C.nocell (by intro y hy;simp at hy) (fun h4 hn4 hs4=>?_) C.kind;have keep4:∀b o,s3.heap.get? b=some o->h4.get? b=some o:=fun b o e=>(hs4.2 b (Nat.ne_of_lt (Heap.lt_size e))).trans (Heap.get?_push_of_some _ e);have I4:Inv (yn X (own++capt) scope cl s3 (upd H2 s2.heap.objs.size (.lst [])) fp) [] (st0 own fr σ) (upd H2 s2.heap.objs.size (.lst [])) { s3 with heap:=h4,toks:=s3.toks+([]:List (Str×Value)).length }:=z2f C I3 f3 hn4 keep4;have st4:tn 0 h4:=T.keep _ _ _ st2 fun b _ o e=>keep4 b o (keep3 b o e);generalize hs5:({ s3 with heap:=h4,toks:=s3.toks+([]:List (Str×Value)).length }:Shared)=s5 at I4 ⊢;have st5:tn 0 s5.heap:=by rw[←hs5];exact st4
 generalize hX:yn X (own++capt) scope cl s3 (upd H2 s2.heap.objs.size (.lst [])) fp=Y at I4;have hY1:Y.prog=X.prog:=by rw[←hX];rfl
 have hY2:Y.w=X.w:=by rw[←hX];rfl
 have hY3:Y.K=X.K:=by rw[←hX];rfl
 have hY4:Y.A=X.A:=by rw[←hX];rfl
 have hY5:Y.calm=true:=by rw[←hX];exact hc
 have hY6:Y.env=compEnvC scope cl s3.heap.objs.size X.env:=by rw[←hX];rfl
 have hY7:Y.xe=fun _ _=>False:=by rw[←hX];rfl
 have gY:PG Y tg g:=by rw[←hX];exact hg _ _ _
 have tY:PTs Y ifs tt:=by rw[←hX];exact ht _ _ _
 have eY:PE Y elt te:=by rw[←hX];exact he _ _ _
 have fY:∀ {H':Hp},(∀b∈fp,H' b=none)->∀b∈fp,z3j Y [] H' b:=fun {H'} hn b hb=>by
  have ok:=I4.ok;refine⟨hn b hb,(ok.exf b (by rw[←hX];exact hb)).1,ok.exfs b (by rw[←hX];exact hb),.inl (by rw[←hX];exact hb),fun x c e=>(ok.exf b (by rw[←hX];exact hb)).2 x c e,fun p hp=>?_⟩;have:p∈([]:List (Addr×Obj)):=by rw[←hX] at hp;exact hp
  cases this
 have loop:∀s6,s6=s5->codeAny (model X.prog X.w) X.A (.compLoop (.ListComp elt [⟨tg,iter,ifs,0⟩] scope pos) 0 (.ref it) (.ref s2.heap.objs.size) (compEnvC scope cl s3.heap.objs.size X.env)) (RR (.ref s2.heap.objs.size) s3.heap.objs.size) s6:=by
  rintro s6 rfl;refine z2i (fun n s'=>∃i σ' H',Inv Y [] σ' H' s'/\tn i s'.heap/\(∀b∈fp,H' b=none)/\W i n σ' H') ?_ m0 ⟨0,_,_,I4,st5,fun b hb=>(f3 b hb).1.1,w0⟩;rintro n s7 ⟨i,σ7,H7,I7,st7,fr7,w7⟩;have pn:=hY1;have pw:=hY2;rcases turn i n σ7 H7 w7 with⟨stop,qn⟩|⟨go,N,hN,step⟩
  ·have z:=T.done Y hY1 hY2 hY3 hY5 i [] s7 σ7 H7 (fun _ _=>False) I7 (fY fr7) st7 stop;rw[hY4] at z;refine thn z fun r s8 ⟨hr,I8⟩=>?_;subst hr;obtain⟨m8,hn8,_⟩:=I8.loc;rw[hY6] at hn8;have fC:H7 s3.heap.objs.size=none:=by have z:=I8.free;rw[hY6] at z;exact z
   refine hR _ _ H7 s8 m8 hn8 (I3.fpOk (Nat.le_refl _) fC) (fun h' sb=>?_) qn;rw[←hX] at I8;exact z5i I3 f3 I8 sb
  ·have z:=T.item Y hY1 hY2 hY3 hY5 i [] s7 σ7 H7 (fun _ _=>False) I7 (fY fr7) st7 go;rw[hY4] at z;refine thn z fun r s8 ⟨u,hr,h8⟩=>?_;subst hr;refine thn h8 fun _ s9 ⟨x,H9,I9,r9,y9,st9,fr9⟩=>?_;have I9':=I9.pinned (fY fr9) (T.obj _ _ st9);have z2:=gY _ s9 σ7 H9 x u _ I9' r9 (step x H9 y9);rw[hY1,hY2,hY4,hY6,hY7] at z2;refine thn z2 fun _ sA ⟨σA,HA,IA,qA⟩=>?_;have z3:=tY _ sA σA HA _ IA qA;rw[hY1,hY2,hY4,hY6,hY7] at z3;refine thn z3 fun b sB ⟨HB,IB,qB⟩=>?_;have again:∀ {σZ:St} {HZ:Hp} {sZ:Shared},Inv Y ([]++vk fp s9.heap) σZ HZ sZ->N σZ HZ->∃m,m<n/\∃i σ' H',Inv Y [] σ' H' sZ/\tn i sZ.heap/\(∀b∈fp,H' b=none)/\W i m σ' H':=fun {σZ HZ sZ} IZ nZ=>by
    obtain⟨m',hm,wZ⟩:=hN σZ HZ nZ;refine⟨m',hm,i+1,σZ,HZ,IZ.unpinned,T.keep _ _ _ st9 fun b hb o e=>(IZ.pin (b,o) (List.mem_append_right _ (List.mem_append_right _ (yx hb e)))).1,fun b hb=>?_,wZ⟩;obtain⟨o,e,d⟩:=T.obj _ _ st9 b hb;exact (IZ.pin (b,o) (List.mem_append_right _ (List.mem_append_right _ (yx hb e)))).2.1
   cases b with
   | false=>exact again IB qB
   | true=>
    have z4:=eY _ sB σA HB _ IB qB;rw[hY1,hY2,hY4,hY6,hY7] at z4;refine thn z4 fun y sC ⟨vy,HC,IC,rC,ys,hD,hz,nC⟩=>?_;have z5:=qC (X:=Y) _ sC σA HC (.ref s2.heap.objs.size) [vy] (.ref s2.heap.objs.size) [y] (fun _ H'=>N σA H') IC rfl (.cons rC .nil) ⟨_,ys,vy,rfl,rfl,hD,hz,nC⟩;rw[hY1,hY2,hY4,hY7] at z5;exact thn z5 fun _ sD ⟨_,HD,ID,_,nD⟩=>again ID nD
 exact codeAny_compStart_list (loop _ rfl) (T.self _ 0 _ _ _ st5 (loop _ rfl))
theorem xV {X:Cx} {own capt:List Str} {scope:Scope} {cl:List (Str×Addr)} {fr:List Nat} {tg iter elt:Expr} {ifs:List Expr} {wi:TI} {g:TG} {tt:TT} {te:TE} {pos:Pos} (C:CompSc X own capt scope cl fr) (hc:X.calm=true)
  (hi:PI X tg iter wi) (hg:∀s H fp,PG (yn X (own++capt) scope cl s H fp) tg g) (ht:∀s H fp,PTs (yn X (own++capt) scope cl s H fp) ifs tt) (he:∀s H fp,PE (yn X (own++capt) scope cl s H fp) elt te)
  (hs:∀x,foldedSetIterable iter X.env x=pure x:=by intro _;rfl):PE X (.ListComp elt [⟨tg,iter,ifs,0⟩] scope pos) (z7w wi g tt te own fr):=by
 intro pins s σ H Q I h;rw[eval_ListComp];refine wpAny_comprehension_free (use:=none) rfl hs C.clos C.kind C.names ?_;exact z2g (RR:=fun acc C=>compPost (model X.prog X.w) X.A X.xe none (EP X pins σ Q) acc C) C hc hi hg ht he I h fun D C H' s' m hn _ hI q=>⟨m,hn,fun h' sb=>⟨.ref D,H',hI h' sb,rfl,q⟩⟩
theorem vj {X:Cx} {own capt:List Str} {scope:Scope} {cl:List (Str×Addr)} {fr:List Nat} {tg iter elt:Expr} {ifs:List Expr} {wi:TI} {g:TG} {tt:TT} {te:TE} {pos spos py:Pos} {y:Str} {i:Nat} (hN:X.N.Nodup) (hi':X.N[i]?=some y) (hy:Loc X.env.scope y) (C:CompSc X own capt scope cl fr) (hc:X.calm=true)
  (hi:PI X tg iter wi) (hg:∀s H fp,PG (yn X (own++capt) scope cl s H fp) tg g) (ht:∀s H fp,PTs (yn X (own++capt) scope cl s H fp) ifs tt) (he:∀s H fp,PE (yn X (own++capt) scope cl s H fp) elt te)
  (hsw:swapsWith (.ListComp elt [⟨tg,iter,ifs,0⟩] scope pos) (some (.Name y py)) spos.line X.env=pure true:=by rfl)
  (hs:∀x,foldedSetIterable iter X.env x=pure x:=by intro _;rfl) (hf:X.fn y=true∨X.env.scope.names.lookup y=some .local:=by first|exact .inl rfl|exact .inr rfl|assumption) :
  PS X (.Assign [.Name y py] (.ListComp elt [⟨tg,iter,ifs,0⟩] scope pos) spos) (z9k (z7w wi g tt te own fr) (qH i)):=by
 intro pins s σ H D I h;rw[exec_Assign_Name_used _ _ _ _ hsw];refine wpAny_bind (wpAny_standAt (wpAny_bind ?_));show wpAny _ X.A (do let _ ←comprehension (.ListComp elt [⟨tg,iter,ifs,0⟩] scope pos) scope X.env _ (newList []) false (eval iter X.env) (some (assign (.Name y py) X.env))) _ _ s;refine wpAny_bind (wpAny_mono (wpAny_comprehension_free (use:=some (assign (.Name y py) X.env)) (Q:=fun _ s'=>SP X pins D .next s') rfl hs C.clos C.kind C.names ?_) (fun _ s' hq=>wpAny_pure (wpAny_pure hq)) fun _ _ e=>e);refine z2g (RR:=fun acc C=>compPost (model X.prog X.w) X.A X.xe (some (assign (.Name y py) X.env)) (fun _ s'=>SP X pins D .next s') acc C) C hc hi hg ht he I h fun Dn Cn H' s' m hn F hI q=>?_;show wpAny _ X.A (assign (.Name y py) X.env (.ref Dn)) _ _ _;have IX:Inv X pins σ H' s':=hI s'.heap (.refl ..);refine wpAny_assign_Name (wN IX hN hi' hy (v:=.ref Dn) rfl (fun s'' I'' ⟨a,sb,ha⟩=>?_) hf);have na:Cn≠a:=by
  rcases ha with z|z
  ·rw[z];exact F.2.1
  ·exact fun q=>F.2.2.2.2.1 _ _ z q.symm
 refine⟨m,hn.sameBut sb na,fun h' sb'=>⟨_,H',?_,q⟩⟩;exact I''.turned (t':=s''.toks) (fun b o hb e=>(sb'.2 b hb).trans e) F.1 F.2.1 F.2.2.2.1 F.2.2.2.2.1 F.2.2.2.2.2
noncomputable def Has (P:Program) (w:World) (K:PySem.W.Frag) (mg:Str->Option Value) (base:Heap) (k:Nat) (x:Str) (ps:List Str) (sp:Sp):Prop:=
 ∃f fd,FnOk P w K mg base CX0 k f fd ps sp/\(∀us:List Value,us.length=ps.length->bindArgs fd ⟨us,[]⟩=pure (ps.zip us))/\PySem.W.keepIn K (.ref f)=true/\mg x=some (.ref f)/\∃oc od osl,K.lookup f=some ⟨oc,od,.func fd,osl⟩
theorem Has.mono {P:Program} {w:World} {K:PySem.W.Frag} {mg:Str->Option Value} {base:Heap} {j k:Nat} {x:Str} {ps:List Str} {sp:Sp} (h:Has P w K mg base j x ps sp) (hk:j<=k):Has P w K mg base k x ps sp:=
 let ⟨f,fd,F,b⟩:=h
 ⟨f,fd,F.mono hk,b⟩
theorem zV {X:Cx} {k:Nat} {x:Str} {ps:List Str} {sp:Sp} {p pos:Pos} {e:Expr} {es:List Expr} {t:TA} (h:Has X.prog X.w X.K X.mg X.base k x ps sp) (hr:Room k X.A) (ha:PA X (e::es) t) (hg:Gl X x:=by rfl)
  (hdb:(x == ("__debug__" : Str))=false:=by decide) (he:starEach (e::es) X.env=(false,eval e X.env)::starEach es X.env:=by rfl) (hpl:(backTo pos (starEach es X.env)).any (·.1)=false:=by rfl) :
  PE X (.Call (.Name x p) (e::es) [] pos) (z2z sp [] E0 t):=by
 obtain⟨f,fd,F,hb,hk,hm,_⟩:=h;exact z6Y F hr hg hm hk (.all hb) .nil z8S ha hdb he hpl
noncomputable def TF (K:PySem.W.Frag) (mg:Str->Option Value) (x:Str) (st:Stmt):Prop:=∃f fd,Fun K x x st f fd/\mg x=some (.ref f)
theorem yE {K:PySem.W.Frag} {h:Heap} {mg:Str->Option Value} {x:Str} {st:Stmt} {f:Addr} {oc:Value} {od an:Option Addr} {osl:Array (Option Value)} {kV doc pm cdv ct:Value} (X:K.In h) (G:h.Ns mainGlobals mg)
  (a:PySem.W.nsIn K mainGlobals x=some (some (.ref f))) (l:K.lookup f=some ⟨oc,od,.func (PySem.W.fnOf x x (yg st) (yD st) (zK st) .none kV doc pm an cdv ct),osl⟩) (c:PySem.W.codeIn K cdv x=true) (k:PySem.W.keepIn K (.ref f)=true):TF K mg x st:=
 ⟨f,_,z9a l c k,PySem.W.mg_of X G a⟩
theorem TF.has {P:Program} {w:World} {K:PySem.W.Frag} {mg:Str->Option Value} {base:Heap} {x:Str} {st:Stmt} {N ps:List Str} {k:Nat} {sp:Sp} (T:TF K mg x st) (S:FnScope N ps (zK st))
  (hb:∀(kV doc pm:Value) (an:Option Addr) (cdv ct:Value) (us:List Value),us.length=ps.length->bindArgs (PySem.W.fnOf x x (yg st) (yD st) (zK st) .none kV doc pm an cdv ct) ⟨us,[]⟩=pure (ps.zip us))
  (len:∀vs H Q E,sp vs H Q E->vs.length=ps.length)
  (hbody:∀(f:Addr) (cdv:Value) (A:Around) (outer:List Env) (s:Shared) (H:Hp) (vs:List V) (Q:VK) (E:XK),Room k (A.deeper (envOfC x (zK st) s.heap.objs.size f cdv))->sp vs H Q E->
   ∃t,PSs (qN CX0 P w K mg base N x (zK st) f cdv A outer s H E).nox (yD st) t/\t { nx:=fun _ H'=>Q .non H',rt:=Q } (yo N vs) H):Has P w K mg base (k+1) x ps sp:=by
 obtain⟨f,fd,F,m⟩:=T;have ok:=F.ok (P:=P) (w:=w) (mg:=mg) (base:=base) S len fun cdv A outer s H vs Q E hr hsp=>hbody f cdv A outer s H vs Q E hr hsp;obtain⟨oc,od,kV,doc,pm,an,cdv,ct,osl,rfl,lk,hcd⟩:=F.ex;exact⟨f,_,ok,hb kV doc pm an cdv ct,F.kp,m,oc,od,osl,lk⟩
theorem y0X {P:Program} {w:World} {K:PySem.W.Frag} {mg:Str->Option Value} {h:Heap} {k:Nat} {sp:Sp} {fa:Addr} (KX:K.In h) (G:h.Ns mainGlobals mg) (hfa:mg "law" = some (.ref fa))
  (H:∀base:Heap,K.In base->base.Ns mainGlobals mg->Has P w K mg base k "law" ["script"] sp) :
  ∃fd:FuncData,(∀(s:Shared) (v:Value),BindsTo s fd ⟨[v],[]⟩ [("script",v)])/\∀base:Heap,K.In base->base.Ns mainGlobals mg->FnOk P w K mg base CX0 k fa fd ["script"] sp:=by
 obtain⟨f,fd,F,hb,hk,hm,oc,od,osl,hl⟩:=H h KX G;rw[hfa] at hm;cases hm;refine⟨fd,fun s v=>.of_eq (hb [v] rfl),fun base kb nb=>?_⟩;obtain⟨f',fd',F',_,_,hm',oc',od',osl',hl'⟩:=H base kb nb;rw[hfa] at hm';cases hm';rw[hl] at hl';cases hl';exact F'
theorem z3g {ns:List Int}:∀z∈ns,Builtin.Int.intBits z<=PySem.W.WData.weightAll (ns.map PySem.W.WData.int):=by
 induction ns with
 | nil=>intro z hz;cases hz
 | cons a r ih=>
  intro z hz;rw[List.map_cons];show _<=PySem.W.WData.weight (.int a)+1+PySem.W.WData.weightAll (r.map PySem.W.WData.int);rcases List.mem_cons.mp hz with e|hz
  ·subst e;have:PySem.W.WData.weight (.int z)=Builtin.Int.intBits z:=rfl;omega
  ·have:=ih z hz;omega
open PySem.W in
theorem z8d {l:PySem.W.OpenLaw} {k:Nat} {q:Program} {loose:List Str} {XP:(Str->Option Value)->Heap->Prop} {YP:World->Heap->Prop} {d:DefRec} {K:Params->PySem.W.Frag} {sp:PySem.W.Frag->Sp}
  (hn:l.most=some 63) (hdf:d.params.defaults=[]) (hr:Room k callerA)
  (hY:∀(w:World) (h:Heap),YP w h->(K w.params).In h)
  (F:∀(w:World) (mg:Str->Option Value) (fa:Addr) (h:Heap),(K w.params).In h->h.Ns mainGlobals mg->mg d.name=some (.ref fa)->
   ∃fd:FuncData,(∀(s:Shared) (u:Value),BindsTo s fd ⟨[u],[]⟩ [("script",u)])/\
    ∀base:Heap,(K w.params).In base->base.Ns mainGlobals mg->FnOk l.prog w (K w.params) mg base CX0 k fa fd ["script"] (sp (K w.params)))
  (hsp:∀(K:PySem.W.Frag) (H:Hp) (a:Addr) (ns:List Int),ns.length<=63->(∀z∈ns,Builtin.Int.intBits z<=2^20)->SqL K H a (ns.map V.int)->sp K [.ref a] H (fun v _=>v=.bl true) fun _ _ _=>False) :
  PySem.W.WalkO q loose XP YP l.row.toRowW d [] (fun f vs=>PySem.call f vs):=by
 intro w s₀ s₁ mg mb G Y fa o pm cd doc dV kV ho hd hcd hD hmg hg args vals as hpre hlay hrd hwl hlo;obtain rfl:dV=.none:=Dflts.none hD hdf;obtain rfl:kV=.none:=Dflts.noKw hD;obtain⟨a,vs,ns,rfl,rfl,hobj,hints,hlen⟩:=Att.script_of hn hpre hwl;have hbits:∀z∈ns,Builtin.Int.intBits z<=2^20:=fun z hz=>by
  have h1:WData.layable (WData.list (ns.map WData.int))=true:=by
   have:=hlay;simp only [WData.layableAll,List.all_cons,List.all_nil,Bool.and_true] at this;exact this
  unfold WData.layable at h1;have h2:WData.weight (WData.list (ns.map WData.int))<=2^20:=by
   have:=(Bool.and_eq_true_iff.mp h1).2;exact of_decide_eq_true this
  exact Nat.le_trans (z3g z hz) h2
 have KX:=hY w _ Y;obtain⟨fd,hb,hF⟩:=F w mg fa _ KX G.T.g hmg;refine enter_call (codeAny_mono (z8e (CX:=CX0) (sp:=sp (K w.params)) KX G.T.g G.T.b G.T.builtins G.T.nolimit hg hobj hints (Nat.le_trans hlen (by decide)) hr hF hb (fun H _ hS=>hsp _ H a ns hlen hbits hS) fun _ _ _ z=>z) fun r s' hq=>?_);obtain⟨rfl,h2,h3,h4⟩:=hq;exact⟨.inl ⟨.bool true,.bool true,[],rfl,fun _=>rfl,.bool true,Att.post_true l _,fun _=>⟨List.Pairwise.nil,fun _ hm=>(nomatch hm)⟩⟩,h2,h3,h4⟩
theorem jH {X:Cx}:OpR X (binaryOp .Mult) (rI IntMulOk fun i j=>.int (i*j)):=opI fun _ _ _ _ _ _ _ hc q=>mul_int q hc
noncomputable def y0q (_ j:Int):Prop:=0<j/\j.natAbs.log2<9000
theorem zm {X:Cx}:OpR X (binaryOp .FloorDiv) (rI y0q fun i j=>.int (i/j)):=opI fun i j _ _ _ _ _ hc q=>by
 refine floordiv_int (by have:=hc.1;omega) ?_ (.inl (PyProof.noPylong_of_log2 hc.2));rw[Int.fdiv_eq_ediv_of_nonneg i (Int.le_of_lt hc.1)];exact q
theorem mok {i j:Int} (m n:Nat) (h1:i.natAbs<2^m) (h2:j.natAbs<2^n) (h:m+n<=134217728):IntMulOk i j:=IntMulOk.of_le (intBits_le_iff.mpr h1) (intBits_le_iff.mpr h2) h
theorem y3k {i j:Int} (h1:-(2^64)<j) (h2:j<2^64):IntMulOk i j:=.of_right (intBits_le_64 h1 h2)
theorem y3M {i j:Int} (n:Nat) (h0:0<j) (h:j.natAbs<2^n) (hn:n<=9000):y0q i j:=⟨h0,Nat.lt_of_lt_of_le ((Nat.log2_lt (by omega)).mpr h) hn⟩
noncomputable def y1U (K:PySem.W.Frag):List V->Hp->VK->Prop:=fun xs H Q=>∃x T t b,xs=[x,.ty T]/\TyOf K H x t/\PySem.W.kitOne K t (.type T)=some b/\Q (.bl b) H
theorem z4v {X:Cx}:jY X (.builtin "isinstance") (y1U X.K):=by
 intro pins s σ H xs us Q I r h;obtain⟨x,T,t,b,rfl,ty,e,q⟩:=h;obtain⟨u,c,rfl,r1,r2⟩:=Vals.two r;obtain rfl:c=Value.type T:=r2;exact z6t I r1 ty e fun tk=>⟨.bl b,H,I.tok tk,rfl,q⟩
section
variable {D:Ends} {σ:St} {H:Hp} {Q:VK}
theorem z0L {t u:TS}:y2L t u D σ H=t { D with nx:=u D } σ H:=rfl
theorem z0T {c:TT} {t u:TS}:y1D c t u D σ H=c σ H fun b H1=>if b=true then t D σ H1 else u D σ H1:=rfl
theorem z0c {te:TE} {g:TG}:z9k te g D σ H=te σ H fun x H1=>g x σ H1 D.nx:=rfl
theorem wD {i:Nat} {v:V} {R:St->Hp->Prop}:qH i v σ H R=R (σ.set i (some v)) H:=rfl
theorem z0N {te:TE}:y2T te D σ H=te σ H D.rt:=rfl
theorem kK:y2S D σ H=D.rt .non H:=rfl
theorem kN:y0x D σ H=D.nx σ H:=rfl
theorem jr:y1H D σ H=D.bk σ H:=rfl
theorem kU:y2Y D σ H=D.ct σ H:=rfl
theorem kT {te:TE}:y1E te D σ H=te σ H fun _ H1=>D.nx σ H1:=rfl
theorem z7x {v:V}:tC v σ H Q=Q v H:=rfl
theorem z0J {i:Int}:unS (.int i)=.int i:=rfl
theorem z0F {x:Str}:unS (.str x)=.str x:=rfl
theorem z0H {a:Addr}:unS (.ref a)=.ref a:=rfl
theorem z3l {b:Bool}:unS (.bl b)=.bl b:=rfl
theorem z0I:unS .non=.non:=rfl
theorem z0G {x:Str} {t:Tok}:unS (.stk x t)=.str x:=rfl
theorem z9i {i:Nat} {v:V} (h:σ[i]?=some (some v)):z3q i σ H Q=Q (unS v) H:=propext ⟨fun⟨u,e,q⟩=>by rw[h] at e;cases e;exact q,fun q=>⟨v,h,q⟩⟩
theorem z3p {v:V} {l:St}:z3q 0 (some v::l) H Q=Q (unS v) H:=z9i rfl
theorem z3o {i:Nat} {o:Option V} {l:St}:z3q (i+1) (o::l) H Q=z3q i l H Q:=rfl
theorem z3u {r:R2} {ta tb:TE}:tOp r ta tb σ H Q=ta σ H fun x H1=>tb σ H1 fun y H2=>r x y H2 Q:=rfl
theorem z3r {r:V->Hp->VK->Prop} {ta:TE}:tUn r ta σ H Q=ta σ H fun x H1=>r x H1 Q:=rfl
theorem z4I {g:Int->Int->V} {i j:Int}:rI0 g (.int i) (.int j) H Q=Q (g i j) H:=propext ⟨fun⟨a,b,e1,e2,q⟩=>by cases e1;cases e2;exact q,fun q=>⟨i,j,rfl,rfl,q⟩⟩
theorem z8J {C:Int->Int->Prop} {g:Int->Int->V} {i j:Int}:rI C g (.int i) (.int j) H Q=(C i j/\Q (g i j) H):=propext ⟨fun⟨a,b,e1,e2,q⟩=>by cases e1;cases e2;exact q,fun q=>⟨i,j,rfl,rfl,q⟩⟩
theorem z8I {g:Int->V} {i:Int}:rU g (.int i) H Q=Q (g i) H:=propext ⟨fun⟨a,e1,q⟩=>by cases e1;exact q,fun q=>⟨i,rfl,q⟩⟩
theorem z0t {i j:Int}:rEq (.int i) (.int j) H Q=Q (.bl (decide (i=j))) H:=propext ⟨fun⟨_,q⟩=>by simpa using q,fun q=>⟨rfl,by simpa using q⟩⟩
theorem z0s {i j:Int}:rNe (.int i) (.int j) H Q=Q (.bl (!decide (i=j))) H:=propext ⟨fun⟨_,q⟩=>by simpa using q,fun q=>⟨rfl,by simpa using q⟩⟩
theorem kJ {t:TE} {R:Bool->Hp->Prop}:y0u t σ H R=t σ H fun x H'=>∃k,x=.bl k/\R k H':=rfl
theorem z9B {b:Bool} {R:Bool->Prop}:(∃k,V.bl b=.bl k/\R k)=R b:=propext ⟨fun⟨k,e,q⟩=>by cases e;exact q,fun q=>⟨b,rfl,q⟩⟩
theorem z4o {a:Addr} {R:Addr->Prop}:(∃k,V.ref a=.ref k/\R k)=R a:=propext ⟨fun⟨k,e,q⟩=>by cases e;exact q,fun q=>⟨a,rfl,q⟩⟩
theorem z4p {a:Int} {R:Int->Prop}:(∃k,V.int a=.int k/\R k)=R a:=propext ⟨fun⟨k,e,q⟩=>by cases e;exact q,fun q=>⟨a,rfl,q⟩⟩
theorem z0d {t u:TT} {R:Bool->Hp->Prop}:y3C t u σ H R=t σ H fun c H1=>if c=true then u σ H1 R else R false H1:=rfl
theorem z3t {t u:TT} {R:Bool->Hp->Prop}:tOr t u σ H R=t σ H fun c H1=>if c=true then R true H1 else u σ H1 R:=rfl
theorem z0Q {t:TT} {R:Bool->Hp->Prop}:y2v t σ H R=t σ H fun c H1=>R (!c) H1:=rfl
theorem kZ {ta tb:TE}:y1I ta tb σ H Q=ta σ H fun x H1=>∃c,x=.bl c/\if c=true then tb σ H1 Q else Q (.bl false) H1:=rfl
theorem z0P {ta tb:TE}:y3X ta tb σ H Q=ta σ H fun x H1=>∃c,x=.bl c/\if c=true then Q (.bl true) H1 else tb σ H1 Q:=rfl
theorem kM {ta:TE}:y2U ta σ H Q=ta σ H fun x H1=>∃c,x=.bl c/\Q (.bl (!c)) H1:=rfl
theorem z3v {t:TT} {ta tb:TE}:tIf t ta tb σ H Q=t σ H fun c H1=>if c=true then ta σ H1 Q else tb σ H1 Q:=rfl
theorem z0R {R:List V->Hp->Prop}:z9N σ H R=R [] H:=rfl
theorem kW {ta:TE} {tr:TA} {R:List V->Hp->Prop}:z0Y ta tr σ H R=ta σ H fun x H1=>tr σ H1 fun xs H2=>R (x::xs) H2:=rfl
theorem z0K {t:TA}:y2u t σ H Q=t σ H fun xs H1=>xs.length<=sizeLine/\∀p,H1 p=none->Q (.ref p) (upd H1 p (.tup xs)):=rfl
theorem z0S {t:TA}:y2w t σ H Q=t σ H fun xs H1=>xs.length<=sizeLine/\∀p,H1 p=none->Q (.ref p) (upd H1 p (.lst xs)):=rfl
theorem kY {sp:Sp} {dvs:List V} {E:XK} {t:TA}:z2z sp dvs E t σ H Q=t σ H fun vs H1=>sp (vs++dvs) H1 Q E:=rfl
theorem z3w {r:List V->Hp->VK->Prop} {t:TA}:tCB r t σ H Q=t σ H fun vs H1=>r vs H1 Q:=rfl
theorem jq {r r':R2} {ta tb tc:TE}:z9P r r' ta tb tc σ H Q=ta σ H fun x H1=>tb σ H1 fun y H2=>r x y H2 fun z H3=>∃k,z=.bl k/\(if k=true then tc σ H3 fun w' H4=>r' y w' H4 Q else Q (.bl false) H3):=rfl
theorem z0O {i j:Nat} {ta:TA}:y3W i j ta D σ H=ta σ H fun vs H1=>∃v w,vs=[v,w]/\D.nx ((σ.set i (some v)).set j (some w)) H1:=rfl
theorem z4n {v w:V} {R:V->V->Prop}:(∃a b,[v,w]=[a,b]/\R a b)=R v w:=propext ⟨fun⟨a,b,e,q⟩=>by cases e;exact q,fun q=>⟨v,w,rfl,q⟩⟩
theorem z0b {i:Nat} {te:TE} {ti:TIp}:y3B i te ti D σ H=z3q i σ H fun x _=>te σ H fun y H1=>ti x y H1 fun z H2=>D.nx (σ.set i (some z)) H2:=rfl
theorem z4h {f:Int->Int->Int} {i j:Int}:ipI f (.int i) (.int j) H Q=Q (.int (f i j)) H:=propext ⟨fun⟨a,b,e1,e2,q⟩=>by cases e1;cases e2;exact q,fun q=>⟨i,j,rfl,rfl,q⟩⟩
theorem z3s {r:V->Option Int->Option Int->Hp->VK->Prop} {te:TE} {tl th:TO}:tSl r te tl th σ H Q=te σ H fun x H1=>tl σ H1 fun l H2=>th σ H2 fun u H3=>r x l u H3 Q:=rfl
theorem jL {R:Option Int->Hp->Prop}:z5y σ H R=R none H:=rfl
theorem kL {t:TE} {R:Option Int->Hp->Prop}:y0w t σ H R=t σ H fun x H1=>∃i,x=.int i/\R (some i) H1:=rfl
theorem z3x {K:PySem.W.Frag} {T:String} {r:V->List V->Hp->VK->Prop} {to:TE} {t:TA}:tBM K T r to t σ H Q=to σ H fun x H1=>tyV K T x H1/\t σ H1 fun xs H2=>r x xs H2 Q:=rfl
theorem kI {R:Bool->Hp->Prop}:z5E σ H R=R true H:=rfl
theorem z1V {to ti:TE} {t:y3N} {v:V} {R:St->Hp->Prop}:y3o to ti t v σ H R=to σ H fun o H1=>ti σ H1 fun i H2=>t o i v H2 fun H3=>R σ H3:=rfl
theorem z1I {c:Prop} [Decidable c] {A B:Prop}:(if c then A else B)=((c->A)/\(¬c->B)):=by
 by_cases h:c
 ·simp [h]
 ·simp [h]
noncomputable def oV:Option Int->V
 | some i=>.int i
 | none=>.non
end
theorem z4r {CX:CXT} {P:Program} {w:World} {K:PySem.W.Frag} {mg:Str->Option Value} {base:Heap} {N:List Str} {qual:Str} {scope:Scope} {f:Addr} {cd:Value} {A:Around} {outer:List Env} {s:Shared} {H:Hp} {E:XK}:(qN CX P w K mg base N qual scope f cd A outer s H E).K=K:=rfl
theorem wH {X:Cx} {N:List Str} {scope:Scope} {cl:List (Str×Addr)} {s:Shared} {H:Hp} {fp:List Addr}:(yn X N scope cl s H fp).K=X.K:=rfl
section
variable {D:Ends} {σ:St} {H:Hp} {Q:VK}
noncomputable def y0p (J:It) (g:TG) (tb:TS) (D:Ends) (σ:St) (H:Hp):Prop:=∃W:Nat->Nat->St->Hp->Prop,(∃m,W 0 m σ H)/\∀i m σ H,W i m σ H->
 (J.stop i H/\D.nx σ H)∨(J.go i H/\∃N:St->Hp->Prop,(∀σ' H',N σ' H'->∃m',m'<m/\W (i+1) m' σ' H')/\∀x H',J.yld i H x H'->g x σ H' fun σ2 H2=>tb { D with nx:=N,ct:=N,bk:=D.nx } σ2 H2)
theorem z0U {wi:TI} {g:TG} {tb:TS}:y2X wi g tb D σ H=wi σ H fun J H1=>y0p J g tb D σ H1:=rfl
theorem qo {lo:Int} {n:Nat} {g:TG} {tb:TS} (Pv:Nat->St->Hp->Prop) (h0:Pv 0 σ H)
  (hs:∀i σ H,i<n->Pv i σ H->g (.int (lo+i)) σ H fun σ2 H2=>tb { D with nx:=Pv (i+1),ct:=Pv (i+1),bk:=D.nx } σ2 H2) (hd:∀σ H,Pv n σ H->D.nx σ H):y0p (Itr lo n) g tb D σ H:=z7K Pv h0 hs hd
theorem ym {K:PySem.W.Frag} {a:Addr} {xs:List V} {g:TG} {tb:TS} (Pv:Nat->St->Hp->Prop) (h0:Pv 0 σ H) (hl:∀i σ H,i<=xs.length->Pv i σ H->SqL K H a xs)
  (hs:∀i x σ H,xs[i]?=some x->Pv i σ H->g x σ H fun σ2 H2=>tb { D with nx:=Pv (i+1),ct:=Pv (i+1),bk:=D.nx } σ2 H2) (hd:∀σ H,Pv xs.length σ H->D.nx σ H):y0p (Itl K a) g tb D σ H:=z8t Pv h0 hl hs hd
theorem z8u {K:PySem.W.Frag} {a:Addr} {xs:List V} {g:TG} {tb:TS} (Pv:Nat->St->Hp->Prop) (h0:Pv 0 σ H) (hl:∀i σ H,i<=xs.length->Pv i σ H->SqT K H a xs)
  (hs:∀i x σ H,xs[i]?=some x->Pv i σ H->g x σ H fun σ2 H2=>tb { D with nx:=Pv (i+1),ct:=Pv (i+1),bk:=D.nx } σ2 H2) (hd:∀σ H,Pv xs.length σ H->D.nx σ H):y0p (Itt K a) g tb D σ H:=y0b Pv h0 hl hs hd
theorem kx {ta:TA} {R:It->Hp->Prop}:y1w ta σ H R=ta σ H fun vs H1=>∃j:Int,vs=[.int j]/\-(2^62)<=j/\j<2^62/\R (Itr 0 j.toNat) H1:=rfl
theorem ko {ta:TA} {R:It->Hp->Prop}:y2k ta σ H R=ta σ H fun vs H1=>∃i j:Int,vs=[.int i,.int j]/\(-(2^62)<=i/\i<2^62/\-(2^62)<=j/\j<2^62)/\R (Itr i (j-i).toNat) H1:=rfl
theorem wA {K:PySem.W.Frag} {tl:TE} {R:It->Hp->Prop}:y1x K tl σ H R=tl σ H fun x H1=>∃a,x=.ref a/\(∃xs,SqL K H1 a xs)/\R (Itl K a) H1:=rfl
theorem z1M {K:PySem.W.Frag} {tl:TE} {R:It->Hp->Prop}:y3J K tl σ H R=tl σ H fun x H1=>∃a,x=.ref a/\(∃xs,SqT K H1 a xs)/\R (Itt K a) H1:=rfl
noncomputable def z1g (J:It) (g:TG) (tt:TT) (te:TE) (own:List Str) (fr:List Nat) (σ:St) (H1:Hp) (Q:VK):Prop:=∀D,H1 D=none->∃W:Nat->Nat->St->Hp->Prop,(∃m,W 0 m (st0 own fr σ) (upd H1 D (.lst [])))/\∀i m σc H,W i m σc H->
 (J.stop i H/\Q (.ref D) H)∨(J.go i H/\∃N:St->Hp->Prop,(∀σ' H',N σ' H'->∃m',m'<m/\W (i+1) m' σ' H')/\∀x H',J.yld i H x H'->g x σc H' fun σ2 H2=>tt σ2 H2 fun b H3=>
  if b=true then te σ2 H3 fun y H4=>∃ys,H4 D=some (.lst ys)/\ys.length<sizeLine/\N σ2 (upd H4 D (.lst (ys++[y]))) else N σ2 H3)
theorem kX {wi:TI} {g:TG} {tt:TT} {te:TE} {own:List Str} {fr:List Nat}:z7w wi g tt te own fr σ H Q=wi σ H fun J H1=>z1g J g tt te own fr σ H1 Q:=rfl
noncomputable def qq (Sv:St->Prop) (Pv:Addr->Nat->List V->Hp->Prop) (D:Addr) (i:Nat) (σ:St) (H:Hp):Prop:=Sv σ/\∃ys,H D=some (.lst ys)/\ys.length<=i/\Pv D i ys H
noncomputable def CompP (Sv:St->Prop) (Pv:Addr->Nat->List V->Hp->Prop) (D:Addr) (i:Nat) (σ2:St) (y:V) (H4:Hp):Prop:=∃ys,H4 D=some (.lst ys)/\ys.length<sizeLine/\qq Sv Pv D (i+1) σ2 (upd H4 D (.lst (ys++[y])))
theorem CompP.mk {Sv:St->Prop} {Pv:Addr->Nat->List V->Hp->Prop} {D:Addr} {i:Nat} {σ2:St} {y:V} {H4:Hp} {ys:List V} (h:H4 D=some (.lst ys)) (hl:ys.length<=i) (hi:i<sizeLine) (hS:Sv σ2) (hP:Pv D (i+1) (ys++[y]) (upd H4 D (.lst (ys++[y])))) :
  CompP Sv Pv D i σ2 y H4:=⟨ys,h,Nat.lt_of_le_of_lt hl hi,hS,_,zG,by simp;omega,hP⟩
theorem yz {K:PySem.W.Frag} {a:Addr} {xs:List V} {g:TG} {tt:TT} {te:TE} {own:List Str} {fr:List Nat} (Sv:St->Prop) (Pv:Addr->Nat->List V->Hp->Prop) (hS:Sv (st0 own fr σ))
  (h0:∀D,H D=none->Pv D 0 [] (upd H D (.lst []))) (hl:∀D i ys H',H' D=some (.lst ys)->Pv D i ys H'->SqL K H' a xs)
  (hs:∀D i x ys σ H',xs[i]?=some x->i<xs.length->Sv σ->H' D=some (.lst ys)->ys.length<=i->Pv D i ys H'->g x σ H' fun σ2 H2=>tt σ2 H2 fun b H3=>if b=true then te σ2 H3 fun y H4=>CompP Sv Pv D i σ2 y H4 else qq Sv Pv D (i+1) σ2 H3)
  (hd:∀D ys H',H' D=some (.lst ys)->Pv D xs.length ys H'->Q (.ref D) H'):z1g (Itl K a) g tt te own fr σ H Q:=by
 intro D hD;refine⟨fun i m σ H=>m=xs.length-i/\i<=xs.length/\qq Sv Pv D i σ H,⟨_,rfl,Nat.zero_le _,hS,[],zG,Nat.le_refl _,h0 D hD⟩,?_⟩;rintro i m σ1 H1 ⟨rfl,hi,hs1,ys,hy,hy2,p⟩;have q:=hl D i ys H1 hy p;by_cases hlt:i<xs.length
 ·refine .inr ⟨⟨xs,xs[i],q,by simp [hlt]⟩,qq Sv Pv D (i+1),fun σ' H' p'=>⟨xs.length-(i+1),by omega,rfl,hlt,p'⟩,fun x H' y=>?_⟩;obtain⟨e,y⟩:=y;subst e;exact hs D i x ys σ1 _ (y xs q) hlt hs1 hy hy2 p
 ·have e:i=xs.length:=by omega
  subst e;exact .inl ⟨⟨xs,q,Nat.le_refl _⟩,hd D ys H1 hy p⟩
theorem z3d {lo:Int} {n:Nat} {g:TG} {tt:TT} {te:TE} {own:List Str} {fr:List Nat} (Sv:St->Prop) (Pv:Addr->Nat->List V->Hp->Prop) (hS:Sv (st0 own fr σ))
  (h0:∀D,H D=none->Pv D 0 [] (upd H D (.lst [])))
  (hs:∀D i ys σ H',i<n->Sv σ->H' D=some (.lst ys)->ys.length<=i->Pv D i ys H'->g (.int (lo+i)) σ H' fun σ2 H2=>tt σ2 H2 fun b H3=>if b=true then te σ2 H3 fun y H4=>CompP Sv Pv D i σ2 y H4 else qq Sv Pv D (i+1) σ2 H3)
  (hd:∀D ys H',H' D=some (.lst ys)->Pv D n ys H'->Q (.ref D) H'):z1g (Itr lo n) g tt te own fr σ H Q:=by
 intro D hD;refine⟨fun i m σ H=>m=n-i/\i<=n/\qq Sv Pv D i σ H,⟨_,rfl,Nat.zero_le _,hS,[],zG,Nat.le_refl _,h0 D hD⟩,?_⟩;rintro i m σ1 H1 ⟨rfl,hi,hs1,ys,hy,hy2,p⟩;by_cases hlt:i<n
 ·refine .inr ⟨hlt,qq Sv Pv D (i+1),fun σ' H' p'=>⟨n-(i+1),by omega,rfl,hlt,p'⟩,fun x H' y=>?_⟩;obtain⟨e,y⟩:=y;subst e y;exact hs D i ys σ1 _ hlt hs1 hy hy2 p
 ·have e:i=n:=by omega
  subst e;exact .inl ⟨Nat.le_refl _,hd D ys H1 hy p⟩
noncomputable abbrev IL (zs:List Int):HO:=.lst (zs.map V.int)
theorem zX {K:PySem.W.Frag} {p:Addr} {xs:List V} {i:Int} {v:V} (h:SqL K H p xs) (e:atI xs i=some v) (q:Q v H):y0r K (.ref p) (.int i) H Q:=⟨p,xs,i,v,rfl,rfl,h,e,q⟩
theorem Same.write {H H':Hp} (g:Same H H') {p:Addr} (n:H p=none) (o:HO):Same H (upd H' p o):=fun b u e=>by rw[za (zd e n)];exact g b u e
theorem wE {t:TG} {u:TGs} {v:V} {r:List V} {R:St->Hp->Prop}:z7I t u (v::r) σ H R=t v σ H fun σ' H'=>u r σ' H' R:=propext ⟨fun⟨a,b,e,q⟩=>by cases e;exact q,fun q=>⟨v,r,rfl,q⟩⟩
theorem z1W {R:St->Hp->Prop}:y2o [] σ H R=R σ H:=propext ⟨fun⟨_,q⟩=>q,fun q=>⟨rfl,q⟩⟩
theorem z7y {t:TE} {R:Bool->Hp->Prop}:tB t σ H R=t σ H fun x H1=>∃c,x=.bl c/\R c H1:=rfl
theorem zH {H:Hp} {p:Addr} (h:H p=none) (o:HO):Same H (upd H p o):=fun b u q=>by rw[za (zd q h)];exact q
end
noncomputable def Itv (K:PySem.W.Frag) (a:Addr) (n:Nat):It:=
 ⟨fun i H=>i<n/\∃xs,SqL K H a xs/\xs.length=n,fun i H x H'=>H'=H/\∀xs,SqL K H a xs->xs[n-1-i]?=some x,fun i _=>i=n⟩
noncomputable def y3n (K:PySem.W.Frag) (ta:TE):TI:=fun σ H R=>ta σ H fun x H1=>∃a xs,x=.ref a/\SqL K H1 a xs/\R (Itv K a xs.length) H1
section
variable {X:Cx} {tg:Expr}
end
theorem z1O {K:PySem.W.Frag} {tl:TE} {σ:St} {H:Hp} {R:It->Hp->Prop}:y3n K tl σ H R=tl σ H fun x H1=>∃a xs,x=.ref a/\SqL K H1 a xs/\R (Itv K a xs.length) H1:=rfl
noncomputable def y3A (t:TS):TS:=fun D σ H=>∃M:St->Hp->Prop,t { D with nx:=M } σ H/\∀σ' H',M σ' H'->D.nx σ' H'
theorem x4 {X:Cx} {st:Stmt} {t:TS} (h:PS X st t):PS X st (y3A t):=by
 intro pins s σ H D I hw;obtain⟨M,h1,h2⟩:=hw;refine thn (h pins s σ H _ I h1) fun f s1 q=>?_;cases f with
 | next=>obtain⟨σ',H',I',q⟩:=q;exact⟨σ',H',I',h2 σ' H' q⟩
 | ret v=>exact q
 | brk=>exact q
 | cont=>exact q
section
variable {X:Cx}
end
theorem z4e {K:PySem.W.Frag} {H:Hp} {Q:VK} {d:Int}:y1U K [.int d,.ty "int"] H Q=Q (.bl true) H:=propext ⟨fun⟨x,T,t,b,e,ty,k,q⟩=>by
  cases e;cases ty;have:PySem.W.kitOne K (.type "int") (.type "int")=some true:=rfl;rw[this] at k;cases k;exact q,fun q=>⟨_,_,_,true,rfl,.int d,rfl,q⟩⟩
theorem z4f {K:PySem.W.Frag} {H:Hp} {Q:VK} {d:Int}:y1U K [.int d,.ty "bool"] H Q=Q (.bl false) H:=propext ⟨fun⟨x,T,t,b,e,ty,k,q⟩=>by
  cases e;cases ty;have:PySem.W.kitOne K (.type "int") (.type "bool")=some false:=rfl;rw[this] at k;cases k;exact q,fun q=>⟨_,_,_,false,rfl,.int d,rfl,q⟩⟩
theorem z4d {K:PySem.W.Frag} {H:Hp} {Q:VK}:y1U K [.non,.ty "int"] H Q=Q (.bl false) H:=propext ⟨fun⟨x,T,t,b,e,ty,k,q⟩=>by
  cases e;cases ty;have:PySem.W.kitOne K (.type "NoneType") (.type "int")=some false:=rfl;rw[this] at k;cases k;exact q,fun q=>⟨_,_,_,false,rfl,.non,rfl,q⟩⟩
theorem z4g {K:PySem.W.Frag} {H:Hp} {Q:VK} {d:Bool}:y1U K [.bl d,.ty "bool"] H Q=Q (.bl true) H:=propext ⟨fun⟨x,T,t,b,e,ty,k,q⟩=>by
  cases e;cases ty;have:PySem.W.kitOne K (.type "bool") (.type "bool")=some true:=rfl;rw[this] at k;cases k;exact q,fun q=>⟨_,_,_,true,rfl,.bl d,rfl,q⟩⟩
noncomputable def z4t (ns:List Int) (lo hi:Option Int):List Int:=(ns.drop (HT.sIx ns.length 0 lo)).take (HT.sIx ns.length ns.length hi-HT.sIx ns.length 0 lo)
theorem z1a (ns:List Int) (lo hi:Option Int):z7q (ns.map V.int) lo hi=(z4t ns lo hi).map V.int:=by
 unfold z7q z4t;rw[List.length_map,List.map_take,List.map_drop]
theorem vM (ns:List Int) (lo hi:Option Int):(z4t ns lo hi).length<=ns.length:=by
 unfold z4t;rw[List.length_take,List.length_drop];omega
section
variable {prog:Program} {w:World} {A:Around} {E:Value->Shared->Prop} {s:Shared}
end
noncomputable def z7v (K:PySem.W.Frag) (tl:TE):TE:=fun σ H Q=>tl σ H fun x H1=>∃a xs,x=.ref a/\SqL K H1 a xs/\∀d,H1 d=none->Q (.ref d) (upd H1 d (.lst xs.reverse))
section
variable {X:Cx}
end
theorem x8 {K:PySem.W.Frag} {tl:TE} {σ:St} {H:Hp} {Q:VK}:z7v K tl σ H Q=tl σ H fun x H1=>∃a xs,x=.ref a/\SqL K H1 a xs/\∀d,H1 d=none->Q (.ref d) (upd H1 d (.lst xs.reverse)):=rfl
mutual
inductive DD (K:PySem.W.Frag) (H:Hp):V->PyData->Prop where
 | non:DD K H .non .none
 | bl (b:Bool):DD K H (.bl b) (.bool b)
 | int (i:Int):DD K H (.int i) (.int i)
 | str (x:Str):DD K H (.str x) (.str x)
 | lst {a:Addr} {xs:List V} {ds:List PyData}:SqL K H a xs->DDs K H xs ds->DD K H (.ref a) (.list ds)
 | tup {a:Addr} {xs:List V} {ds:List PyData}:SqT K H a xs->DDs K H xs ds->DD K H (.ref a) (.tuple ds)
inductive DDs (K:PySem.W.Frag) (H:Hp):List V->List PyData->Prop where
 | nil:DDs K H [] []
 | cons {x:V} {xs:List V} {d:PyData} {ds:List PyData}:DD K H x d->DDs K H xs ds->DDs K H (x::xs) (d::ds)
end
section
variable {X:Cx} {pins:List (Addr×Obj)} {σ:St} {H:Hp} {s:Shared}
mutual
theorem DD.reads (I:Inv X pins σ H s):∀ {v:V} {d:PyData} {u:Value},DD X.K H v d->RelV v u->∃as,Reads s.heap u d as
 | _,_,_,.non,r=>by cases r;exact⟨_,.none⟩
 | _,_,_,.bl b,r=>by cases r;exact⟨_,.bool b⟩
 | _,_,_,.int i,r=>by obtain⟨t,rfl⟩:=r;exact⟨_,.int i t⟩
 | _,_,_,.str x,r=>by obtain⟨t,rfl⟩:=r;exact⟨_,.str x t⟩
 | _,_,_,.lst h hs,r=>by
  cases r;obtain⟨its,rv,p,_⟩:=I.list h;obtain⟨as,ra⟩:=DDs.reads I hs rv;obtain⟨o,ho,hc,n,hd⟩:=p.isList;exact⟨_,.list ho hc hd ra⟩
 | _,_,_,.tup h hs,r=>by
  cases r;obtain⟨its,rv,p,_⟩:=I.tuple h;obtain⟨as,ra⟩:=DDs.reads I hs rv;obtain⟨o,ho,hc,n,hd⟩:=p;exact⟨_,.tuple ho hc hd ra⟩
theorem DDs.reads (I:Inv X pins σ H s):∀ {vs:List V} {ds:List PyData} {us:List Value},DDs X.K H vs ds->Vals vs us->∃as,ReadsAll s.heap us ds as
 | _,_,_,.nil,.nil=>⟨_,.nil⟩
 | _,_,_,.cons h hs,.cons r rs=>by
  obtain⟨as,ra⟩:=DD.reads I h r;obtain⟨bs,rb⟩:=DDs.reads I hs rs;exact⟨_,.cons ra rb⟩
end
end
theorem Same.seqT {K:PySem.W.Frag} {H H':Hp} {a:Addr} {xs:List V} (e:Same H H') (h:SqT K H a xs):SqT K H' a xs:=by
 rcases h with (h|⟨o,h⟩)|h
 ·exact .inl (.inl (e _ _ h))
 ·exact .inl (.inr ⟨o,e _ _ h⟩)
 ·exact .inr h
mutual
theorem DD.mono {K:PySem.W.Frag} {H H':Hp} (g:Same H H'):∀ {v:V} {d:PyData},DD K H v d->DD K H' v d
 | _,_,.non=>.non
 | _,_,.bl b=>.bl b
 | _,_,.int i=>.int i
 | _,_,.str x=>.str x
 | _,_,.lst h hs=>.lst (g.seq h) (DDs.mono g hs)
 | _,_,.tup h hs=>.tup (Same.seqT g h) (DDs.mono g hs)
theorem DDs.mono {K:PySem.W.Frag} {H H':Hp} (g:Same H H'):∀ {vs:List V} {ds:List PyData},DDs K H vs ds->DDs K H' vs ds
 | _,_,.nil=>.nil
 | _,_,.cons h hs=>.cons (DD.mono g h) (DDs.mono g hs)
end
noncomputable def y1V (K:PySem.W.Frag):R2:=fun x y H Q=>∃d e:PyData,DD K H x d/\DD K H y e/\SeqAt.shaped d=true/\SeqAt.shaped e=true/\Q (.bl (PyData.eqv d e)) H
noncomputable def y3F (K:PySem.W.Frag):R2:=fun x y H Q=>∃d e:PyData,DD K H x d/\DD K H y e/\SeqAt.shaped d=true/\SeqAt.shaped e=true/\Q (.bl (!PyData.eqv d e)) H
section
variable {X:Cx}
theorem z2L (hu:X.A.units+64<cLine):OpR X (compareOp .Eq) (y1V X.K):=by
 intro pins s σ H x y v u Q I rx ry h;obtain⟨d,e,hd,he,sd,se,q⟩:=h;obtain⟨as,ra⟩:=hd.reads I rx;obtain⟨bs,rb⟩:=he.reads I ry;exact eq_dataH ra rb sd se hu ⟨.bl _,H,I,rfl,q⟩
theorem y1e (hu:X.A.units+64<cLine):OpR X (compareOp .NotEq) (y3F X.K):=by
 intro pins s σ H x y v u Q I rx ry h;obtain⟨d,e,hd,he,sd,se,q⟩:=h;obtain⟨as,ra⟩:=hd.reads I rx;obtain⟨bs,rb⟩:=he.reads I ry;exact ne_dataH ra rb sd se hu ⟨.bl _,H,I,rfl,q⟩
noncomputable def y2b (K:PySem.W.Frag):R2:=fun x y H Q=>∃l b xs zs,x=.ref l/\y=.ref b/\SqL K H l xs/\SqL K H b zs/\xs.length+zs.length<=sizeLine/\∀p,H p=none->Q (.ref p) (upd H p (.lst (xs++zs)))
theorem z6c:OpR X (binaryOp .Add) (y2b X.K):=by
 intro pins s σ H x y v u Q I rx ry h;obtain⟨l,b,xs,zs,rfl,rfl,hH,hB,hz,q⟩:=h;cases rx;cases ry;obtain⟨its,r,pa,_⟩:=I.list hH;obtain⟨its2,r2,pb,_⟩:=I.list hB;have hl:=r.length;have hl2:=r2.length;obtain⟨⟨cls,dd,data,sl⟩,ho,hc,n,hd⟩:=pa.isList;obtain⟨⟨cls2,dd2,data2,sl2⟩,ho2,hc2,n2,hd2⟩:=pb.isList;simp only at hc hd hc2 hd2;subst hc hd hc2 hd2;have e:its.toArray++its2.toArray=(its++its2).toArray:=by simp
 refine concat_meets ⟨_,ho,rfl⟩ ⟨_,ho2,rfl⟩ noFill_list_add seq_list_add PySem.F.slot_list_add PySem.F.entry_list_add (PySem.F.args_list_add_2 _ _) (list_addW l b its.toArray its2.toArray n n2 dd dd2 sl sl2 (by simp only [List.size_toArray];omega)) ⟨ho,ho2,?_⟩;rw[e];exact⟨.ref _,_,I.lnew (t':=s.toks) (r.append r2) (by rw[List.length_append];omega),rfl,q _ I.fresh⟩
end
theorem z6m (a v:Value):argsOk "min" ⟨[a],[(Str.ofString "default",v)]⟩:=by unfold argsOk;kernel_rfl
section
variable {prog:Program} {w:World} {B:Around} {it:Addr} {fp wr:List Addr} {GG:Array GenState->Array GenState->Prop} {n:Nat} {PV:Nat->Value->Prop} {SV:Nat->Shared->Prop} {RR:Result->Shared->Prop}
theorem z6k {dv:Value} (WS:WalksS prog w B.in1 it fp wr GG n PV SV) (bt:Nat->Nat->Bool) (hcm:CmpOf prog w B.in1 .Lt PV bt) (Z:Addr) (hZ:Z∉fp) :
  ∀(k j:Nat) (s:Shared) (top:Value) (c:Nat),n-(j+1)=k->j+1<=n->SV (j+1) s->PV (argBest bt j) top->
  s.heap.get? Z=some { cls:=.type "list",dict:=none,data:=.seq #[top,top] c,slots:=#[] }->
  (∀v s',PV (argBest bt (n-1)) v->Moved (Z::wr) GG s s'->RR (.ok (.ret v)) s')->codeAny (model prog w) B (.builtin "min.loop" ⟨[.ref it,.none,.ref Z],[(Str.ofString "default",dv)]⟩) RR s:=by
 have zw:Z∉wr:=fun z=>hZ (WS.sub _ z);have sub:∀b∈wr,b∈Z::wr:=fun b z=>List.mem_cons_of_mem _ z;have nm:(toString "min" ++ toString ".loop" : String) = "min.loop" :=by decide
 have nz:∀ {b:Addr},b∉Z::wr->Z≠b:=fun z e=>z (by rw[e];exact List.mem_cons_self);intro k
 induction k with
 | zero=>
  intro j s top c hk hj sv pt hz fin;have jn:j+1=n:=by omega
  refine codeAny_builtin PySem.F.entry_min_loop ?_;rw[Around.under_plainId PySem.F.plain_min_loop _];show wpAny (model prog w) B.in1 (seqItems? (.ref Z) >>= _) _ _ s;refine wpAny_bind (wpAny_seqItems hz rfl ?_);show wpAny (model prog w) B.in1 (tryCatch (pyNext (.ref it)) _ >>= _) _ _ s;refine wpAny_bind (wpAny_tryCatch (WS.done s _ _ (jn▸sv) fun s' mv=>?_));have hz':=mv.heap Z _ zw hz;show wpAny (model prog w) B.in1 (updateSeq Z (fun _=>#[]) >>= _) _ _ _;refine wpAny_bind ?_;refine wpAny_updateSeq hz' rfl (wpAny_bind (wpAny_letGo (wpAny_pure ?_)));refine fin top _ (by rw[←jn];exact pt) ?_;exact (mv.mono sub).then_heap (tk:=s'.toks) (Nat.le_refl _) fun b o z e=>(Heap.get?_update_other _ _ (nz z)).trans e
 | succ k ih=>
  intro j s top c hk hj sv pt hz fin;have jn:j+1<n:=by omega
  refine codeAny_builtin PySem.F.entry_min_loop ?_;rw[Around.under_plainId PySem.F.plain_min_loop _];show wpAny (model prog w) B.in1 (seqItems? (.ref Z) >>= _) _ _ s;refine wpAny_bind (wpAny_seqItems hz rfl ?_);show wpAny (model prog w) B.in1 (tryCatch (pyNext (.ref it)) _ >>= _) _ _ s;refine wpAny_bind (wpAny_tryCatch (WS.item (j+1) s _ _ jn sv fun v s' pv sv' mv=>?_));have hz':=mv.heap Z _ zw hz;show wpAny (model prog w) B.in1 (tryCatch (holding [v,v] (richCompare .Lt v top >>= _)) _ >>= _) _ _ _;refine wpAny_bind (wpAny_tryCatch (wpAny_holding (wpAny_bind (hcm (j+1) (argBest bt j) v top _ _ _ pv pt ?_))));refine wpAny_bind (wpAny_holding (wpAny_truthy_bool ?_));refine wpAny_bind (wpAny_letGo (wpAny_pure ?_));cases eb:bt (j+1) (argBest bt j) with
  | true=>
   simp only [if_true];refine wpAny_bind ?_;refine wpAny_updateSeq hz' rfl (wpAny_bind (wpAny_letGo ?_));rw[nm];refine wpAny_pure ⟨plainId_quiet PySem.F.plain_min_loop _,ih (j+1) _ v _ (by omega) jn ?_ (by simp only [argBest,eb,if_true];exact pv) (Heap.get?_update_self _ hz' rfl) fun v2 s2 p2 m2=>?_⟩
   ·exact WS.frame _ s' _ s'.toks sv' (Nat.le_refl _) fun b z o e=>(Heap.get?_update_other _ _ (fun q:Z=b=>hZ (by rw[q];exact z))).trans e
   ·refine fin v2 s2 p2 (Moved.trans WS.gtrans ?_ m2);exact (mv.mono sub).then_heap (Nat.le_refl _) fun b o z e=>(Heap.get?_update_other _ _ (nz z)).trans e
  | false=>
   simp only [Bool.false_eq_true,if_false];refine wpAny_bind (wpAny_letGo ?_);rw[nm];refine wpAny_pure ⟨plainId_quiet PySem.F.plain_min_loop _,ih (j+1) _ top c (by omega) jn sv' (by simp only [argBest,eb,Bool.false_eq_true,if_false];exact pt) hz' fun v2 s2 p2 m2=>?_⟩;exact fin v2 s2 p2 (Moved.trans WS.gtrans (mv.mono sub) m2)
theorem z5L {dv:Value} (WS:WalksS prog w B.in1 it fp wr GG n PV SV) (bt:Nat->Nat->Bool) (hcm:CmpOf prog w B.in1 .Lt PV bt) (Z:Addr) (hZ:Z∉fp) {s:Shared} {c:Nat} (sv:SV 0 s)
  (hz:s.heap.get? Z=some { cls:=.type "list",dict:=none,data:=.seq #[] c,slots:=#[] })
  (none:n=0->∀s',Moved (Z::wr) GG s s'->RR (.ok (.ret dv)) s') (fin:0<n->∀v s',PV (argBest bt (n-1)) v->Moved (Z::wr) GG s s'->RR (.ok (.ret v)) s') :
  codeAny (model prog w) B (.builtin "min.loop" ⟨[.ref it,.none,.ref Z],[(Str.ofString "default",dv)]⟩) RR s:=by
 have zw:Z∉wr:=fun z=>hZ (WS.sub _ z);have sub:∀b∈wr,b∈Z::wr:=fun b z=>List.mem_cons_of_mem _ z;have nm:(toString "min" ++ toString ".loop" : String) = "min.loop" :=by decide
 have nz:∀ {b:Addr},b∉Z::wr->Z≠b:=fun z e=>z (by rw[e];exact List.mem_cons_self);refine codeAny_builtin PySem.F.entry_min_loop ?_;rw[Around.under_plainId PySem.F.plain_min_loop _];show wpAny (model prog w) B.in1 (seqItems? (.ref Z) >>= _) _ _ s;refine wpAny_bind (wpAny_seqItems hz rfl ?_);show wpAny (model prog w) B.in1 (tryCatch (pyNext (.ref it)) _ >>= _) _ _ s;rcases Nat.eq_zero_or_pos n with z0|zp
 ·refine wpAny_bind (wpAny_tryCatch (WS.done s _ _ (by rw[z0];exact sv) fun s' mv=>?_));refine wpAny_bind (wpAny_rule ?_);exact wpAny_pure (none z0 s' (mv.mono sub))
 ·refine wpAny_bind (wpAny_tryCatch (WS.item 0 s _ _ zp sv fun v s' pv sv' mv=>?_));have hz':=mv.heap Z _ zw hz;show wpAny (model prog w) B.in1 (updateSeq Z (fun _=>#[v,v]) >>= _) _ _ _;refine wpAny_bind ?_;refine wpAny_updateSeq hz' rfl ?_;rw[nm];refine wpAny_pure ⟨plainId_quiet PySem.F.plain_min_loop _,z6k WS bt hcm Z hZ _ 0 _ v _ rfl zp ?_ pv (Heap.get?_update_self _ hz' rfl) fun v2 s2 p2 m2=>?_⟩
  ·exact WS.frame _ s' _ s'.toks sv' (Nat.le_refl _) fun b z o e=>(Heap.get?_update_other _ _ (fun q:Z=b=>hZ (by rw[q];exact z))).trans e
  ·refine fin zp v2 s2 p2 (Moved.trans WS.gtrans ?_ m2);exact (mv.mono sub).then_heap (Nat.le_refl _) fun b o z e=>(Heap.get?_update_other _ _ (nz z)).trans e
theorem z6l {s:Shared} {E:Value->Shared->Prop} {Q:Value->Shared->Prop} {l:Addr} {xs:Array (Int×Tok)} {dv:Value} (hh:B.handled=none) (hl:s.heap.IsList l (intItems xs))
  (h0:xs.size=0->∀h' tk,(∀b o,s.heap.get? b=some o->h'.get? b=some o)->Q dv { s with heap:=h',toks:=tk })
  (h1:0<xs.size->∀v h' tk,(intItems xs)[argBest (fun i j=>decide (numAt xs i<numAt xs j)) (xs.size-1)]?=some v->(∀b o,s.heap.get? b=some o->h'.get? b=some o)->Q v { s with heap:=h',toks:=tk }) :
  wpAny (model prog w) B (call (.builtin "min") [.ref l] [(Str.ofString "default",dv)]) Q E s:=by
 have nm:(toString "min" ++ toString ".loop" : String) = "min.loop" :=by decide
 refine PyProof.Rows.kmb_tree PySem.F.kind_min PySem.F.plain_min PySem.F.entry_min (z6m _ _) ?_;show wpAny (model prog w) B.in1 (Builtin.Builtins.bindParams "min" ["key", "default"] 0 ⟨[],[(Str.ofString "default",dv)]⟩ >>= _) _ _ s;refine wpAny_bind (wpAny_of_eq (show Builtin.Builtins.bindParams "min" ["key", "default"] 0 ⟨[],[(Str.ofString "default",dv)]⟩=pure [none,some dv] from rfl) ?_);refine wpAny_bind (wpAny_pure ?_);refine wpAny_bind (iter_intList hl fun s2 e st hfp ne=>?_);refine wpAny_bind (wpAny_newObj_type ?_);have WS:=(Walks.list (prog:=prog) (w:=w) (A:=B.in1) hh s.heap.objs.size l ne (intItems xs)).toS;have hZ:s2.heap.objs.size∉[s.heap.objs.size,l]:=fun z=>Nat.lt_irrefl _ (hfp _ z);have sz:(intItems xs).size=xs.size:=by simp [intItems]
 rw[nm];subst e;have keep:∀ {s3:Shared} {s4:Shared} {wr:List Addr} {GG:Array GenState->Array GenState->Prop},Moved wr GG s3 s4->True:=fun _=>trivial;refine wpAny_pure ⟨plainId_quiet PySem.F.plain_min_loop _,z5L WS _ (CmpOf.ints_lt (numAt xs) fun _ _=>intItems_at) _ hZ (c:=0) (WS.frame 0 _ _ _ st (Nat.le_refl _) fun b _ o e=>Heap.get?_push_of_some _ e) (Heap.get?_push_size _ rfl) (fun z s' mv=>?_) (fun z v s' pv mv=>?_)⟩
 ·rw[Moved.eq_with mv];refine h0 (by omega) s'.heap s'.toks fun b o e=>?_;have lt:=Heap.lt_size e;refine mv.heap b o (fun q=>?_) (Heap.get?_push_of_some _ (Heap.get?_push_of_some _ e));rcases List.mem_cons.mp q with q|q
  ·subst q;exact absurd lt (by show ¬(s.heap.push _).objs.size<s.heap.objs.size;rw[Heap.size_push];exact Nat.not_lt.mpr (Nat.le_succ _))
  ·exact absurd lt (by rw[List.mem_singleton.mp q];exact Nat.lt_irrefl _)
 ·rw[Moved.eq_with mv];rw[sz] at pv z;refine h1 z v s'.heap s'.toks pv fun b o e=>?_;have lt:=Heap.lt_size e;refine mv.heap b o (fun q=>?_) (Heap.get?_push_of_some _ (Heap.get?_push_of_some _ e));rcases List.mem_cons.mp q with q|q
  ·subst q;exact absurd lt (by show ¬(s.heap.push _).objs.size<s.heap.objs.size;rw[Heap.size_push];exact Nat.not_lt.mpr (Nat.le_succ _))
  ·exact absurd lt (by rw[List.mem_singleton.mp q];exact Nat.lt_irrefl _)
end
noncomputable def y1A (K:PySem.W.Frag) (tl td:TE):TE:=fun σ H Q=>tl σ H fun x H1=>td σ H1 fun d H2=>∃(a:Addr) (ns:List Int),x=.ref a/\SqL K H2 a (ns.map V.int)/\(ns=[]->Q d H2)/\∀M,M∈ns->(∀z∈ns,M<=z)->Q (.int M) H2
section
variable {X:Cx}
theorem y0E {l e:Expr} {tl td:TE} {p pos kp:Pos} (hc:X.calm=true) (hg:Gl X "min") (hm:X.mg "min" = none) (hl:PE X l tl) (he:PE X e td) (hs:starEach [l] X.env=[(false,eval l X.env)]:=by rfl) :
  PE X (.Call (.Name "min" p) [l] [⟨some (Str.ofString "default"),e,kp⟩] pos) (y1A X.K tl td):=by
 intro pins s σ H Q I h;refine wpAny_Call_Name_kw (vC I hg hm (u:=.builtin "min") (by decide +kernel) ?_);refine PyProof.Rows.callWith_kw (env:=X.env) (e:=l) (rest:=[]) (kws:=[⟨some (Str.ofString "default"),e,kp⟩]) ?_ (he:=by rw[hs];rfl) (hplain:=by rw[hs];rfl);refine thn ((zB hl zE hs) pos pins s σ H (fun vs H1=>∃x,vs=[x]/\td σ H1 fun d H2=>∃(a:Addr) (ns:List Int),x=.ref a/\SqL X.K H2 a (ns.map V.int)/\(ns=[]->Q d H2)/\∀M,M∈ns->(∀z∈ns,M<=z)->Q (.int M) H2) I ?_) fun us s1 ⟨vs,H1,I1,r,x,e1,q⟩=>?_
 ·show tl σ H fun x H1=>∃y,[x]=[y]/\_;have e:(fun (x:V) (H1:Hp)=>∃y,[x]=[y]/\td σ H1 fun d H2=>∃(a:Addr) (ns:List Int),y=.ref a/\SqL X.K H2 a (ns.map V.int)/\(ns=[]->Q d H2)/\∀M,M∈ns->(∀z∈ns,M<=z)->Q (.int M) H2) =
    fun x H1=>td σ H1 fun d H2=>∃(a:Addr) (ns:List Int),x=.ref a/\SqL X.K H2 a (ns.map V.int)/\(ns=[]->Q d H2)/\∀M,M∈ns->(∀z∈ns,M<=z)->Q (.int M) H2:=by
   funext x H1;refine propext ⟨fun⟨y,e,q⟩=>?_,fun q=>⟨x,rfl,q⟩⟩;cases e;exact q
  rw[e];exact h
 subst e1;obtain⟨u,rfl,r1⟩:=Vals.one r;refine thn ((y0C he y1Y) pos pins s1 σ H1 (fun ws H2=>∃d,ws=[d]/\∃(a:Addr) (ns:List Int),x=.ref a/\SqL X.K H2 a (ns.map V.int)/\(ns=[]->Q d H2)/\∀M,M∈ns->(∀z∈ns,M<=z)->Q (.int M) H2) I1 ?_) fun ws s2 ⟨zs,H2,I2,rz,d,ed,a,ns,ea,hq,q0,q1⟩=>?_
 ·show td σ H1 fun d H2=>∃d',[d]=[d']/\_;have e:(fun (d:V) (H2:Hp)=>∃d',[d]=[d']/\∃(a:Addr) (ns:List Int),x=.ref a/\SqL X.K H2 a (ns.map V.int)/\(ns=[]->Q d' H2)/\∀M,M∈ns->(∀z∈ns,M<=z)->Q (.int M) H2) =
    fun d H2=>∃(a:Addr) (ns:List Int),x=.ref a/\SqL X.K H2 a (ns.map V.int)/\(ns=[]->Q d H2)/\∀M,M∈ns->(∀z∈ns,M<=z)->Q (.int M) H2:=by
   funext x H1;refine propext ⟨fun⟨y,e,q⟩=>?_,fun q=>⟨x,rfl,q⟩⟩;cases e;exact q
  rw[e];exact q
 subst ed ea;obtain⟨dv,rfl,rd⟩:=Vals.one rz;cases r1;obtain⟨its,rv,pl,hz⟩:=I2.list hq;have hi:IntsAre its ns:=qk rv;obtain⟨xs,ex⟩:=hi.allInts.items;have hns:ns=xs.toList.map (·.1):=by rw[←hi.numsOf,←nums_intItems,←ex]
 have hsz:xs.size=ns.length:=by rw[hns,List.length_map,Array.length_toList]
 have hl:=pl.isList;rw[ex] at hl;show wpAny (model X.prog X.w) X.A (call (.builtin "min") [.ref a] [(Str.ofString "default",dv)]) _ _ _;refine z6l (I.ok.hd hc) hl (fun z h' tk k=>?_) (fun z v h' tk hv k=>?_)
 ·exact⟨d,H2,I2.kept k,rd,q0 (List.eq_nil_of_length_eq_zero (by omega))⟩
 ·obtain⟨t,rfl⟩:=intItems_at hv;obtain⟨b1,b2⟩:=argBest_lt (numAt xs) (xs.size-1);refine⟨.int _,H2,I2.kept k,⟨t,rfl⟩,q1 _ ?_ fun y hy=>?_⟩
  ·rw[hns,numAt_eq];exact getD_mem (by rw[List.length_map,Array.length_toList];omega)
  ·rw[hns] at hy;obtain⟨j,hj,rfl⟩:=mem_getD hy;rw[List.length_map,Array.length_toList] at hj;rw[←numAt_eq];exact b2 j (by omega)
end
theorem kO {K:PySem.W.Frag} {tl td:TE} {σ:St} {H:Hp} {Q:VK}:y1A K tl td σ H Q=tl σ H fun x H1=>td σ H1 fun d H2=>∃(a:Addr) (ns:List Int),x=.ref a/\SqL K H2 a (ns.map V.int)/\(ns=[]->Q d H2)/\∀M,M∈ns->(∀z∈ns,M<=z)->Q (.int M) H2:=rfl
section
variable {prog:Program} {w:World} {B:Around} {it:Addr} {fp wr:List Addr} {GG:Array GenState->Array GenState->Prop} {n:Nat} {PV:Nat->Value->Prop} {SV:Nat->Shared->Prop} {RR:Result->Shared->Prop}
end
noncomputable def y2W (K:PySem.W.Frag) (tl td:TE):TE:=fun σ H Q=>tl σ H fun x H1=>td σ H1 fun d H2=>∃(a:Addr) (ns:List Int),x=.ref a/\SqL K H2 a (ns.map V.int)/\(ns=[]->Q d H2)/\∀M,M∈ns->(∀z∈ns,z<=M)->Q (.int M) H2
section
variable {X:Cx}
end
theorem kQ {K:PySem.W.Frag} {tl td:TE} {σ:St} {H:Hp} {Q:VK}:y2W K tl td σ H Q=tl σ H fun x H1=>td σ H1 fun d H2=>∃(a:Addr) (ns:List Int),x=.ref a/\SqL K H2 a (ns.map V.int)/\(ns=[]->Q d H2)/\∀M,M∈ns->(∀z∈ns,z<=M)->Q (.int M) H2:=rfl
noncomputable def CapOk (X:Cx) (scope:Scope):List Str->List Nat->List (Str×Addr)->Prop
 | [],[],[]=>True
 | y::ys,j::js,(n,a)::r=>n=y/\X.N[j]?=some y/\X.env.scope.names.lookup y=some .cell/\X.env.cells.lookup y=some a/\scope.names.lookup y=some .free/\CapOk X scope ys js r
 | _,_,_=>False
theorem CapOk.inn {X:Cx} {scope:Scope}:∀ {ys:List Str} {js:List Nat} {cl:List (Str×Addr)},CapOk X scope ys js cl->∀y c,cl.lookup y=some c->X.env.cells.lookup y=some c
 | [],[],[],_,y,c,e=>nomatch e
 | y::ys,j::js,(n,a)::r,⟨hn,_,_,h,_,t⟩,z,c,e=>by
  subst hn;rw[List.lookup_cons] at e;cases q:z == n with
  | true=>
   rw[q] at e;have:z=n:=by simpa using q
   subst this;exact h.trans e
  | false=>
   rw[q] at e;exact CapOk.inn t z c e
theorem CapOk.mem {X:Cx} {scope:Scope}:∀ {ys:List Str} {js:List Nat} {cl:List (Str×Addr)},CapOk X scope ys js cl->∀y∈ys,∃c,cl.lookup y=some c
 | [],[],[],_,y,h=>nomatch h
 | y::ys,j::js,(n,a)::r,⟨hn,_,_,_,_,t⟩,z,e=>by
  subst hn;rw[List.lookup_cons];cases q:z == n with
  | true=>exact⟨_,rfl⟩
  | false=>
   rcases List.mem_cons.mp e with e|e
   ·subst e;simp at q
   ·exact CapOk.mem t z e
theorem CapOk.len {X:Cx} {scope:Scope}:∀ {ys:List Str} {js:List Nat} {cl:List (Str×Addr)},CapOk X scope ys js cl->ys.length=js.length
 | [],[],[],_=>rfl
 | _::_,_::_,(_,_)::_,⟨_,_,_,_,_,t⟩=>congrArg (· + 1) (CapOk.len t)
theorem CapOk.at {X:Cx} {scope:Scope}:∀ {ys:List Str} {js:List Nat} {cl:List (Str×Addr)},CapOk X scope ys js cl->∀(k:Nat) (y:Str),ys[k]?=some y->
  ∃j,js[k]?=some j/\X.N[j]?=some y/\X.env.scope.names.lookup y=some .cell/\scope.names.lookup y=some .free
 | [],[],[],_,k,y,e=>by simp at e
 | y::ys,j::js,(n,a)::r,⟨hn,h1,h2,_,h3,t⟩,k,z,e=>by
  subst hn;cases k with
  | zero=>cases e;exact⟨j,rfl,h1,h2,h3⟩
  | succ k=>exact CapOk.at t k z e
theorem yy {α:Type}:∀ {l:List (Str×α)} {y:Str} {k:α},l.lookup y=some k->(y,k)∈l
  | [],_,_,e=>nomatch e
  | (n,q)::r,y,k,e=>by
    rw[List.lookup_cons] at e;cases hy:y == n with
    | true=>
      rw[hy] at e;have:y=n:=by simpa using hy
      subst this;cases e;exact .head _
    | false=>
      rw[hy] at e;exact .tail _ (yy e)
theorem qw {env:Env}:∀ {names:List (Str×NameKind)} {x:Str},names.lookup x=some .free->
    (names.map fun (n,k)=>if (k == NameKind.free && env.scope.kind == .function && env.kindOf n == some .cell) then (n,NameKind.cell) else (n,k)).lookup x=some .cell∨
    (names.map fun (n,k)=>if (k == NameKind.free && env.scope.kind == .function && env.kindOf n == some .cell) then (n,NameKind.cell) else (n,k)).lookup x=some .free
  | [],_,h=>nomatch h
  | (n,k)::r,x,h=>by
    rw[List.lookup_cons] at h;rw[List.map_cons];cases hy:x == n with
    | true=>
      rw[hy] at h;cases h;dsimp only;split
      · left;rw[List.lookup_cons,hy]
      · right;rw[List.lookup_cons,hy]
    | false=>
      rw[hy] at h;have ih:=qw (env:=env) h;dsimp only;split
      · rw[List.lookup_cons,hy];exact ih
      · rw[List.lookup_cons,hy];exact ih
theorem CompSc.capt {X:Cx} {own capt:List Str} {scope:Scope} {cl:List (Str×Addr)} {fr:List Nat} (clo:closureFor scope X.env=pure cl) (ok:CapOk X scope capt fr cl) (h1:∀z∈scope.names,z.2=.free->z.1∈capt)
  (h2:∀y∈scope.names,y.2≠.cell) (kind:scope.kind=.function) (names:∀y∈scope.names,y.2=.local->scope.names.lookup y.1=some .local):CompSc X own capt scope cl fr where
 clos:=clo
 nocell:=h2
 kind:=kind
 names:=names
 inn:=ok.inn
 has:=fun y e=>by
  refine ok.mem y ?_;have key:∃k,(y,k)∈(relabel scope X.env).names/\(k=.cell∨k=.free):=by
   rcases e with e|e
   ·exact⟨_,yy e,.inl rfl⟩
   ·exact⟨_,yy e,.inr rfl⟩
  obtain⟨k,hm,hk⟩:=key;unfold relabel at hm;obtain⟨⟨n,k0⟩,h3,h4⟩:=List.mem_map.mp hm;have h5:n=y/\k0=.free:=by
   dsimp only at h4;split at h4
   ·rename_i c
    cases h4;simp only [Bool.and_eq_true,beq_iff_eq] at c;exact⟨rfl,c.1.1⟩
   ·cases h4;rcases hk with rfl|rfl
    ·exact absurd rfl (h2 _ h3)
    ·exact⟨rfl,rfl⟩
  obtain⟨rfl,rfl⟩:=h5;exact h1 _ h3 rfl
 cap:=fun k y e=>by
  obtain⟨j,e1,e2,e3,e4⟩:=ok.at k y e;obtain⟨c,hc⟩:=ok.mem y (List.mem_of_getElem? e);exact⟨j,c,e1,e2,e3,hc,qw e4⟩
 len:=ok.len
end L2
namespace SM
noncomputable def zx (a b:Int):Int:=(Int.gcd a b:Int)
theorem z2b {a:Int} (h:0<=a):zx a 0=a:=by
 unfold zx;rw[Int.gcd_zero_right];omega
theorem vK (a b:Int):zx a b=zx b a:=by unfold zx;rw[Int.gcd_comm]
theorem z2c (a b:Int):zx b (a%b)=zx a b:=by
 unfold zx;have e:a=b*(a/b)+a%b:=(Int.mul_ediv_add_emod a b).symm;have:Int.gcd a b=Int.gcd (a%b) b:=by
  conv=>lhs;rw[e]
  rw[Int.gcd_mul_left_add_left]
 rw[this,Int.gcd_comm]
theorem yN (a b:Int):zx a b∣a:=Int.gcd_dvd_left ..
theorem yA (a b:Int):zx a b∣b:=Int.gcd_dvd_right ..
theorem wG {k a b:Int} (h1:k∣a) (h2:k∣b):k∣zx a b:=Int.dvd_coe_gcd h1 h2
theorem y8 {a b:Int} (h:a≠0∨b≠0):0<zx a b:=by
 unfold zx;rcases h with h|h
 ·have:=Int.gcd_pos_of_ne_zero_left b h;omega
 ·have:=Int.gcd_pos_of_ne_zero_right a h;omega
theorem jJ {a:Int} (b:Int) (h:0<a):zx a b<=a:=Int.gcd_le_left b h
theorem z4x (a b:Int) (ha:0<=a) (hb:0<=b):∃x y,zx a b=a*x+b*y:=by
 by_cases h:b=0
 ·subst h;exact⟨1,0,by rw[z2b ha];omega⟩
 ·have m1:=Int.emod_nonneg a h;have m2:=Int.emod_lt_of_pos a (show 0<b by omega);obtain⟨x,y,e⟩:=z4x b (a%b) hb m1;refine⟨y,x-(a/b)*y,?_⟩;rw[←z2c,e];have q:=Int.mul_ediv_add_emod a b;have:a*y=b*(a/b)*y+a%b*y:=by rw[←Int.add_mul,q]
  rw[Int.mul_sub,←Int.mul_assoc];omega
termination_by b.toNat
decreasing_by omega
noncomputable def qR (a b:Int):Int:=a*(b/zx a b)
theorem z3S {a b:Int} (ha:1<=a) (hb:1<=b):qR a b=(Int.lcm a b:Int):=by
 have g:=y8 (a:=a) (b:=b) (by omega);have d:=yA a b;have e:zx a b*(Int.lcm a b:Int)=a*b:=by
  have:=Int.gcd_mul_lcm a b;have h2:((Int.gcd a b*Int.lcm a b:Nat):Int)=((a.natAbs*b.natAbs:Nat):Int):=by rw[this]
  rw[Int.natCast_mul,Int.natCast_mul] at h2;have h3:((a.natAbs:Nat):Int)=a:=by omega
  have h4:((b.natAbs:Nat):Int)=b:=by omega
  rw[h3,h4] at h2;exact h2
 unfold qR;obtain⟨k,hk⟩:=d;have:b/zx a b=k:=by
  conv=>lhs;lhs;rw[hk]
  exact Int.mul_ediv_cancel_left k (by omega)
 rw[this];have e2:zx a b*(a*k)=zx a b*(Int.lcm a b:Int):=by
  rw[e];conv=>rhs;rw[hk]
  rw[←Int.mul_assoc,←Int.mul_assoc,Int.mul_comm (zx a b) a]
 exact Int.eq_of_mul_eq_mul_left (by omega) e2
theorem qE {a b:Int} (ha:1<=a) (hb:1<=b):1<=qR a b:=by
 rw[z3S ha hb];have:=Int.lcm_pos (m:=a) (n:=b) (by omega) (by omega);omega
theorem y0Q {a b:Int} (ha:1<=a) (hb:1<=b):qR a b<=a*b:=by
 unfold qR;have g:=y8 (a:=a) (b:=b) (by omega);have:b/zx a b<=b:=Int.ediv_le_self _ (by omega);exact Int.mul_le_mul_of_nonneg_left this (by omega)
theorem z1Y (a b:Int):a∣qR a b:=⟨_,rfl⟩
theorem v4 {a b:Int} (ha:1<=a) (hb:1<=b):b∣qR a b:=by rw[z3S ha hb];exact Int.dvd_lcm_right ..
theorem z4b {a b k:Int} (ha:1<=a) (hb:1<=b) (h1:a∣k) (h2:b∣k):qR a b∣k:=by rw[z3S ha hb];exact Int.coe_lcm_dvd h1 h2
noncomputable def yV (xs:List Int):Int:=xs.foldl qR 1
theorem qI:∀(xs:List Int) (a:Int),1<=a->(∀x∈xs,1<=x)->1<=xs.foldl qR a
 | [],_,h,_=>h
 | x::r,a,h,hx=>qI r (qR a x) (qE h (hx x (by simp))) fun y hy=>hx y (by simp [hy])
theorem qJ {k:Int}:∀(xs:List Int) (a:Int),1<=a->(∀x∈xs,1<=x)->(xs.foldl qR a∣k ↔ a∣k/\∀x∈xs,x∣k)
 | [],a,h,_=>by simp
 | x::r,a,h,hx=>by
  have x1:=hx x (by simp);rw[List.foldl_cons,qJ r (qR a x) (qE h x1) fun y hy=>hx y (by simp [hy])];constructor
  ·rintro⟨h1,h2⟩;refine⟨Int.dvd_trans (z1Y a x) h1,fun y hy=>?_⟩;rcases List.mem_cons.mp hy with e|hy
   ·rw[e];exact Int.dvd_trans (v4 h x1) h1
   ·exact h2 y hy
  ·rintro⟨h1,h2⟩;exact⟨z4b h x1 h1 (h2 x (by simp)),fun y hy=>h2 y (by simp [hy])⟩
theorem yL {xs:List Int} (hx:∀x∈xs,1<=x):1<=yV xs:=qI xs 1 (by omega) hx
theorem zy {xs:List Int} {k:Int} (hx:∀x∈xs,1<=x):yV xs∣k ↔ ∀x∈xs,x∣k:=by
 unfold yV;rw[qJ xs 1 (by omega) hx];exact⟨fun h=>h.2,fun h=>⟨Int.one_dvd k,h⟩⟩
theorem yT {xs:List Int} (hx:∀x∈xs,1<=x):∀x∈xs,x∣yV xs:=(zy hx).mp (Int.dvd_refl _)
theorem kF {a b:Int} (ha:1<=a) (hb:1<=b) (h1:a∣b) (h2:b∣a):a=b:=by
 have:=Int.le_of_dvd (by omega) h1;have:=Int.le_of_dvd (by omega) h2;omega
theorem z6o (xs:List Int) (x:Int):yV (xs++[x])=qR (yV xs) x:=by unfold yV;rw[List.foldl_append];rfl
theorem kB {B:Int} (hB:1<=B):∀(xs:List Int) (a:Int),1<=a->(∀x∈xs,1<=x/\x<=B)->xs.foldl qR a<=a*B^xs.length
 | [],a,h,_=>by simp
 | x::r,a,h,hx=>by
  have x1:=hx x (by simp);have ih:=kB hB r (qR a x) (qE h x1.1) fun y hy=>hx y (by simp [hy]);have l:=y0Q h x1.1;have p:(0:Int)<=B^r.length:=Int.pow_nonneg (by omega);rw[List.foldl_cons,List.length_cons];refine Int.le_trans ih ?_;have m1:qR a x<=a*B:=Int.le_trans l (Int.mul_le_mul_of_nonneg_left x1.2 (by omega));have m2:=Int.mul_le_mul_of_nonneg_right m1 p;rw[Int.pow_succ,Int.mul_comm (B^r.length) B,←Int.mul_assoc];exact m2
theorem z6p {B:Int} (hB:1<=B) {xs:List Int} (hx:∀x∈xs,1<=x/\x<=B):yV xs<=B^xs.length:=by
 have:=kB hB xs 1 (by omega) hx;rw[Int.one_mul] at this;exact this
noncomputable def j9 (n b:Int):Int:=-((-n)/b)
theorem jK {n b:Int} (hb:0<b):n<=b*j9 n b/\b*j9 n b<n+b:=by
 unfold j9;have h1:=Int.mul_ediv_add_emod (-n) b;have h2:=Int.emod_nonneg (-n) (show b≠0 by omega);have h3:=Int.emod_lt_of_pos (-n) hb;rw[Int.mul_neg];omega
theorem z1c {n b k:Int} (hb:0<b) (h:n<=b*k):j9 n b<=k:=by
 have:=(jK (n:=n) hb).2;by_cases c:j9 n b<=k
 ·exact c
 ·exfalso;have h1:k+1<=j9 n b:=by omega
  have h2:=Int.mul_le_mul_of_nonneg_left h1 (Int.le_of_lt hb);rw[Int.mul_add,Int.mul_one] at h2;omega
theorem vO {n b:Int} (hb:0<b) (h:0<=n):0<=j9 n b:=by
 have h1:=(jK (n:=n) hb).1;by_cases c:0<=j9 n b
 ·exact c
 ·exfalso;have h2:=Int.mul_le_mul_of_nonneg_left (show j9 n b<=-1 by omega) (Int.le_of_lt hb);rw[Int.mul_neg,Int.mul_one] at h2;omega
noncomputable def z4j (w a lo n:Int):Option Int:=
 if h:a<=0 then none
 else if a*j9 lo a<=lo+n-1 then some (j9 lo a)
 else (z4j a (w%a) ((-(lo+n-1))%a) n).map fun j=>j9 (w*j+lo) a
termination_by a.toNat
decreasing_by
 have h1:=Int.emod_nonneg w (show a≠0 by omega);have h2:=Int.emod_lt_of_pos w (show 0<a by omega);omega
noncomputable def z9f (w a lo n i:Int):Prop:=(a*i-lo)%w<n
noncomputable def LeastOf (p:Int->Prop):Option Int->Prop
 | some i=>0<=i/\p i/\∀k,0<=k->k<i->¬p k
 | none=>∀k,0<=k->¬p k
theorem LeastOf.uniq {p q:Int->Prop} (e:∀k,0<=k->(p k ↔ q k)) {r t:Option Int} (h:LeastOf p r) (g:LeastOf q t):r=t:=by
 cases r with
 | none=>cases t with
  | none=>rfl
  | some j=>exact absurd ((e j g.1).mpr g.2.1) (h j g.1)
 | some i=>cases t with
  | none=>exact absurd ((e i h.1).mp h.2.1) (g i h.1)
  | some j=>
   have h1:=h.2.2 j g.1;have h2:=g.2.2 i h.1;have h3:=(e j g.1).mpr g.2.1;have h4:=(e i h.1).mp h.2.1;have:i=j:=by
    rcases Int.lt_trichotomy i j with c|c|c
    ·exact absurd h4 (h2 c)
    ·exact c
    ·exact absurd h3 (h1 c)
   rw[this]
theorem vq {x w n:Int} (hw:0<w) (hn:n<=w):x%w<n ↔ ∃j,w*j<=x/\x<w*j+n:=by
 have h1:=Int.mul_ediv_add_emod x w;have h2:=Int.emod_nonneg x (show w≠0 by omega);have h3:=Int.emod_lt_of_pos x hw;constructor
 ·intro h;exact⟨x/w,by omega,by omega⟩
 ·rintro⟨j,a,b⟩;have e:x%w=x-w*j:=by
   have z:(x-w*j)%w=x-w*j:=Int.emod_eq_of_lt (by omega) (by omega);rw[Int.sub_mul_emod_self_left] at z;exact z
  omega
theorem z6v {w a lo n:Int} (h:a<=0):z4j w a lo n=none:=by rw[z4j,dif_pos h]
theorem z6x {w a lo n:Int} (h:0<a) (h2:a*j9 lo a<=lo+n-1):z4j w a lo n=some (j9 lo a):=by rw[z4j,dif_neg (by omega),if_pos h2]
theorem z2V {w a lo n:Int} (h:0<a) (h2:¬a*j9 lo a<=lo+n-1):z4j w a lo n=(z4j a (w%a) ((-(lo+n-1))%a) n).map fun j=>j9 (w*j+lo) a:=by
 rw[z4j,dif_neg (by omega),if_neg h2]
structure Lvl (w a lo n:Int):Prop where
 a0:0<=a
 aw:a<w
 n1:1<=n
 l1:1<=lo
 l2:lo+n<=w
theorem Lvl.down {w a lo n:Int} (L:Lvl w a lo n) (h:0<a) (h2:¬a*j9 lo a<=lo+n-1):Lvl a (w%a) ((-(lo+n-1))%a) n:=by
 obtain⟨a0,aw,n1,l1,l2⟩:=L;have c1:=jK (n:=lo) h;have e1:=Int.emod_nonneg w (show a≠0 by omega);have e2:=Int.emod_lt_of_pos w h;have m1:=Int.emod_nonneg (-(lo+n-1)) (show a≠0 by omega);have m2:=Int.emod_lt_of_pos (-(lo+n-1)) h;have m3:=Int.mul_ediv_add_emod (-(lo+n-1)) a;generalize hq:(-(lo+n-1))/a=q at m3;generalize (-(lo+n-1))%a=r at m1 m2 m3 ⊢;have k:-q=j9 lo a∨-q≠j9 lo a:=by omega
 have e:a*(-q)=lo+n-1+r:=by rw[Int.mul_neg];omega
 have cq:j9 lo a<=-q:=z1c h (by omega);have cq2:-q<=j9 lo a:=by
  by_cases z:-q<=j9 lo a
  ·exact z
  ·exfalso;have:=Int.mul_le_mul_of_nonneg_left (show j9 lo a+1<=-q by omega) (Int.le_of_lt h);rw[Int.mul_add,Int.mul_one] at this;omega
 have cq3:-q=j9 lo a:=by omega
 rw[cq3] at e;exact⟨e1,e2,n1,by omega,by omega⟩
theorem vI {w a lo n:Int} (L:Lvl w a lo n) (h:0<a) {j:Int}:z9f a (w%a) ((-(lo+n-1))%a) n j ↔ ∃i,w*j+lo<=a*i/\a*i<=w*j+lo+n-1:=by
 obtain⟨a0,aw,n1,l1,l2⟩:=L;unfold z9f;have e:(w%a*j-(-(lo+n-1))%a)%a=(w*j+(lo+n-1))%a:=by
  have x1:=Int.mul_ediv_add_emod w a;have x2:=Int.mul_ediv_add_emod (-(lo+n-1)) a;generalize hq1:w/a=q1 at x1;generalize hq2:(-(lo+n-1))/a=q2 at x2;generalize hr1:w%a=r1 at x1 ⊢;generalize hr2:(-(lo+n-1))%a=r2 at x2 ⊢;have:w*j+(lo+n-1)=(r1*j-r2)+a*(q1*j-q2):=by
   rw[←x1,Int.mul_sub,Int.add_mul,Int.mul_assoc];omega
  rw[this,Int.add_mul_emod_self_left]
 rw[e];constructor
 ·intro z;have x1:=Int.mul_ediv_add_emod (w*j+(lo+n-1)) a;have x2:=Int.emod_nonneg (w*j+(lo+n-1)) (show a≠0 by omega);exact⟨(w*j+(lo+n-1))/a,by omega,by omega⟩
 ·rintro⟨i,i1,i2⟩;by_cases na:n<=a
  ·exact (vq h na).mpr ⟨i,by omega,by omega⟩
  ·have:=Int.emod_lt_of_pos (w*j+(lo+n-1)) h;omega
theorem jT {w a lo n:Int} (L:Lvl w a lo n) {i:Int} (hi:0<=i):z9f w a lo n i ↔ ∃j,0<=j/\w*j+lo<=a*i/\a*i<=w*j+lo+n-1:=by
 obtain⟨a0,aw,n1,l1,l2⟩:=L;unfold z9f;rw[vq (by omega) (by omega)];constructor
 ·rintro⟨j,j1,j2⟩;refine⟨j,?_,by omega,by omega⟩;have p:=Int.mul_nonneg a0 hi;by_cases c:0<=j
  ·exact c
  ·exfalso;have:=Int.mul_le_mul_of_nonneg_left (show j<=-1 by omega) (show (0:Int)<=w by omega);rw[Int.mul_neg,Int.mul_one] at this;omega
 ·rintro⟨j,_,j1,j2⟩;exact⟨j,by omega,by omega⟩
theorem vw {w a lo n:Int} (L:Lvl w a lo n):LeastOf (z9f w a lo n) (z4j w a lo n):=by
 by_cases h:0<a
 ·have c1:=jK (n:=lo) h;have c0:=vO (n:=lo) h (by have:=L.l1;omega);by_cases h2:a*j9 lo a<=lo+n-1
  ·rw[z6x h h2];refine⟨c0,(jT L c0).mpr ⟨0,Int.le_refl 0,by omega,by omega⟩,fun k k0 k1 hk=>?_⟩;obtain⟨j,j0,j1,j2⟩:=(jT L k0).mp hk;have wj:=Int.mul_nonneg (show (0:Int)<=w by have:=L.a0;have:=L.aw;omega) j0;have:=z1c (n:=lo) h (k:=k) (by omega);omega
  ·rw[z2V h h2];have D:=L.down h h2;have ih:=vw D;have w0:(0:Int)<=w:=by have:=L.a0;have:=L.aw;omega
   cases e:z4j a (w%a) ((-(lo+n-1))%a) n with
   | none=>
    rw[e] at ih;show ∀k,0<=k->¬_;intro k k0 hk;obtain⟨j,j0,j1,j2⟩:=(jT L k0).mp hk;exact ih j j0 ((vI L h).mpr ⟨k,j1,j2⟩)
   | some j=>
    rw[e] at ih;obtain⟨j0,jh,jl⟩:=ih;obtain⟨i,i1,i2⟩:=(vI L h).mp jh;have wj:=Int.mul_nonneg w0 j0;have s:=jK (n:=w*j+lo) h;have sle:=z1c (n:=w*j+lo) h i1;have sm:=Int.mul_le_mul_of_nonneg_left sle (Int.le_of_lt h);have s0:=vO (n:=w*j+lo) h (by have:=L.l1;omega);refine⟨s0,(jT L s0).mpr ⟨j,j0,s.1,by omega⟩,fun k k0 k1 hk=>?_⟩;obtain⟨j',j0',j1',j2'⟩:=(jT L k0).mp hk;have hj:=(vI L h).mpr ⟨k,j1',j2'⟩;have jj:j<=j':=by
     by_cases c:j<=j'
     ·exact c
     ·exact absurd hj (jl j' j0' (by omega))
    have:=Int.mul_le_mul_of_nonneg_left jj w0;have:=z1c (n:=w*j+lo) h (k:=k) (by omega);have k1':k<j9 (w*j+lo) a:=k1;omega
 ·rw[z6v (by omega)];intro k k0 hk;obtain⟨j,j0,j1,j2⟩:=(jT L k0).mp hk;have a00:a=0:=by have:=L.a0;omega
  have w0:(0:Int)<=w:=by have:=L.a0;have:=L.aw;omega
  have wj:=Int.mul_nonneg w0 j0;have:=L.l1;rw[a00,Int.zero_mul] at j1;omega
termination_by a.toNat
decreasing_by
 have h1:=Int.emod_nonneg w (show a≠0 by omega);have h2:=Int.emod_lt_of_pos w (show 0<a by omega);omega
noncomputable def NoPart (n k:Int):Prop:=∀d,2<=d->d<k->¬d∣n
structure IsPart (n d:Int):Prop where
 two:2<=d
 dvd:d∣n
 least:NoPart n d
theorem vF {n p:Int} (h2:2<=n) (h:NoPart n p) (hp:0<=p) (hs:n<p*p):IsPart n n:=by
 refine⟨h2,Int.dvd_refl n,fun d d2 dn dd=>?_⟩;obtain⟨e,he⟩:=dd;have d0:0<d:=by omega
 have e2:2<=e:=by
  rcases (show e<=0∨e=1∨2<=e by omega) with c|c|c
  ·have:=Int.mul_le_mul_of_nonneg_left c (Int.le_of_lt d0);rw[Int.mul_zero] at this;omega
  ·subst c;omega
  ·exact c
 have hd:p<=d:=by
  by_cases c:p<=d
  ·exact c
  ·exact absurd ⟨e,he⟩ (h d d2 (by omega))
 have hee:p<=e:=by
  by_cases c:p<=e
  ·exact c
  ·exact absurd ⟨d,by rw[Int.mul_comm];exact he⟩ (h e e2 (by omega))
 have:=Int.mul_le_mul hd hee hp (by omega);omega
theorem yB {n d:Int} (h:n%d≠0):¬d∣n:=fun z=>h (Int.emod_eq_zero_of_dvd z)
theorem NoPart.five {n:Int} (h2:n%2≠0) (h3:n%3≠0):NoPart n 5:=by
 intro d d2 d5 hd;rcases (show d=2∨d=3∨d=4 by omega) with e|e|e
 ·subst e;exact yB h2 hd
 ·subst e;exact yB h3 hd
 ·subst e;exact yB h2 (Int.dvd_trans (by decide) hd)
theorem NoPart.six {n p:Int} (h:NoPart n p) (h2:n%2≠0) (h3:n%3≠0) (hp:p%6=5) (a:n%p≠0) (b:n%(p+2)≠0):NoPart n (p+6):=by
 intro d d2 d6 hd;rcases (show d<p∨d=p∨d=p+1∨d=p+2∨d=p+3∨d=p+4∨d=p+5 by omega) with e|e|e|e|e|e|e
 ·exact h d d2 e hd
 ·subst e;exact yB a hd
 ·exact yB h2 (Int.dvd_trans (show (2:Int)∣d by omega) hd)
 ·subst e;exact yB b hd
 ·exact yB h2 (Int.dvd_trans (show (2:Int)∣d by omega) hd)
 ·exact yB h3 (Int.dvd_trans (show (3:Int)∣d by omega) hd)
 ·exact yB h2 (Int.dvd_trans (show (2:Int)∣d by omega) hd)
theorem NoPart.two_on {n p:Int} (h:NoPart n p) (h2:n%2≠0) (hp:p%6=5) (a:n%p≠0):NoPart n (p+2):=by
 intro d d2 d6 hd;rcases (show d<p∨d=p∨d=p+1 by omega) with e|e|e
 ·exact h d d2 e hd
 ·subst e;exact yB a hd
 ·exact yB h2 (Int.dvd_trans (show (2:Int)∣d by omega) hd)
theorem z6u {w a lo n i:Int}:z9f w a lo n (i-w) ↔ z9f w a lo n i:=by
 unfold z9f;have:a*(i-w)-lo=a*i-lo+w*(-a):=by rw[Int.mul_sub,Int.mul_neg,Int.mul_comm w a];omega
 rw[this,Int.add_mul_emod_self_left]
theorem z6w {w a lo n h:Int} (L:Lvl w a lo n) (e:z4j w a lo n=some h):0<=h/\h<w:=by
 have z:=vw L;rw[e] at z;refine⟨z.1,?_⟩;by_cases c:h<w
 ·exact c
 ·exact absurd (z6u.mpr z.2.1) (z.2.2 (h-w) (by omega) (by have:=L.a0;have:=L.aw;omega))
noncomputable abbrev T3:=Int×Int×Int
noncomputable def z5j (lv:List T3) (h:Int):Int:=lv.foldr (fun t h=>j9 (t.1*h+t.2.2) t.2.1) h
theorem z0B (lv:List T3) (w a lo h:Int):z5j (lv++[(w,a,lo)]) h=z5j lv (j9 (w*h+lo) a):=by unfold z5j;rw[List.foldr_append];rfl
inductive Down (n w0 a0 lo0:Int):List T3->Int->Int->Int->Prop
 | top:Down n w0 a0 lo0 [] w0 a0 lo0
 | go {lv:List T3} {w a lo:Int}:Down n w0 a0 lo0 lv w a lo->0<a->¬a*j9 lo a<=lo+n-1->Down n w0 a0 lo0 (lv++[(w,a,lo)]) a (w%a) ((-(lo+n-1))%a)
theorem Down.lvl {n w0 a0 lo0:Int} {lv:List T3} {w a lo:Int} (d:Down n w0 a0 lo0 lv w a lo) (L:Lvl w0 a0 lo0 n):Lvl w a lo n/\w<=w0/\∀t∈lv,0<t.2.1/\t.2.1<t.1/\t.1<=w0/\1<=t.2.2/\t.2.2<=w0:=by
 induction d with
 | top=>exact⟨L,Int.le_refl _,fun t ht=>nomatch ht⟩
 | @go lv w a lo d h h2 ih=>
  obtain⟨l,b,c⟩:=ih;refine⟨l.down h h2,by have:=l.aw;omega,fun t ht=>?_⟩;rcases List.mem_append.mp ht with z|z
  ·exact c t z
  ·have:t=(w,a,lo):=by simpa using z
   subst this;have:=l.aw;have:=l.l1;have:=l.l2;have:=l.n1;exact⟨h,by assumption,b,by assumption,by show lo<=w0;omega⟩
theorem Down.hit {n w0 a0 lo0:Int} {lv:List T3} {w a lo h:Int} (d:Down n w0 a0 lo0 lv w a lo) (L:Lvl w0 a0 lo0 n) (e:z4j w a lo n=some h) :
  z4j w0 a0 lo0 n=some (z5j lv h)/\∀i:Nat,0<=z5j (lv.drop i) h/\z5j (lv.drop i) h<w0:=by
 induction d generalizing h with
 | top=>
  have:=z6w L e;exact⟨e,fun i=>by rw[List.drop_nil];exact this⟩
 | @go lv w a lo d q q2 ih=>
  obtain⟨l,b,_⟩:=d.lvl L;have e2:z4j w a lo n=some (j9 (w*h+lo) a):=by rw[z2V q q2,e];rfl
  obtain⟨i1,i2⟩:=ih e2;refine⟨by rw[z0B];exact i1,fun i=>?_⟩;by_cases c:i<=lv.length
  ·rw[List.drop_append_of_le_length c,z0B];exact i2 i
  ·rw[List.drop_eq_nil_of_le (by simp;omega)];have:=z6w (l.down q q2) e;have:=l.aw;exact⟨by show 0<=h;omega,by show h<w0;omega⟩
theorem z8j {w a:Int} (h:0<a) (hw:a<w):2*(a*(w%a))<=w*a:=by
 have e:=Int.mul_ediv_add_emod w a;have r1:=Int.emod_lt_of_pos w h;have r0:=Int.emod_nonneg w (show a≠0 by omega);have q1:1<=w/a:=(Int.le_ediv_iff_mul_le h).mpr (by omega);have:=Int.mul_le_mul_of_nonneg_left q1 (Int.le_of_lt h);have e2:2*(w%a)<=w:=by omega
 have:=Int.mul_le_mul_of_nonneg_left e2 (Int.le_of_lt h);rw[Int.mul_comm w a,←Int.mul_assoc,Int.mul_comm 2 a,Int.mul_assoc];exact this
theorem Down.len {n w0 a0 lo0:Int} {lv:List T3} {w a lo:Int} (d:Down n w0 a0 lo0 lv w a lo) (L:Lvl w0 a0 lo0 n):2^lv.length*(w*a)<=w0*a0:=by
 induction d with
 | top=>simp
 | @go lv w a lo d h h2 ih=>
  obtain⟨l,b,_⟩:=d.lvl L;have m:=z8j h l.aw;have p:(0:Int)<=2^lv.length:=Int.pow_nonneg (by decide);have:=Int.mul_le_mul_of_nonneg_left m p;rw[List.length_append,List.length_singleton,Int.pow_succ,Int.mul_assoc];omega
theorem Down.short {n w0 a0 lo0:Int} {lv:List T3} {w a lo:Int} (d:Down n w0 a0 lo0 lv w a lo) (L:Lvl w0 a0 lo0 n) (B:Nat) (hB:w0<=2^B) (h:0<a):lv.length<=2*B:=by
 have e:=d.len L;obtain⟨l,b,_⟩:=d.lvl L;have h1:1<=w*a:=by
  have:=Int.mul_le_mul_of_nonneg_left (show 1<=a by omega) (show (0:Int)<=w by have:=l.aw;omega);have:=l.aw;omega
 have p:(0:Int)<=2^lv.length:=Int.pow_nonneg (by decide);have h2:=Int.mul_le_mul_of_nonneg_left h1 p;have h3:w0*a0<=2^B*2^B:=Int.mul_le_mul hB (by have:=L.aw;omega) L.a0 (Int.pow_nonneg (by decide));have h4:(2:Int)^lv.length<=2^(2*B):=by
  rw[Nat.two_mul,Int.pow_add];omega
 have h5:(2:Nat)^lv.length<=2^(2*B):=by
  have:((2^lv.length:Nat):Int)<=((2^(2*B):Nat):Int):=by
   rw[Int.natCast_pow,Int.natCast_pow];exact h4
  omega
 exact (Nat.pow_le_pow_iff_right (by decide)).mp h5
end SM
namespace L2
open PySem PySem.Spec PyProof.Rows SM
noncomputable def z2t (t:T3):HO:=.tup [.int t.1,.int t.2.1,.int t.2.2]
noncomputable def Pl (H:Hp) (xs:List V) (ws:List T3):Prop:=xs.length=ws.length/\∀(i:Nat) t,ws[i]?=some t->∃p,xs[i]?=some (.ref p)/\H p=some (z2t t)
theorem Pl.nil {H:Hp}:Pl H [] []:=⟨rfl,fun i t e=>by simp at e⟩
theorem Pl.same {H H':Hp} {xs:List V} {ws:List T3} (g:Same H H') (h:Pl H xs ws):Pl H' xs ws:=⟨h.1,fun i t e=>let ⟨p,e1,e2⟩:=h.2 i t e;⟨p,e1,g _ _ e2⟩⟩
theorem Pl.upd {H:Hp} {xs ys:List V} {ws:List T3} {L:Addr} {o:HO} (h:Pl H xs ws) (hL:H L=some (.lst ys)):Pl (upd H L o) xs ws:=⟨h.1,fun i t e=>by
 obtain⟨p,e1,e2⟩:=h.2 i t e;exact⟨p,e1,by rw[za (yw e2 hL (by intro z;cases z))];exact e2⟩⟩
theorem Pl.updN {H:Hp} {xs:List V} {ws:List T3} {L:Addr} {o:HO} (h:Pl H xs ws) (hL:H L=none):Pl (L2.upd H L o) xs ws:=h.same (zH hL o)
theorem Pl.snoc {H:Hp} {xs:List V} {ws:List T3} {p:Addr} {t:T3} (h:Pl H xs ws) (hp:H p=some (z2t t)):Pl H (xs++[.ref p]) (ws++[t]):=by
 refine⟨by simp [h.1],fun i u e=>?_⟩;by_cases c:i<ws.length
 ·rw[List.getElem?_append_left c] at e;obtain⟨b,e1,e2⟩:=h.2 i u e;exact⟨b,by rw[List.getElem?_append_left (by rw[h.1];exact c)];exact e1,e2⟩
 ·rw[List.getElem?_append_right (by omega)] at e;have z:i-ws.length=0:=by
   rcases Nat.eq_zero_or_pos (i-ws.length) with z|z
   ·exact z
   ·rw[List.getElem?_eq_none (by simp;omega)] at e;cases e
  rw[z] at e;cases e;exact⟨p,by rw[List.getElem?_append_right (by rw[h.1];omega),h.1,z];rfl,hp⟩
theorem Pl.at {H:Hp} {xs:List V} {ws:List T3} (h:Pl H xs ws) {i:Nat} {x:V} (e:xs[i]?=some x):∃p t,ws[i]?=some t/\x=.ref p/\H p=some (z2t t):=by
 have hi:i<ws.length:=by
  rw[←h.1];exact (List.getElem?_eq_some_iff.mp e).1
 obtain⟨p,e1,e2⟩:=h.2 i ws[i] (List.getElem?_eq_getElem hi);rw[e] at e1;cases e1;exact⟨p,ws[i],List.getElem?_eq_getElem hi,rfl,e2⟩
theorem Pl.take {H:Hp} {xs:List V} {ws:List T3} (h:Pl H xs ws) (n:Nat):Pl H (xs.take n) (ws.take n):=by
 refine⟨by simp [h.1],fun i t e=>?_⟩;rw[List.getElem?_take] at e ⊢;split at e
 ·rename_i c
  rw[if_pos c];exact h.2 i t e
 ·cases e
theorem Pl.drop {H:Hp} {xs:List V} {ws:List T3} (h:Pl H xs ws) (n:Nat):Pl H (xs.drop n) (ws.drop n):=by
 refine⟨by simp [h.1],fun i t e=>?_⟩;rw[List.getElem?_drop] at e ⊢;exact h.2 _ t e
theorem Pl.append {H:Hp} {xs ys:List V} {ws vs:List T3} (h:Pl H xs ws) (k:Pl H ys vs):Pl H (xs++ys) (ws++vs):=by
 refine⟨by simp [h.1,k.1],fun i t e=>?_⟩;by_cases c:i<ws.length
 ·rw[List.getElem?_append_left c] at e;rw[List.getElem?_append_left (by rw[h.1];exact c)];exact h.2 i t e
 ·rw[List.getElem?_append_right (by omega)] at e;rw[List.getElem?_append_right (by rw[h.1];omega),h.1];exact k.2 _ t e
theorem Pl.reverse {H:Hp} {xs:List V} {ws:List T3} (h:Pl H xs ws):Pl H xs.reverse ws.reverse:=by
 refine⟨by simp [h.1],fun i t e=>?_⟩;have hi:i<ws.length:=by
  have:=(List.getElem?_eq_some_iff.mp e).1;simpa using this
 rw[List.getElem?_reverse hi] at e;rw[List.getElem?_reverse (by rw[h.1];exact hi),h.1];exact h.2 _ t e
theorem Pl.one {H:Hp} {p:Addr} {t:T3} (hp:H p=some (z2t t)):Pl H [.ref p] [t]:=(Pl.nil (H:=H)).snoc hp
noncomputable def dW (t:T3):PyData:=.tuple [.int t.1,.int t.2.1,.int t.2.2]
theorem y0f {K:PySem.W.Frag} {H:Hp} {p:Addr} {t:T3} (h:H p=some (z2t t)):DD K H (.ref p) (dW t):=.tup (SqT.of h) (.cons (.int _) (.cons (.int _) (.cons (.int _) .nil)))
theorem Pl.dds {K:PySem.W.Frag} {H:Hp}:∀ {ws:List T3} {xs:List V},Pl H xs ws->DDs K H xs (ws.map dW)
 | [],[],_=>.nil
 | [],_::_,h=>by have:=h.1;simp at this
 | _::_,[],h=>by have:=h.1;simp at this
 | t::ws,x::xs,h=>by
  obtain⟨p,e1,e2⟩:=h.2 0 t rfl;cases e1;refine .cons (y0f e2) (Pl.dds ⟨by have:=h.1;simpa using this,fun i u e=>?_⟩);have:=h.2 (i+1) u (by simpa using e);simpa using this
theorem Pl.dd {K:PySem.W.Frag} {H:Hp} {a:Addr} {ws:List T3} {xs:List V} (hs:SqL K H a xs) (h:Pl H xs ws):DD K H (.ref a) (.list (ws.map dW)):=.lst hs h.dds
theorem y2E (t u:T3):PyData.eqv (dW t) (dW u)=decide (t=u):=by
 obtain⟨a,b,c⟩:=t;obtain⟨x,y,z⟩:=u;unfold dW;simp only [PyData.eqv,PyData.eqvAll];by_cases h1:a=x <;> by_cases h2:b=y <;> by_cases h3:c=z <;> simp [h1,h2,h3]
theorem z2e:∀ws vs:List T3,PyData.eqvAll (ws.map dW) (vs.map dW)=decide (ws=vs)
 | [],[]=>by simp [PyData.eqvAll]
 | [],_::_=>by simp [PyData.eqvAll]
 | _::_,[]=>by simp [PyData.eqvAll]
 | t::ws,u::vs=>by
  simp only [List.map_cons,PyData.eqvAll,y2E,z2e ws vs];by_cases h1:t=u <;> by_cases h2:ws=vs <;> simp [h1,h2]
theorem z9C (ws vs:List T3):PyData.eqv (.list (ws.map dW)) (.list (vs.map dW))=decide (ws=vs):=by
 simp only [PyData.eqv];exact z2e ws vs
theorem z9Y:∀ws:List T3,PyData.canLayAll0 (ws.map dW)=true/\PyData.depthAll (ws.map dW)<=1
 | []=>by simp [PyData.canLayAll0,PyData.depthAll]
 | t::ws=>by
  have:=z9Y ws;simp only [List.map_cons,PyData.canLayAll0,PyData.depthAll,this.1,Bool.and_true];refine⟨by simp [dW,PyData.canLay0,PyData.canLayAll0],?_⟩;have e:PyData.depth (dW t)=1:=by simp [dW,PyData.depth,PyData.depthAll]
  rw[e];omega
theorem wU (ws:List T3):SeqAt.shaped (.list (ws.map dW))=true:=by
 have:=z9Y ws;unfold SeqAt.shaped;simp only [PyData.canLay0,PyData.depth,this.1,Bool.true_and];exact decide_eq_true (by omega)
section
variable {K:PySem.W.Frag} {H:Hp} {Q:VK} {a b:Addr} {xs ys:List V} {ws vs:List T3}
theorem eqP (ha:SqL K H a xs) (pa:Pl H xs ws) (hb:SqL K H b ys) (pb:Pl H ys vs) (q:Q (.bl (decide (ws=vs))) H):y1V K (.ref a) (.ref b) H Q:=
 ⟨_,_,pa.dd ha,pb.dd hb,wU _,wU _,by rw[z9C];exact q⟩
end
theorem Inv.turnedLaid {X:Cx} {pins:List (Addr×Obj)} {σ:St} {H:Hp} {s:Shared} {h':Heap} {t':Nat} {ch:List Addr} {T:Addr} {o:HO} (I:Inv X pins σ H s) (k:∀b u,b∉ch->s.heap.get? b=some u->h'.get? b=some u)
  (hc:∀b∈ch,z3j X pins H b) (hT:s.heap.objs.size<=T) (new:ObjOk X.prog X.w (upd H T o) h' T o):Inv X pins σ (upd H T o) { s with heap:=h',toks:=t' }:=by
 have nT:H T=none:=I.hok.fresh hT;have nit:∀b u,H b=some u->b∉ch:=fun b u e z=>by rw[(hc b z).1] at e;cases e
 have lt:∀b u,s.heap.get? b=some u->b≠T:=fun b u e=>Nat.ne_of_lt (Nat.lt_of_lt_of_le (Heap.lt_size e) hT);refine I.step (g':=s.gens) (d':=s.drawn) (ch:=ch) (fun b hb=>⟨(hc b hb).2.2.2.1,(hc b hb).2.1,(hc b hb).2.2.2.2.1,(hc b hb).2.2.2.2.2⟩) (fun b u _ _ h e _=>k b u h e) (fun b u _ _ h e _=>⟨u.slots,k b u h e⟩)
  (fun b u _ e n=>by rw[za (lt b u e)];exact n) (fun b u h e=>⟨u,k b u h e⟩) (fun b xs e=>by rw[za (zd e nT)];exact e) (fun b u v e=>by rw[za (zd e nT)];exact e)
  (fun b ps e=>⟨#[],by rw[za (zd e nT),e];simp⟩) (fun m hm=>?_) (fun b u e=>?_) I.bare
 ·obtain⟨u,es,ep,ho,r⟩:=hm;exact⟨u,es,ep,k _ u (fun z=>(hc _ z).2.1 rfl) ho,r⟩
 ·by_cases hb:b=T
  ·subst hb;rw[zG] at e;cases e;exact new
  ·rw[za hb] at e;refine (I.hok b u e).stay (fun c v hcc q=>k c v ?_ q) (fun c q=>by rw[za (zd q nT)];exact q) fun c xs q=>by rw[za (zd q nT)];exact q
   rcases hcc with z|z
   ·rw[z];exact nit b u e
   ·exact nit c _ z
theorem Inv.turnedL {X:Cx} {pins:List (Addr×Obj)} {σ:St} {H:Hp} {s:Shared} {h':Heap} {t':Nat} {ch:List Addr} (I:Inv X pins σ H s) (k:∀b u,b∉ch->s.heap.get? b=some u->h'.get? b=some u)
  (hc:∀b∈ch,z3j X pins H b):Inv X pins σ H { s with heap:=h',toks:=t' }:=by
 have nit:∀b u,H b=some u->b∉ch:=fun b u e z=>by rw[(hc b z).1] at e;cases e
 refine I.step (g':=s.gens) (d':=s.drawn) (ch:=ch) (fun b hb=>⟨(hc b hb).2.2.2.1,(hc b hb).2.1,(hc b hb).2.2.2.2.1,(hc b hb).2.2.2.2.2⟩) (fun b u _ _ h e _=>k b u h e) (fun b u _ _ h e _=>⟨u.slots,k b u h e⟩)
  (fun _ _ _ _ n=>n) (fun b u h e=>⟨u,k b u h e⟩) (fun _ _ e=>e) (fun _ _ _ e=>e) (fun b ps e=>⟨#[],by rw[e];simp⟩) (fun m hm=>?_) (fun b u e=>?_) I.bare
 ·obtain⟨u,es,ep,ho,r⟩:=hm;exact⟨u,es,ep,k _ u (fun z=>(hc _ z).2.1 rfl) ho,r⟩
 ·refine (I.hok b u e).stay (fun c v hcc q=>k c v ?_ q) (fun _ q=>q) fun _ _ q=>q;rcases hcc with z|z
  ·rw[z];exact nit b u e
  ·exact nit c _ z
noncomputable def Itp (n:Nat) (ok:Hp->Prop) (f:Nat->Hp->V->V->Prop):It:=
 ⟨fun i H=>i<n/\ok H,fun i H x H'=>∃T u v,H T=none/\x=.ref T/\H'=upd H T (.tup [u,v])/\f i H u v,fun i H=>i=n/\ok H⟩
noncomputable def okZ (K:PySem.W.Frag) (a b:Addr) (n:Nat) (H:Hp):Prop:=∃xs ys,SqL K H a xs/\SqL K H b ys/\min xs.length ys.length=n
noncomputable def Itz (K:PySem.W.Frag) (a b:Addr) (n:Nat):It:=Itp n (okZ K a b n) fun i H u v=>(∀xs,SqL K H a xs->xs[i]?=some u)/\∀ys,SqL K H b ys->ys[i]?=some v
noncomputable def y3m (K:PySem.W.Frag) (ta tb:TE):TI:=fun σ H R=>ta σ H fun x H1=>tb σ H1 fun y H2=>∃a b xs ys,x=.ref a/\y=.ref b/\SqL K H2 a xs/\SqL K H2 b ys/\R (Itz K a b (min xs.length ys.length)) H2
section
variable {X:Cx} {es:List Expr} {k:Nat} {tpos:Pos}
end
theorem z1K {K:PySem.W.Frag} {ta tb:TE} {σ:St} {H:Hp} {R:It->Hp->Prop}:y3m K ta tb σ H R=ta σ H fun x H1=>tb σ H1 fun y H2=>∃a b xs ys,x=.ref a/\y=.ref b/\SqL K H2 a xs/\SqL K H2 b ys/\R (Itz K a b (min xs.length ys.length)) H2:=rfl
noncomputable def okE (K:PySem.W.Frag) (a:Addr) (n:Nat) (H:Hp):Prop:=∃xs,SqL K H a xs/\xs.length=n
noncomputable def Ite (K:PySem.W.Frag) (a:Addr) (n:Nat):It:=Itp n (okE K a n) fun i H u v=>u=.int i/\∀xs,SqL K H a xs->xs[i]?=some v
noncomputable def y2m (K:PySem.W.Frag) (ta:TE):TI:=fun σ H R=>ta σ H fun x H1=>∃a xs,x=.ref a/\SqL K H1 a xs/\R (Ite K a xs.length) H1
section
variable {X:Cx} {es:List Expr} {k:Nat} {tpos:Pos}
end
theorem wC {K:PySem.W.Frag} {ta:TE} {σ:St} {H:Hp} {R:It->Hp->Prop}:y2m K ta σ H R=ta σ H fun x H1=>∃a xs,x=.ref a/\SqL K H1 a xs/\R (Ite K a xs.length) H1:=rfl
noncomputable def Its (lo c:Int) (n:Nat):It:=⟨fun i _=>i<n,fun i H x H'=>H'=H/\x=.int (lo+i*c),fun i _=>n<=i⟩
theorem z2u {P:Program} {w:World} {K:PySem.W.Frag} {tg:Expr} (it:Addr) (lo c:Int) (n:Nat):Turn P w K tg (Its lo c n) [it] it (fun i h=>IsRangeIter h it (lo+(i:Nat)*c) ((n:Int)-(i:Nat)) c) where
 mem:=by simp
 obj:=fun i h st b hb=>by
  obtain rfl:b=it:=by simpa using hb
  exact⟨_,st,fun v z=>nomatch (show Data.fields _=Data.cell v from z)⟩
 keep:=fun i h h' st k=>k it (by simp) _ st
 item:=by
  intro X hP hw hK hc i pins s σ H E I hf st hg;subst hP hw hK;obtain⟨f0,f1,f2,f3,f4,f5⟩:=hf it (by simp);have WR:=Walks.range (prog:=X.prog) (w:=X.w) (I.ok.hd hc) it lo c n;refine WR.item i s _ _ hg st fun v h' tk hv st' kk=>?_;obtain⟨t,rfl⟩:=hv;have I1:Inv X pins σ H { s with heap:=h',toks:=tk }:=I.turned (fun b o hb e=>kk b o (by simpa using hb) e) f0 f1 f3 f4 f5;exact⟨_,rfl,z5c (s:={ s with heap:=h',toks:=tk }) (n:= "range_iterator") st' rfl rfl (by decide) ⟨.int (lo+i*c),H,I1,⟨t,rfl⟩,⟨rfl,rfl⟩,st',fun b hb=>(hf b hb).1⟩⟩
 done:=by
  intro X hP hw hK hc i pins s σ H E I hf st hg;subst hP hw hK;obtain⟨f0,f1,f2,f3,f4,f5⟩:=hf it (by simp);exact wpAny_pyNext_range_end (I.ok.hd hc) st (by have:n<=i:=hg;omega) fun h' eb=>⟨rfl,I.turned (t':=s.toks) (fun b o hb e=>eb b o hb e) f0 f1 f3 f4 f5⟩
 self:=fun _ _ _ _ _ st h=>wpAny_pyIter_rangeiter st h
theorem z2v {P:Program} {w:World} {K:PySem.W.Frag} {tg:Expr} (it:Addr) (lo c:Int) (n:Nat):Turn P w K tg (Its lo c n) [it] it (fun i h=>IsLongIter h it (lo+(i:Nat)*c) ((n:Int)-(i:Nat)) c) where
 mem:=by simp
 obj:=fun i h st b hb=>by
  obtain rfl:b=it:=by simpa using hb
  exact⟨_,st,fun v z=>nomatch (show Data.fields _=Data.cell v from z)⟩
 keep:=fun i h h' st k=>k it (by simp) _ st
 item:=by
  intro X hP hw hK hc i pins s σ H E I hf st hg;subst hP hw hK;obtain⟨f0,f1,f2,f3,f4,f5⟩:=hf it (by simp);have WR:=Walks.longrange (prog:=X.prog) (w:=X.w) (I.ok.hd hc) it lo c n;refine WR.item i s _ _ hg st fun v h' tk hv st' kk=>?_;obtain⟨t,rfl⟩:=hv;have I1:Inv X pins σ H { s with heap:=h',toks:=tk }:=I.turned (fun b o hb e=>kk b o (by simpa using hb) e) f0 f1 f3 f4 f5;exact⟨_,rfl,z5c (s:={ s with heap:=h',toks:=tk }) (n:= "longrange_iterator") st' rfl rfl (by decide) ⟨.int (lo+i*c),H,I1,⟨t,rfl⟩,⟨rfl,rfl⟩,st',fun b hb=>(hf b hb).1⟩⟩
 done:=by
  intro X hP hw hK hc i pins s σ H E I hf st hg;subst hP hw hK;obtain⟨f0,f1,f2,f3,f4,f5⟩:=hf it (by simp);exact wpAny_pyNext_long_end (I.ok.hd hc) st (by have:n<=i:=hg;omega) fun h' eb=>⟨rfl,I.turned (t':=s.toks) (fun b o hb e=>eb b o hb e) f0 f1 f3 f4 f5⟩
 self:=fun _ _ _ _ _ st h=>wpAny_pyIter_longiter st h
section
variable {X:Cx} {tg:Expr}
theorem z6R {pins:List (Addr×Obj)} {σ:St} {H:Hp} {s:Shared} {R:It->Hp->Prop} {E:Value->Shared->Prop} {lo hi c:Int} {t u v:Tok} {tk:Nat} (I:Inv X pins σ H s) {n:Nat} (hn:(n:Int)=Builtin.Range.rangeSize lo hi c)
  (q:R (Its lo c n) H):wpAny (model X.prog X.w) X.A (pyIter (.ref s.heap.objs.size)) (PIE X pins σ tg R) E { s with heap:=s.heap.push { cls:=.type "range",data:=.fields #[.int lo t,.int hi u,.int c v] },toks:=tk }:=by
 have I1:Inv X pins σ H { s with heap:=s.heap.push { cls:=.type "range",data:=.fields #[.int lo t,.int hi u,.int c v] },toks:=tk }:=I.kept fun b o e=>Heap.get?_push_of_some _ e;have e1:lo+((0:Nat):Int)*c=lo:=by simp
 have e2:((n:Nat):Int)-((0:Nat):Int)=Builtin.Range.rangeSize lo hi c:=by rw[←hn];simp
 by_cases hs:Builtin.Range.small lo hi c=true
 ·refine wpAny_pyIter_range (IsRange.new ..) hs ?_;refine⟨_,[_],_,_,H,rfl,I1.kept (t':=tk) fun b o e=>Heap.get?_push_of_some _ e,z2u _ lo c n,?_,fun b hb=>?_,q⟩
  ·show IsRangeIter _ _ (lo+((0:Nat):Int)*c) (((n:Nat):Int)-((0:Nat):Int)) c;rw[e1,e2];exact Heap.get?_push_size _ rfl
  ·obtain rfl:=List.mem_singleton.mp hb;exact I1.fpOk (Nat.le_refl _) (I1.hok.fresh (Nat.le_refl _))
 ·refine wpAny_pyIter_longrange (IsRange.new ..) (by simpa using hs) ?_;refine⟨_,[_],_,_,H,rfl,I1.kept (t':=tk) fun b o e=>Heap.get?_push_of_some _ e,z2v _ lo c n,?_,fun b hb=>?_,q⟩
  ·show IsLongIter _ _ (lo+((0:Nat):Int)*c) (((n:Nat):Int)-((0:Nat):Int)) c;rw[e1,e2];exact Heap.get?_push_size _ rfl
  ·obtain rfl:=List.mem_singleton.mp hb;exact I1.fpOk (Nat.le_refl _) (I1.hok.fresh (Nat.le_refl _))
noncomputable def y2i (ta:TA):TI:=fun σ H R=>ta σ H fun vs H1=>∃i j:Int,vs=[.int i,.int j]/\R (Its i 1 (j-i).toNat) H1
noncomputable def y2j (ta:TA):TI:=fun σ H R=>ta σ H fun vs H1=>∃(i j c:Int) (n:Nat),vs=[.int i,.int j,.int c]/\0<c/\c<1000000/\(n:Int)=Builtin.Range.rangeSize i j c/\R (Its i c n) H1
end
section
variable {D:Ends} {σ:St} {H:Hp} {Q:VK}
theorem km {ta:TA} {R:It->Hp->Prop}:y2i ta σ H R=ta σ H fun vs H1=>∃i j:Int,vs=[.int i,.int j]/\R (Its i 1 (j-i).toNat) H1:=rfl
theorem kn {ta:TA} {R:It->Hp->Prop}:y2j ta σ H R=ta σ H fun vs H1=>∃(i j c:Int) (n:Nat),vs=[.int i,.int j,.int c]/\0<c/\c<1000000/\(n:Int)=Builtin.Range.rangeSize i j c/\R (Its i c n) H1:=rfl
theorem z8v {lo c:Int} {n:Nat} {g:TG} {tb:TS} (Pv:Nat->St->Hp->Prop) (h0:Pv 0 σ H)
  (hs:∀i σ H,i<n->Pv i σ H->g (.int (lo+i*c)) σ H fun σ2 H2=>tb { D with nx:=Pv (i+1),ct:=Pv (i+1),bk:=D.nx } σ2 H2) (hd:∀σ H,Pv n σ H->D.nx σ H):y0p (Its lo c n) g tb D σ H:=by
 refine⟨fun i m σ H=>m=n-i/\i<=n/\Pv i σ H,⟨_,rfl,Nat.zero_le _,h0⟩,?_⟩;rintro i m σ1 H1 ⟨rfl,hi,p⟩;by_cases hlt:i<n
 ·refine .inr ⟨hlt,Pv (i+1),fun σ' H' p'=>⟨n-(i+1),by omega,rfl,hlt,p'⟩,fun x H' y=>?_⟩;obtain⟨e,y⟩:=y;subst e y;exact hs i σ1 _ hlt p
 ·have e:i=n:=by omega
  subst e;exact .inl ⟨Nat.le_refl _,hd σ1 H1 p⟩
end
noncomputable def CI (mg:Str->Option Value) (x:Str) (n:Int):Prop:=∃t,mg x=some (.int n t)
theorem z3e {K:PySem.W.Frag} {h:Heap} {mg:Str->Option Value} {x:Str} {n:Int} {t:Tok} (X:K.In h) (G:h.Ns mainGlobals mg) (a:PySem.W.nsIn K mainGlobals x=some (some (.int n t))):CI mg x n:=⟨t,PySem.W.mg_of X G a⟩
theorem vV {X:Cx} {x:Str} {n:Int} {pos:Pos} (hg:Gl X x) (h:CI X.mg x n) (hd:(x == ("__debug__" : Str))=false:=by decide):PE X (.Name x pos) (tC (.int n)):=by
 obtain⟨t,e⟩:=h;exact xU hg e ⟨t,rfl⟩ hd
end L2
namespace SM
end SM
namespace L2
open PySem PySem.Spec PyProof.Rows SM
inductive Pap where
 | inn (k:Int)
 | par (b:Int) (ps:List Pap)
mutual
noncomputable def Pap.dep:Pap->Nat
 | .inn _=>0
 | .par _ ps=>Pap.deps ps+1
noncomputable def Pap.deps:List Pap->Nat
 | []=>0
 | p::ps=>max p.dep (Pap.deps ps)
end
mutual
inductive PapIn (K:PySem.W.Frag) (N:Addr->Prop) (H:Hp):V->Pap->Prop where
 | inn {a:Addr} {k:Int}:H a=some (.tup [.str "in",.int k])->PapIn K N H (.ref a) (.inn k)
 | par {a l:Addr} {b:Int} {xs:List V} {ps:List Pap}:H a=some (.tup [.str "parted",.int b,.ref l])->H l=some (.lst xs)->N l->xs.length<2^60->PapsIn K N H xs ps->PapIn K N H (.ref a) (.par b ps)
inductive PapsIn (K:PySem.W.Frag) (N:Addr->Prop) (H:Hp):List V->List Pap->Prop where
 | nil:PapsIn K N H [] []
 | cons {x:V} {xs:List V} {p:Pap} {ps:List Pap}:PapIn K N H x p->PapsIn K N H xs ps->PapsIn K N H (x::xs) (p::ps)
end
section
variable {K:PySem.W.Frag} {N N':Addr->Prop} {H H':Hp}
mutual
theorem PapIn.mono (g:Same H H'):∀ {v:V} {p:Pap},PapIn K N H v p->PapIn K N H' v p
 | _,_,.inn h=>.inn (g _ _ h)
 | _,_,.par h hl n hz hs=>.par (g _ _ h) (g _ _ hl) n hz (PapsIn.mono g hs)
theorem PapsIn.mono (g:Same H H'):∀ {vs:List V} {ps:List Pap},PapsIn K N H vs ps->PapsIn K N H' vs ps
 | _,_,.nil=>.nil
 | _,_,.cons h hs=>.cons (PapIn.mono g h) (PapsIn.mono g hs)
end
mutual
theorem PapIn.imp (f:∀l,N l->N' l):∀ {v:V} {p:Pap},PapIn K N H v p->PapIn K N' H v p
 | _,_,.inn h=>.inn h
 | _,_,.par h hl n hz hs=>.par h hl (f _ n) hz (PapsIn.imp f hs)
theorem PapsIn.imp (f:∀l,N l->N' l):∀ {vs:List V} {ps:List Pap},PapsIn K N H vs ps->PapsIn K N' H vs ps
 | _,_,.nil=>.nil
 | _,_,.cons h hs=>.cons (PapIn.imp f h) (PapsIn.imp f hs)
end
theorem z5q {D b:Addr} {zs ys:List V} {o:HO} (hD:H D=some (.lst zs)) (h:H b=some (.tup ys)):upd H D o b=some (.tup ys):=by
 rw[za (yw h hD (by intro z;cases z))];exact h
mutual
theorem PapIn.write {D:Addr} {zs:List V} {o:HO} (hD:H D=some (.lst zs)) (f:∀l,N l->l≠D):∀ {v:V} {p:Pap},PapIn K N H v p->PapIn K N (upd H D o) v p
 | _,_,.inn h=>.inn (z5q hD h)
 | _,_,.par h hl n hz hs=>.par (z5q hD h) (by rw[za (f _ n)];exact hl) n hz (PapsIn.write hD f hs)
theorem PapsIn.write {D:Addr} {zs:List V} {o:HO} (hD:H D=some (.lst zs)) (f:∀l,N l->l≠D):∀ {vs:List V} {ps:List Pap},PapsIn K N H vs ps->PapsIn K N (upd H D o) vs ps
 | _,_,.nil=>.nil
 | _,_,.cons h hs=>.cons (PapIn.write hD f h) (PapsIn.write hD f hs)
end
theorem PapsIn.len:∀ {xs:List V} {ps:List Pap},PapsIn K N H xs ps->xs.length=ps.length
 | _,_,.nil=>rfl
 | _,_,.cons _ h=>by simp [h.len]
theorem PapsIn.at:∀ {xs:List V} {ps:List Pap},PapsIn K N H xs ps->∀ {i:Nat} {x:V},xs[i]?=some x->∃p,ps[i]?=some p/\PapIn K N H x p
 | _,_,.nil,i,x,e=>by simp at e
 | _,_,.cons h hs,0,x,e=>by cases e;exact⟨_,rfl,h⟩
 | _,_,.cons h hs,i+1,x,e=>by simpa using hs.at (i:=i) (by simpa using e)
theorem PapsIn.append:∀ {xs ys:List V} {ps qs:List Pap},PapsIn K N H xs ps->PapsIn K N H ys qs->PapsIn K N H (xs++ys) (ps++qs)
 | _,_,_,_,.nil,k=>k
 | _,_,_,_,.cons h hs,k=>.cons h (hs.append k)
theorem PapsIn.snoc {xs:List V} {ps:List Pap} {x:V} {p:Pap} (h:PapsIn K N H xs ps) (k:PapIn K N H x p):PapsIn K N H (xs++[x]) (ps++[p]):=h.append (.cons k .nil)
end
noncomputable abbrev y3s:Addr->Prop:=fun _=>True
theorem PapIn.any {K:PySem.W.Frag} {N:Addr->Prop} {H:Hp} {v:V} {p:Pap} (h:PapIn K N H v p):PapIn K y3s H v p:=h.imp fun _ _=>trivial
mutual
noncomputable def Pap.nm:Pap->List Int
 | .inn k=>[k]
 | .par _ ps=>Pap.nms ps
noncomputable def Pap.nms:List Pap->List Int
 | []=>[]
 | p::ps=>p.nm++Pap.nms ps
end
section
variable {K:PySem.W.Frag} {N:Addr->Prop} {H H':Hp} {X:Addr} {zs:List V}
end
section
variable {X:Cx}
theorem z7e (hc:X.calm=true):jY X (.builtin "sum") (fun vs H Q=>∃(a:Addr) (ns:List Int),vs=[.ref a]/\SqL X.K H a (ns.map V.int)/\(∀z∈ns,-(2^40)<=z/\z<=2^40)/\ns.length<=2^20/\Q (.int ns.sum) H):=by
 intro pins s σ H xs us Q I r h;obtain⟨a,ns,rfl,hq,hb,hl,q⟩:=h;obtain⟨u,rfl,r1⟩:=Vals.one r;cases r1;obtain⟨its,rv,pl,hz⟩:=I.list hq;have hi:IntsAre its ns:=qk rv;obtain⟨xs,ex⟩:=hi.allInts.items;have hns:ns=xs.toList.map (·.1):=by rw[←hi.numsOf,←nums_intItems,←ex]
 have hsz:xs.size=ns.length:=by rw[hns,List.length_map,Array.length_toList]
 have hL:=pl.isList;rw[ex] at hL;have fit:=PyProof.Rows.sumFits_small hb hl;refine sum_intList (I.ok.hd hc) hL (fun j hj=>?_) fun h' tk t' k=>⟨.int ns.sum,H,I.kept k,⟨t',?_⟩,q⟩
 ·have f:=fit j (by omega);rw[preSum_eq,numAt_eq,←hns];exact f
 ·rw[preSum_eq,←hns,hsz,List.take_length]
end
theorem z0a {K:PySem.W.Frag} {T:String} {r:V->List V->Hp->VK->Prop} {to:TE} {σ:St} {H:Hp} {Q:VK}:y3Y K T r to σ H Q=to σ H fun x H1=>tyV K T x H1/\r x [] H1 Q:=rfl
noncomputable def Wk (u:T3):Prop:=1<=u.1/\0<=u.2.1/\u.2.1<u.1/\1<=u.2.2/\u.2.2<=u.1
section
variable {K:PySem.W.Frag} {N:Addr->Prop} {H H':Hp} {X Y:Addr} {xs ys:List V}
end
section
variable {K:PySem.W.Frag} {N:Addr->Prop} {H:Hp}
theorem PapsIn.take:∀ {xs:List V} {ps:List Pap} (n:Nat),PapsIn K N H xs ps->PapsIn K N H (xs.take n) (ps.take n)
 | _,_,0,h=>by simp;exact .nil
 | _,_,n+1,.nil=>by simp;exact .nil
 | _,_,n+1,.cons h hs=>by simp only [List.take_succ_cons];exact .cons h (hs.take n)
theorem PapsIn.drop:∀ {xs:List V} {ps:List Pap} (n:Nat),PapsIn K N H xs ps->PapsIn K N H (xs.drop n) (ps.drop n)
 | _,_,0,h=>h
 | _,_,n+1,.nil=>by simp;exact .nil
 | _,_,n+1,.cons h hs=>by simp only [List.drop_succ_cons];exact hs.drop n
end
mutual
noncomputable def Pap.pd:Pap->PyData
 | .inn k=>.tuple [.str "in",.int k]
 | .par b ps=>.tuple [.str "parted",.int b,.list (Pap.pds ps)]
noncomputable def Pap.pds:List Pap->List PyData
 | []=>[]
 | p::ps=>p.pd::Pap.pds ps
end
mutual
theorem PapIn.dd {K:PySem.W.Frag} {N:Addr->Prop} {H:Hp}:∀ {v:V} {p:Pap},PapIn K N H v p->DD K H v p.pd
 | _,_,.inn h=>by
  simp only [Pap.pd];exact .tup (SqT.of h) (.cons (.str _) (.cons (.int _) .nil))
 | _,_,.par h hl _ _ hs=>by
  simp only [Pap.pd];exact .tup (SqT.of h) (.cons (.str _) (.cons (.int _) (.cons (.lst (SqL.of hl) (PapsIn.dds hs)) .nil)))
theorem PapsIn.dds {K:PySem.W.Frag} {N:Addr->Prop} {H:Hp}:∀ {vs:List V} {ps:List Pap},PapsIn K N H vs ps->DDs K H vs (Pap.pds ps)
 | _,_,.nil=>by simp only [Pap.pds];exact .nil
 | _,_,.cons h hs=>by simp only [Pap.pds];exact .cons (PapIn.dd h) (PapsIn.dds hs)
end
theorem qL {α:Type} {p:α->Bool}:∀ {l:List α} {i:Nat},(∀a,l[i]?=some a->p a=false)->(l.eraseIdx i).find? p=l.find? p
 | [],_,_=>by simp
 | a::l,0,h=>by
  have:=h a rfl;simp [List.eraseIdx,List.find?,this]
 | a::l,i+1,h=>by
  have:=qL (l:=l) (i:=i) (p:=p) fun b e=>h b (by simpa using e);simp only [List.eraseIdx,List.find?,this]
theorem ObjOk.there {P:Program} {w:World} {H:Hp} {h:Heap} {a:Addr}:∀ {o:HO},ObjOk P w H h a o->∃u,h.get? a=some u:=fun {o} x=>by
 induction o with
 | lst xs=>obtain⟨_,_,_,_,e⟩:=x;exact⟨_,e⟩
 | tup xs=>obtain⟨_,_,_,p⟩:=x;obtain⟨u,hu,_⟩:=p;exact⟨u,hu⟩
 | dK kvs=>obtain⟨_,_,_,_,o,_,_,e,_⟩:=x;exact⟨_,e⟩
 | dT kvs=>obtain⟨_,_,_,_,o,_,_,e,_⟩:=x;exact⟨_,e⟩
 | set S n=>obtain⟨o,_,_,_,e,_⟩:=x;exact⟨_,e⟩
 | ins C dx fs=>obtain⟨_,_,_,e,_⟩:=x;exact⟨_,e⟩
 | own y=>obtain⟨_,e⟩:=x;exact⟨_,e⟩
 | xd fs=>obtain⟨_,⟨_,_,_,e,_⟩,_⟩:=x;exact⟨_,e⟩
 | rng lo hi=>obtain⟨_,_,_,e⟩:=x;exact⟨_,e⟩
 | frz o u _=>exact⟨_,x.1⟩
 | tbl ps=>exact⟨_,x⟩
 | met f y=>exact⟨_,x⟩
 | ext φ=>exact x.2.1
structure Fly (h₀:Heap) (H:Hp) (h:Heap) (e:Addr) (cls:Value):Prop where
 new:h₀.get? e=none
 free:H e=none
 obj:∃oe vs T oT ts a0,h.get? e=some oe/\(oe.cls=cls/\vs[0]?=some a0)/\oe.data=.fields vs/\vs[1]?=some (.ref T)/\T≠e/\h.get? T=some oT/\oT.data=.fields ts/\ts[3]?=some .none/\
  h₀.get? T=none/\H T=none
noncomputable def CXx (P:Program) (w:World):CXT:=fun outer H s E e s'=>
 ∃a cls H',e=.ref a/\s'.os=s.os/\AllBare s'.gens/\Un (frs outer) [] H H' s.heap s'.heap/\HOk P w H' s'.heap/\Fly s.heap H' s'.heap a cls/\E cls (some a) H'
theorem HOk.but {P:Program} {w:World} {H:Hp} {h h':Heap} (hok:HOk P w H h) (as:List Addr) (hn:∀a∈as,H a=none) (k:∀b o,b∉as->h.get? b=some o->h'.get? b=some o):HOk P w H h':=fun b u e=>by
 refine (hok b u e).stay (fun c v hc q=>k c v (fun z=>?_) q) (fun _ q=>q) fun _ _ q=>q;rcases hc with rfl|hc
 ·rw[hn _ z] at e;cases e
 ·rw[hn _ z] at hc;cases hc
section
variable {P:Program} {w:World} {K:PySem.W.Frag} {mg:Str->Option Value} {base:Heap} {N:List Str} {qual:Str} {scope:Scope} {f:Addr} {cd:Value} {A:Around} {outer:List Env} {s:Shared} {H H1:Hp} {E:XK}
 {pins:List (Addr×Obj)} {σ:St} {s1:Shared} {e:Addr} {cls:Value}
theorem z4a {B:Heap} {a0:Value} {h h':Heap} {as:List Addr} {stk:List Env} (hB:B=PySem.W.hideAll h (frs stk++as)) (has:∀a∈as,s.heap.get? a=none/\H1 a=none) (hea:e∈as)
  (hfs:∀b∈frs stk,H1 b=none) (hsub:∀b∈frs outer,b∈frs stk) (hnew:∀b∈frs stk,b∉frs outer->s.heap.get? b=none)
  (u:Un (frs outer) [] H H1 s.heap h) (hok:HOk P w H1 h) (L:Heap.LeftW B stk e cls a0 h h') (hF:h.FunFrames base stk):Un (frs outer) [] H H1 s.heap h'/\HOk P w H1 h'/\Fly s.heap H1 h' e cls:=by
 subst hB;obtain⟨k1,k2,⟨oe,vs,T,oT,ts,he,hc,hd,h1,hnT,hTe,hT,hdT,h3⟩,k4⟩:=L;have keep:∀b o,b∉frs stk++as->h.get? b=some o->h'.get? b=some o:=fun b o hb q=>k1 b o (PySem.W.hideAll_get _ q hb);have hall:∀a∈frs stk++as,H1 a=none:=fun a ha=>(List.mem_append.mp ha).elim (hfs a) fun z=>(has a z).2;have newAs:∀ {b:Addr} {o:Obj},s.heap.get? b=some o->b∉as:=fun {b o} q z=>by rw[(has b z).1] at q;cases q
 have hTf:T∉frs stk:=fun z=>by
  obtain⟨_,o,ho,hx⟩:=k2.mem z;rw[hT] at ho;cases ho;exact hx _ hdT
 have out:∀o,h.get? T=some o->T∈as:=fun o q=>by
  by_cases z:T∈frs stk++as
  ·exact (List.mem_append.mp z).elim (fun y=>absurd y hTf) id
  ·have:=PySem.W.hideAll_get (h:=h) _ q z;rw[hnT] at this;cases this
 have slot:∀b o,h.get? b=some o->b∈frs stk->∃sl,h'.get? b=some { o with slots:=sl }:=fun b o q hb=>by
  obtain⟨_,o',ho',hx⟩:=hF.mem hb;rw[q] at ho';cases ho';exact k4 b o q hx
 refine⟨⟨fun b o q n hb hx=>?_,fun b o q n hb hx=>?_,u.free,fun b o q hx=>?_,u.tups,u.frzs,u.tbls⟩,hok.but _ hall keep,⟨(has e hea).1,(has e hea).2,oe,vs,T,oT,ts,a0,he,hc,hd,h1,hTe,hT,hdT,h3,?_,?_⟩⟩
 ·refine keep b o (fun z=>(List.mem_append.mp z).elim (fun y=>?_) (newAs q)) (u.keep b o q n hb hx);by_cases hb':b∈frs outer
  ·exact hb hb'
  ·rw[hnew b y hb'] at q;cases q
 ·obtain⟨sl,e1⟩:=u.slot b o q n hb hx;obtain⟨sl',e2⟩:=slot b _ e1 (hsub b hb);exact⟨sl',e2⟩
 ·obtain⟨o',e1⟩:=u.there b o q hx;by_cases z:b∈frs stk
  ·obtain⟨sl,e2⟩:=slot b _ e1 z;exact⟨_,e2⟩
  ·exact⟨o',keep b o' (fun y=>(List.mem_append.mp y).elim z (newAs q)) e1⟩
 ·cases q:s.heap.get? T with
  | none=>rfl
  | some o=>
   obtain⟨o',e1⟩:=u.there T o q (by simp);exact absurd (out o' e1) (newAs q)
 ·cases q:H1 T with
  | none=>rfl
  | some o=>
   obtain⟨o',e1⟩:=ObjOk.there (hok T o q);rw[(has T (out o' e1)).2] at q;cases q
theorem z2x {h':Heap} {vs:List Value} (I:Inv (qN (CXx P w) P w K mg base N qual scope f cd A outer s H E) pins σ H1 s1) (hx:Heap.MadeExcOf s1.heap h' e cls vs) (q:E cls (some e) H1) :
  (qN (CXx P w) P w K mg base N qual scope f cd A outer s H E).xe (.ref e) { s1 with heap:=h' }:=by
 have hok:HOk P w H1 h':=I.hok.kept hx.keeps;have he1:H1 e=none:=by
  cases z:H1 e with
  | none=>rfl
  | some o=>
   obtain⟨o',e1⟩:=ObjOk.there (I.hok e o z);rw[hx.new] at e1;cases e1
 have hes:s.heap.get? e=none:=by
  cases z:s.heap.get? e with
  | none=>rfl
  | some o=>
   obtain⟨o',e1⟩:=I.base.there e o z (List.not_mem_nil);rw[hx.new] at e1;cases e1
 have hu:Un (frs outer) [] H H1 s.heap h':=Un.trans I.base (Un.kept hx.keeps);have hF:h'.FunFrames base (envOfC qual scope s.heap.objs.size f cd::outer):=Heap.FunFrames.of_keeps (fun b o z _=>⟨o,hx.keeps b o z,rfl⟩) I.stack;have hnw:∀b∈frs (envOfC qual scope s.heap.objs.size f cd::outer),b∉frs outer->s.heap.get? b=none:=fun b hb hn=>by
  rcases List.mem_cons.mp hb with rfl|hb
  ·exact Heap.get?_none_of_le (Nat.le_refl _)
  ·exact absurd hb hn
 obtain⟨t,he,_,_⟩:=hx.there;refine wpAny_leaving_firstW (base:=PySem.W.hideAll h' (frs (envOfC qual scope s.heap.objs.size f cd::outer)++[e])) (outer:=outer) (L:=s.heap.objs.size) (a0:=.ref t) I.ok.frames
  (PySem.W.funFrames_hide hF fun env z a ha=>List.mem_append_left _ (List.mem_filterMap.mpr ⟨env,z,ha⟩)) rfl he (fun b o z=>PySem.W.of_hideAll _ z) (PySem.W.hideAll_none _ (by simp)) rfl rfl rfl fun h2 L=>?_
 obtain⟨x1,x2,x3⟩:=z4a (P:=P) (w:=w) (base:=base) (outer:=outer) (s:=s) (H:=H) (H1:=H1) (as:=[e]) rfl (fun a ha=>by rw[List.mem_singleton.mp ha];exact⟨hes,he1⟩) (by simp) I.stkFree (fun b hb=>List.mem_cons_of_mem _ hb) hnw hu hok L hF;exact⟨e,cls,H1,rfl,I.os,I.bare,x1,x2,x3,q⟩
theorem z5v (I:Inv (qN (CXx P w) P w K mg base N qual scope f cd A outer s H E) pins σ H1 s1) (fl:Fly s.heap H1 s1.heap e cls) (q:E cls (some e) H1) :
  (qN (CXx P w) P w K mg base N qual scope f cd A outer s H E).xe (.ref e) s1:=by
 obtain⟨oe,vs,T,oT,ts,a0,he,hc,hd,h1,hTe,hT,hdT,h3,hsT,hHT⟩:=fl.obj;have hF:s1.heap.FunFrames base (envOfC qual scope s.heap.objs.size f cd::outer):=I.stack;have hnw:∀b∈frs (envOfC qual scope s.heap.objs.size f cd::outer),b∉frs outer->s.heap.get? b=none:=fun b hb hn=>by
  rcases List.mem_cons.mp hb with rfl|hb
  ·exact Heap.get?_none_of_le (Nat.le_refl _)
  ·exact absurd hb hn
 have has:∀a∈[e,T],s.heap.get? a=none/\H1 a=none:=fun a ha=>by
  rcases List.mem_cons.mp ha with rfl|ha
  ·exact⟨fl.new,fl.free⟩
  ·rw[List.mem_singleton.mp ha];exact⟨hsT,hHT⟩
 refine wpAny_leaving_nextW (base:=PySem.W.hideAll s1.heap (frs (envOfC qual scope s.heap.objs.size f cd::outer)++[e,T])) (outer:=outer) (L:=s.heap.objs.size) (cls:=cls) (a0:=a0) I.ok.frames
  (PySem.W.funFrames_hide hF fun env z a ha=>List.mem_append_left _ (List.mem_filterMap.mpr ⟨env,z,ha⟩)) rfl ⟨oe,vs,T,oT,ts,he,hc,hd,h1,PySem.W.hideAll_none _ (by simp),hTe,hT,hdT,h3⟩
  (fun b o z=>PySem.W.of_hideAll _ z) (PySem.W.hideAll_none _ (by simp)) fun h2 L=>?_
 obtain⟨x1,x2,x3⟩:=z4a (P:=P) (w:=w) (base:=base) (outer:=outer) (s:=s) (H:=H) (H1:=H1) (as:=[e,T]) rfl has (by simp) I.stkFree (fun b hb=>List.mem_cons_of_mem _ hb) hnw I.base I.hok L hF;exact⟨e,cls,H1,rfl,I.os,I.bare,x1,x2,x3,q⟩
end
theorem Inv.afterX {X:Cx} {pins:List (Addr×Obj)} {σ:St} {H:Hp} {s s':Shared} {E:XK} {e:Value} (I:Inv X pins σ H s) (h:CXx X.prog X.w X.stack H s E e s') :
  ∃a cls H',e=.ref a/\Inv X pins σ H' s'/\Fly s.heap H' s'.heap a cls/\E cls (some a) H':=by
 obtain⟨a,cls,H',rfl,os,bare,un,hok,fl,q⟩:=h;exact⟨a,cls,H',rfl,I.call' (ch:=[]) os un hok bare (fun b z=>absurd z (by simp)),fl,q⟩
theorem Fly.old {h₀ h1 h:Heap} {H:Hp} {e:Addr} {cls:Value} (x:Fly h1 H h e cls) (k:∀b o,h₀.get? b=some o->∃o',h1.get? b=some o'):Fly h₀ H h e cls:=by
 have none:∀b,h1.get? b=none->h₀.get? b=none:=fun b z=>by
  cases q:h₀.get? b with
  | none=>rfl
  | some o=>obtain⟨o',e1⟩:=k b o q;rw[z] at e1;cases e1
 obtain⟨oe,vs,T,oT,ts,a0,he,hc,hd,h1,hTe,hT,hdT,h3,hsT,hHT⟩:=x.obj;exact⟨none _ x.new,x.free,oe,vs,T,oT,ts,a0,he,hc,hd,h1,hTe,hT,hdT,h3,none _ hsT,hHT⟩
theorem z0y {P:Program} {w:World} {K:PySem.W.Frag} {mg:Str->Option Value} {base:Heap} {N:List Str} {qual:Str} {scope:Scope} {f:Addr} {cd:Value} {A:Around} {outer:List Env} {s:Shared} {H:Hp} {E:XK} :
  vP (CXx P w) (qN (CXx P w) P w K mg base N qual scope f cd A outer s H E) E:=fun pins σ H1 s1 e s' I h=>by
 obtain⟨a,cls,H',rfl,I',fl,q⟩:=Inv.afterX I h;exact z5v I' (fl.old fun b o z=>I.base.there b o z List.not_mem_nil) q
abbrev VE:List Value:=[.type "ValueError",.type "Exception",.type "BaseException",.type "object"]
structure OX (K:PySem.W.Frag) (mg:Str->Option Value) (x:Str) (C:Addr) (bm:List Value):Prop where
 bound:mg x=some (.ref C)
 obj:∃N nm q bs hdct sn sub ab col dd k0 k1 k2 k3 k5,K.lookup C=some (excClassObj nm q C N bs bm hdct sn sub ab col dd k0 k1 k2 k3 k5 "ValueError.__new__")/\PySem.W.nsOkIn K N=true/\PySem.W.nsIn K N "__init__" = some none
 tail:PySem.W.tailIn K VE bm=true
theorem z2H {K:PySem.W.Frag} {h:Heap} {mg:Str->Option Value} {x:Str} {C N:Addr} {nm q:Str} {bs bm:List Value} {hdct:Bool} {sn:List Str} {sub:List Value} {ab:Bool} {col:Option Bool} {dd:Option Addr} {k0 k1 k2 k3 k5:Option Value}
  (X:K.In h) (G:h.Ns mainGlobals mg) (a:PySem.W.nsIn K mainGlobals x=some (some (.ref C))) (l:K.lookup C=some (excClassObj nm q C N bs bm hdct sn sub ab col dd k0 k1 k2 k3 k5 "ValueError.__new__"))
  (e:PySem.W.excIn K C VE "ValueError.__new__" = true):OX K mg x C bm:=by
 unfold PySem.W.excIn at e;rw[l] at e;simp only [Bool.and_eq_true,beq_iff_eq,Bool.not_eq_true'] at e;obtain⟨⟨⟨⟨⟨_,_⟩,_⟩,ht⟩,hok⟩,hni⟩:=e;exact⟨PySem.W.mg_of X G a,⟨N,nm,q,bs,hdct,sn,sub,ab,col,dd,k0,k1,k2,k3,k5,l,hok,hni⟩,ht⟩
noncomputable def z9e (X:Cx) (E:XK):Prop:=∀(pins:List (Addr×Obj)) (σ:St) (H:Hp) (s:Shared) (e:Addr) (cls:Value) (vs:List Value) (h':Heap),Inv X pins σ H s->Heap.MadeExcOf s.heap h' e cls vs->E cls (some e) H->X.xe (.ref e) { s with heap:=h' }
theorem qr {P:Program} {w:World} {K:PySem.W.Frag} {mg:Str->Option Value} {base:Heap} {N:List Str} {qual:Str} {scope:Scope} {f:Addr} {cd:Value} {A:Around} {outer:List Env} {s:Shared} {H:Hp} {E:XK} :
  z9e (qN (CXx P w) P w K mg base N qual scope f cd A outer s H E) E:=fun _ _ _ _ _ _ _ _ I hx q=>z2x I hx q
noncomputable def y0v (C:Addr) (E:XK) (t:TA):TS:=fun _ σ H=>t σ H fun vs H1=>vs.length<=1000/\∀a,H1 a=none->E (.ref C) (some a) H1
theorem xI {X:Cx} {x:Str} {C:Addr} {bm:List Value} {np cpos pos:Pos} {e₀:Expr} {rest:List Expr} {t:TA} {E:XK} (O:OX X.K X.mg x C bm) (hc:X.calm=true) (T:z9e X E) (ha:PA X (e₀::rest) t) (hg:Gl X x:=by rfl)
  (hdb:(x == ("__debug__" : Str))=false:=by decide) (he:starEach (e₀::rest) X.env=(false,eval e₀ X.env)::starEach rest X.env:=by rfl) (hpl:(backTo cpos (starEach rest X.env)).any (·.1)=false:=by rfl) :
  PS X (.Raise (some (.Call (.Name x np) (e₀::rest) [] cpos)) none pos) (y0v C E t):=by
 intro pins s σ H D I h;obtain⟨N,nm,q,bs,hdct,sn,sub,ab,col,dd,k0,k1,k2,k3,k5,lk,hok,hni⟩:=O.obj;have KB:X.K.In X.base:=I.mod.kin;refine wpAny_Raise_call_subT (C:=C) (nm:=nm) (q:=q) (N:=N) (bs:=bs) (bm:=bm) (hdct:=hdct) (sn:=sn) (sub:=sub) (ab:=ab) (col:=col) (dd:=dd) (k0:=k0) (k1:=k1) (k2:=k2) (k3:=k3) (k5:=k5)
  PySem.F.excBase_ValueError (mN:=X.base.nsMap N) ((PySem.W.tail_of_in I.kIn O.tail).hasType rfl) (I.ok.hd hc) (by rw[he];show (false || (backTo cpos (starEach rest X.env)).any (·.1))=false;rw[hpl];rfl) (PySem.W.nsMap_none_of_in KB hok hni) (jI I hg O.bound ⟨rfl,?_⟩ hdb)
 have h1:=ha cpos pins s σ H _ I h;rw[he] at h1 ⊢;refine Calls.evalArgs_plain (wpAny_mono h1 (fun us s₂ ⟨vs,H1,I1,r,hl,q⟩=>⟨rfl,?_,I1.kIn _ _ lk,?_,PySem.W.tail_of_in I1.kIn O.tail,fun h' e hm=>?_⟩) fun _ _ y=>y)
 ·rw[←r.length];exact Nat.le_of_lt (z6L hl)
 ·exact (Heap.Ns.of_isNs (PySem.W.isNs_of_in KB hok)).keeps I1.bk
 ·refine T pins σ H1 s₂ e _ _ h' I1 hm (q e ?_);cases z:H1 e with
  | none=>rfl
  | some o=>
   obtain⟨o',e1⟩:=ObjOk.there (I1.hok e o z);rw[hm.new] at e1;cases e1
theorem y1d {P:Program} {w:World} {CX:CXT} {K:PySem.W.Frag} {mg:Str->Option Value} {base:Heap} {N:List Str} {qual:Str} {scope:Scope} {f:Addr} {cd:Value} {A:Around} {outer:List Env} {s:Shared} {H:Hp} {E:XK} :
  PassesOwn (model P w) (qN CX P w K mg base N qual scope f cd A outer s H E).A (qN CX P w K mg base N qual scope f cd A outer s H E).env (qN CX P w K mg base N qual scope f cd A outer s H E).xe:=
 fun _ _ h=>wpAny_leaving_again (SameStack.refl _) h
noncomputable def HasX (P:Program) (w:World) (K:PySem.W.Frag) (mg:Str->Option Value) (base:Heap) (k:Nat) (x:Str) (ps:List Str) (sp:Sp):Prop:=
 ∃f fd,FnOk P w K mg base (CXx P w) k f fd ps sp/\(∀us:List Value,us.length=ps.length->bindArgs fd ⟨us,[]⟩=pure (ps.zip us))/\PySem.W.keepIn K (.ref f)=true/\mg x=some (.ref f)
theorem HasX.mono {P:Program} {w:World} {K:PySem.W.Frag} {mg:Str->Option Value} {base:Heap} {j k:Nat} {x:Str} {ps:List Str} {sp:Sp} (h:HasX P w K mg base j x ps sp) (hk:j<=k):HasX P w K mg base k x ps sp:=
 let ⟨f,fd,F,b⟩:=h
 ⟨f,fd,F.mono hk,b⟩
theorem HasX.imp {P:Program} {w:World} {K:PySem.W.Frag} {mg:Str->Option Value} {base:Heap} {k:Nat} {x:Str} {ps:List Str} {sp sp':Sp} (h:HasX P w K mg base k x ps sp) (i:∀vs H Q E,sp' vs H Q E->sp vs H Q E):HasX P w K mg base k x ps sp':=
 let ⟨f,fd,F,b⟩:=h
 ⟨f,fd,F.imp i,b⟩
theorem TF.hasX {P:Program} {w:World} {K:PySem.W.Frag} {mg:Str->Option Value} {base:Heap} {x:Str} {st:Stmt} {N ps:List Str} {k:Nat} {sp:Sp} (T:TF K mg x st) (S:FnScope N ps (zK st))
  (hb:∀(kV doc pm:Value) (an:Option Addr) (cdv ct:Value) (us:List Value),us.length=ps.length->bindArgs (PySem.W.fnOf x x (yg st) (yD st) (zK st) .none kV doc pm an cdv ct) ⟨us,[]⟩=pure (ps.zip us))
  (len:∀vs H Q E,sp vs H Q E->vs.length=ps.length)
  (hbody:∀(f:Addr) (cdv:Value) (A:Around) (outer:List Env) (s:Shared) (H:Hp) (vs:List V) (Q:VK) (E:XK),Room k (A.deeper (envOfC x (zK st) s.heap.objs.size f cdv))->sp vs H Q E->
   ∃t,PSs (qN (CXx P w) P w K mg base N x (zK st) f cdv A outer s H E) (yD st) t/\t { nx:=fun _ H'=>Q .non H',rt:=Q } (yo N vs) H):HasX P w K mg base (k+1) x ps sp:=by
 obtain⟨f,fd,F,m⟩:=T;obtain⟨oc,od,kV,doc,pm,an,cdv,ct,osl,rfl,lk,hcd⟩:=F.ex;exact⟨f,_,z8w lk hcd S len fun A outer s H vs Q E hr hsp=>hbody f cdv A outer s H vs Q E hr hsp,hb kV doc pm an cdv ct,F.kp,m⟩
theorem qg {X:Cx} {k:Nat} {x:Str} {ps:List Str} {sp:Sp} {p pos:Pos} {e:Expr} {es:List Expr} {t:TA} {E:XK} (h:HasX X.prog X.w X.K X.mg X.base k x ps sp) (hr:Room k X.A) (hx:vP (CXx X.prog X.w) X E) (ha:PA X (e::es) t) (hg:Gl X x:=by rfl)
  (hdb:(x == ("__debug__" : Str))=false:=by decide) (he:starEach (e::es) X.env=(false,eval e X.env)::starEach es X.env:=by rfl) (hpl:(backTo pos (starEach es X.env)).any (·.1)=false:=by rfl) :
  PE X (.Call (.Name x p) (e::es) [] pos) (z2z sp [] E t):=by
 obtain⟨f,fd,F,hb,hk,hm⟩:=h;exact z6Y F hr hg hm hk (.all hb) .nil hx ha hdb he hpl
section
variable {X:Cx} {pins:List (Addr×Obj)} {σ:St} {H:Hp} {s:Shared}
noncomputable def Ap (X:Cx) (pins:List (Addr×Obj)) (b:Addr):Prop:=X.s₀.heap.get? b=none/\b≠X.env.locals/\(∀x c,X.env.cells.lookup x=some c->c≠b)/\b∉X.fs/\∀p∈X.pn++pins,p.1≠b
theorem Inv.ap (I:Inv X pins σ H s) (hx:X.ex=[]) {b:Addr} (hb:s.heap.get? b=none):Ap X pins b:=by
 have no:∀ {c:Addr},(∃o,s.heap.get? c=some o)->c≠b:=fun {c} ⟨o,e⟩ z=>by rw[z,hb] at e;cases e
 refine⟨?_,(no (let ⟨_,⟨o,_,_,e,_⟩,_⟩:=I.loc;⟨o,e⟩)).symm,fun x c e=>no (let ⟨_,o,q,_⟩:=I.cell x c e;⟨o,q⟩),fun z=>no (let ⟨_,o,e,_⟩:=I.funs.mem z;⟨o,e⟩) rfl,fun p hp=>no ⟨_,(I.pin p hp).1⟩⟩;cases q:X.s₀.heap.get? b with
 | none=>rfl
 | some o=>exact absurd rfl (no (I.base.there b o q (by rw[hx];simp)))
theorem Inv.exs {as:List Addr} (I:Inv X pins σ H s) (has:∀a∈as,Ap X pins a):Inv { X with ex:=X.ex++as } pins σ H s:=by
 have ok:=I.ok;refine⟨⟨ok.mod,ok.kind,ok.glob,ok.blt,ok.above,ok.inj,ok.has,ok.cab,ok.hd,ok.frames,ok.stk,fun b hb=>?_,ok.bs,ok.bsz,fun b o e hb=>?_,fun b hb=>?_,ok.funs,ok.frf⟩,I.os,I.bare,
  I.base.mono (fun _ h=>h) (fun b hb=>List.mem_append_left _ hb),I.loc,I.cell,I.free,I.freeC,I.pin,I.hok,I.len⟩
 ·exact (List.mem_append.mp hb).elim (ok.exf b) fun z=>⟨(has b z).2.1,(has b z).2.2.1⟩
 ·refine (List.mem_append.mp hb).elim (ok.noex b o e) fun z=>?_;have:=(ok.bs b o e).1;rw[(has b z).1] at this;cases this
 ·exact (List.mem_append.mp hb).elim (ok.exfs b) fun z=>(has b z).2.2.2.1
theorem Inv.unexs {as:List Addr} (I:Inv { X with ex:=X.ex++as } pins σ H s) (ok:X.Ok) (has:∀a∈as,X.s₀.heap.get? a=none):Inv X pins σ H s:=by
 have ne:∀b o,X.s₀.heap.get? b=some o->b∉X.ex->b∉X.ex++as:=fun b o e hx hb=>(List.mem_append.mp hb).elim hx fun z=>by rw[has b z] at e;cases e
 exact⟨ok,I.os,I.bare,⟨fun b o e n hb hx=>I.base.keep b o e n hb (ne b o e hx),fun b o e n hb hx=>I.base.slot b o e n hb (ne b o e hx),fun b o e n hx=>I.base.free b o e n (ne b o e hx),fun b o e hx=>I.base.there b o e (ne b o e hx),
  I.base.tups,I.base.frzs,I.base.tbls⟩,I.loc,I.cell,I.free,I.freeC,I.pin,I.hok,I.len⟩
theorem Inv.fly {as:List Addr} {h':Heap} (I:Inv X pins σ H s) (has:∀a∈as,Ap X pins a/\H a=none)
  (keep:∀b o,b∉frs X.stack++as->s.heap.get? b=some o->h'.get? b=some o) (slot:∀b o,b∈frs X.stack->s.heap.get? b=some o->∃sl,h'.get? b=some { o with slots:=sl }):Inv X pins σ H { s with heap:=h' }:=by
 have u:Un (frs X.stack) as H H s.heap h':=⟨fun b o q _ hb hx=>keep b o (fun z=>(List.mem_append.mp z).elim hb hx) q,fun b o q _ hb _=>slot b o hb q,fun _ _ _ n _=>n,fun b o q hx=>by
   by_cases hb:b∈frs X.stack
   ·obtain⟨sl,e⟩:=slot b o hb q;exact⟨_,e⟩
   ·exact⟨o,keep b o (fun z=>(List.mem_append.mp z).elim hb hx) q⟩,fun _ _ e=>e,fun _ _ _ e=>e,fun _ ps e=>⟨#[],by rw[e];simp⟩⟩
 have hok:HOk X.prog X.w H h':=I.hok.but _ (fun a z=>(List.mem_append.mp z).elim (I.stkFree a) fun y=>(has a y).2) keep;have J:=(I.exs fun a z=>(has a z).1).call (g':=s.gens) (t':=s.toks) (d':=s.drawn) (ch:=as) u hok I.bare fun b hb=>⟨.inl (List.mem_append_right _ hb),(has b hb).1.2.1,(has b hb).1.2.2.1,(has b hb).1.2.2.2.2⟩
 exact J.unexs I.ok fun a z=>(has a z).1.1
noncomputable def FlyAt (X:Cx) (pins:List (Addr×Obj)) (H:Hp) (h:Heap) (a:Addr) (cls:Value):Prop:=
 ∃oe vs T oT ts a0,h.get? a=some oe/\(oe.cls=cls/\vs[0]?=some a0)/\oe.data=.fields vs/\vs[1]?=some (.ref T)/\T≠a/\h.get? T=some oT/\oT.data=.fields ts/\ts[3]?=some .none/\∀b∈[a,T],Ap X pins b/\H b=none
noncomputable def XE (X:Cx) (pins:List (Addr×Obj)) (σ:St) (E:XK) (e:Value) (s':Shared):Prop:=∃a cls H',e=.ref a/\Inv X pins σ H' s'/\FlyAt X pins H' s'.heap a cls/\E cls (some a) H'
theorem Inv.afterXE {s':Shared} {E:XK} {e:Value} (hx:X.ex=[]) (I:Inv X pins σ H s) (h:CXx X.prog X.w X.stack H s E e s'):XE X pins σ E e s':=by
 obtain⟨a,cls,H',rfl,I',fl,q⟩:=Inv.afterX I h;obtain⟨oe,vs,T,oT,ts,a0,he,hc,hd,hv1,hTe,hT,hdT,h3,hsT,hHT⟩:=fl.obj;refine⟨a,cls,H',rfl,I',⟨oe,vs,T,oT,ts,a0,he,hc,hd,hv1,hTe,hT,hdT,h3,fun b hb=>?_⟩,q⟩;rcases List.mem_cons.mp hb with rfl|hb
 ·exact⟨I.ap hx fl.new,fl.free⟩
 ·rw[List.mem_singleton.mp hb];exact⟨I.ap hx hsT,hHT⟩
theorem FlyAt.held {a T:Addr} {cls a0:Value} {h5:Heap} (hx:X.ex=[]) (I:Inv X pins σ H s) (has:∀b∈[a,T],Ap X pins b/\H b=none)
  (hfl:Heap.FlyingW (PySem.W.hideAll s.heap (frs X.stack++[a,T])) X.stack a cls a0 h5) (sm:s.heap.UpToSlots h5):Inv X pins σ H { s with heap:=h5 }/\FlyAt X pins H h5 a cls:=by
 have keep:∀b o,b∉frs X.stack++[a,T]->s.heap.get? b=some o->h5.get? b=some o:=fun b o hb q=>hfl.1 b o (PySem.W.hideAll_get _ q hb);have slot:∀b o,b∈frs X.stack->s.heap.get? b=some o->∃sl,h5.get? b=some { o with slots:=sl }:=fun b o hb q=>by
  obtain⟨_,o',ho',hn⟩:=I.stack.mem hb;rw[q] at ho';cases ho';exact sm b o q hn
 have I':=I.fly (as:=[a,T]) has keep slot;obtain⟨_,_,k2,oe,vs,T',oT,ts,he,hc,hd,hv1,hnT,hTe,hT,hdT,h3⟩:=hfl;have hTf:T'∉frs X.stack:=fun z=>by
  obtain⟨_,o,ho,hn⟩:=k2.mem z;rw[hT] at ho;cases ho;exact hn _ hdT
 have hT':Ap X pins T'/\H T'=none:=by
  cases q:s.heap.get? T' with
  | none=>
   refine⟨I.ap hx q,?_⟩;cases z:H T' with
   | none=>rfl
   | some o=>
    obtain⟨o',e⟩:=ObjOk.there (I.hok T' o z);rw[q] at e;cases e
  | some o=>
   refine has T' ?_;by_cases z:T'∈frs X.stack++[a,T]
   ·exact (List.mem_append.mp z).elim (fun y=>absurd y hTf) id
   ·have:=PySem.W.hideAll_get (h:=s.heap) _ q z;rw[hnT] at this;cases this
 refine⟨I',oe,vs,T',oT,ts,a0,he,hc,hd,hv1,hTe,hT,hdT,h3,fun b hb=>?_⟩;rcases List.mem_cons.mp hb with rfl|hb
 ·exact has _ (by simp)
 ·rw[List.mem_singleton.mp hb];exact hT'
theorem y3Z {M:Model} {a:Addr} {cls:Value} {Q:Shared->Prop} {A':Around} {E1 E2:Value->Shared->Prop} (hx:X.ex=[]) (hst:X.stack=X.env::X.outer) (hf:X.env.frame=some X.env.locals) (I:Inv X pins σ H s) (fl:FlyAt X pins H s.heap a cls)
  (h:∀h5,Inv X pins σ H { s with heap:=h5 }->FlyAt X pins H h5 a cls->Q { s with heap:=h5 }) :
  wpAny M X.A (noteFrame (.ref a) X.env) (fun _ s2=>wpAny M A' (setFlight (.ref a) none) (fun _ s3=>Q s3) E1 s2) E2 s:=by
 obtain⟨oe,vs,T,oT,ts,a0,he,hc,hd,hv1,hTe,hT,hdT,h3,has⟩:=fl;have hFB:s.heap.FunFrames (PySem.W.hideAll s.heap (frs X.stack++[a,T])) X.stack:=PySem.W.funFrames_hide I.stack fun env z b hb=>List.mem_append_left _ (List.mem_filterMap.mpr ⟨env,z,hb⟩);have hfl:Heap.FlyingW (PySem.W.hideAll s.heap (frs X.stack++[a,T])) X.stack a cls a0 s.heap:=
  ⟨fun b o z=>PySem.W.of_hideAll _ z,PySem.W.hideAll_none _ (by simp),hFB,oe,vs,T,oT,ts,he,hc,hd,hv1,PySem.W.hideAll_none _ (by simp),hTe,hT,hdT,h3⟩
 have hfr:=I.ok.frames;refine wpAny_looks_onW (base:=PySem.W.hideAll s.heap (frs X.stack++[a,T])) (outer:=X.outer) (cls:=cls) (a0:=a0) (by rw[hfr,hst]) hf (by rw[←hst];exact hfl) fun h4 hheld sm4=>?_;refine wpAny_landsW hheld fun h5 hfl5 sm5=>?_;rw[←hst] at hfl5;obtain⟨I5,F5⟩:=FlyAt.held hx I has hfl5 (sm4.trans sm5);exact h h5 I5 F5
theorem y2a {M:Model} {a:Addr} {cls:Value} {Q:Unit->Shared->Prop} {A':Around} {E1:Value->Shared->Prop} (hx:X.ex=[]) (I:Inv X pins σ H s) (fl:FlyAt X pins H s.heap a cls)
  (h:∀h5,Inv X pins σ H { s with heap:=h5 }->FlyAt X pins H h5 a cls->Q () { s with heap:=h5 }):wpAny M A' (setFlight (.ref a) none) Q E1 s:=by
 obtain⟨oe,vs,T,oT,ts,a0,he,hc,hd,hv1,hTe,hT,hdT,h3,has⟩:=fl;have hFB:s.heap.FunFrames (PySem.W.hideAll s.heap (frs X.stack++[a,T])) X.stack:=PySem.W.funFrames_hide I.stack fun env z b hb=>List.mem_append_left _ (List.mem_filterMap.mpr ⟨env,z,hb⟩);have hfl:Heap.FlyingW (PySem.W.hideAll s.heap (frs X.stack++[a,T])) X.stack a cls a0 s.heap:=
  ⟨fun b o z=>PySem.W.of_hideAll _ z,PySem.W.hideAll_none _ (by simp),hFB,oe,vs,T,oT,ts,he,hc,hd,hv1,PySem.W.hideAll_none _ (by simp),hTe,hT,hdT,h3⟩
 refine lands_againW hfl fun h5 hfl5 sm5=>?_;obtain⟨I5,F5⟩:=FlyAt.held hx I has hfl5 sm5;exact h h5 I5 F5
noncomputable def wF (a:Addr) (cls:Value):HO:=.ext fun h=>∃o,h.get? a=some o/\o.cls=cls
theorem Inv.track {a:Addr} {cls:Value} (I:Inv X pins σ H s) (fl:FlyAt X pins H s.heap a cls):Inv X pins σ (upd H a (wF a cls)) s:=by
 obtain⟨oe,vs,T,oT,ts,a0,he,⟨hc,_⟩,_,_,_,_,_,_,has⟩:=fl;obtain⟨ap,hn⟩:=has a (by simp);have u:Un (frs X.stack) [a] H (upd H a (wF a cls)) s.heap s.heap:=⟨fun b o q _ _ _=>q,fun b o q _ _ _=>⟨o.slots,q⟩,fun b o _ n hb=>by rw[za (fun z=>hb (by simp [z]))];exact n,fun b o q _=>⟨o,q⟩,
  fun b xs e=>by rw[za (zd e hn)];exact e,fun b o x e=>by rw[za (zd e hn)];exact e,fun b ps e=>⟨#[],by rw[za (zd e hn),e];simp⟩⟩
 have hok:HOk X.prog X.w (upd H a (wF a cls)) s.heap:=fun b o e=>by
  by_cases z:b=a
  ·subst z;rw[zG] at e;cases e;exact⟨⟨oe,he,hc⟩,⟨oe,he⟩,fun h1 h2 ⟨o,e1,c1⟩ k=>⟨o,k o e1,c1⟩⟩
  ·rw[za z] at e;exact (I.hok b o e).stay (fun c v _ q=>q) (fun c q=>by
    rw[za (zd q hn)];exact q) fun c xs q=>by rw[za (zd q hn)];exact q
 have J:=(I.exs (as:=[a]) fun b hb=>by rw[List.mem_singleton.mp hb];exact ap).call (g':=s.gens) (t':=s.toks) (d':=s.drawn) (ch:=[a]) u hok I.bare fun b hb=>by
  rw[List.mem_singleton.mp hb];exact⟨.inl (List.mem_append_right _ (by simp)),ap.2.1,ap.2.2.1,ap.2.2.2.2⟩
 exact J.unexs I.ok fun b hb=>by rw[List.mem_singleton.mp hb];exact ap.1
end
theorem wq {es:Array DictEntry} {i:Nat} {name y:Str} (hi:es.findIdx? (·.key.isStr name)=some i) (hy:y≠name):nsFind (es.eraseIdxIfInBounds i) y=nsFind es y:=by
 obtain⟨l⟩:=es;have h1:=Array.findIdx?_eq_some_iff_getElem.mp hi;obtain⟨hlt,hp,_⟩:=h1;unfold nsFind findBy;have e:(({ toList:=l }:Array DictEntry).eraseIdxIfInBounds i) = { toList:=l.eraseIdx i }:=by
  unfold Array.eraseIdxIfInBounds;rw[dif_pos hlt];simp
 rw[e,←Array.find?_toList,←Array.find?_toList,qL];intro a ha;have hlt':i<l.length:=by simpa using hlt
 rw[List.getElem?_eq_getElem hlt'] at ha;cases ha;have hp':l[i].key.isStr name=true:=by simpa using hp
 cases q:l[i].key.isStr y with
 | false=>exact q
 | true=>
  exfalso;revert hp' q;cases l[i].key <;> simp [Value.isStr];intro a b;exact hy (b.symm.trans a)
section
variable {M:Model} {A:Around} {E:Value->Shared->Prop} {s:Shared}
theorem z3O {a:Addr} {m:Str->Option Value} {name:Str} {Q:Bool->Shared->Prop} (hn:s.heap.Ns a m)
  (hQ:∀h' m',h'.Ns a m'->(∀y,y≠name->m' y=m y)->Heap.SameBut a s.heap h'->Q (m name).isSome { s with heap:=h' }):wpAny M A (nsDel a name) Q E s:=by
 obtain⟨o,es,ep,ho,hd,hk,hm⟩:=id hn;have hany:es.any (·.refKey)=false:=by
  rw[Array.any_eq_false'];intro e he;obtain⟨n,t,h⟩:=hk e he;simp [DictEntry.refKey,h]
 have hsome:(m name).isSome=es.any (·.key.isStr name):=by
  rw[←hm name];simp only [nsFind,findBy,Option.isSome_map];rw[Bool.eq_iff_iff];simp only [Array.find?_isSome,Array.any_eq_true];constructor
  ·rintro⟨x,hx,hp⟩;obtain⟨i,hi,rfl⟩:=Array.mem_iff_getElem.mp hx;exact⟨i,hi,hp⟩
  ·rintro⟨i,hi,hp⟩;exact⟨_,Array.getElem_mem hi,hp⟩
 have hhas:nsHas name o=pure (es.any (·.key.isStr name)):=by
  rw[nsHas_eq];unfold nsHasByArray;rw[hd];show (if (es.any fun x=>x.key.isStr name)=true then _ else _)=_;generalize (es.any fun x=>x.key.isStr name)=b;cases b <;> simp [hany]
 unfold nsDel;refine wpAny_bind (wpAny_loadPart ho ?_);rw[hhas];refine wpAny_bind (wpAny_pure ?_);rw[←hsome];cases hmn:(m name).isSome
 ·have:=hQ s.heap m hn (fun _ _=>rfl) (.refl ..);rw[hmn] at this;exact wpAny_pure this
 ·refine wpAny_bind (wpAny_updatePart ho (wpAny_pure ?_));have key:∃m',(s.heap.update a (Obj.dropName name)).Ns a m'/\∀y,y≠name->m' y=m y:=by
   obtain⟨cl,d,dt,sl⟩:=o;subst hd;cases hi:es.findIdx? (·.key.isStr name) with
   | some i=>exact⟨_,⟨_,_,ep+1,Heap.get?_update_self _ ho (by simp only [Obj.dropName_eq,Obj.dropNameByArray,hi] <;> rfl),(by simp only [Obj.dropName_eq,Obj.dropNameByArray,hi] <;> rfl),hk.erase i,fun _=>rfl⟩,fun y hy=>(wq hi hy).trans (hm y)⟩
   | none=>exact⟨_,⟨_,_,ep,Heap.get?_update_self _ ho (by simp only [Obj.dropName_eq,Obj.dropNameByArray,hi] <;> rfl),(by simp only [Obj.dropName_eq,Obj.dropNameByArray,hi] <;> rfl),hk,fun _=>rfl⟩,fun y _=>hm y⟩
  obtain⟨m',hm',hy⟩:=key;have:=hQ _ m' hm' hy (Heap.SameBut.update ..);rw[hmn] at this;exact this
end
theorem jz {X:Cx} {pins:List (Addr×Obj)} {σ:St} {H:Hp} {s:Shared} {A:Around} {E:Value->Shared->Prop} {i:Nat} {n:Str} {pos:Pos} {Q:Unit->Shared->Prop} (I:Inv X pins σ H s) (hN:X.N.Nodup) (hi:X.N[i]?=some n) (hl:X.env.scope.names.lookup n=some .local)
  (h:∀s',Inv X pins (σ.set i none) H s'->Q () s'):wpAny (model X.prog X.w) A (do bindName X.env n .none;unbindBehindTheSuite X.env n pos) Q E s:=by
 have hp:(X.env.scope.kind == .class || (X.env.scope.kind == .module && X.env.locals != X.env.globals))=false:=by rw[I.ok.kind];rfl
 have hkl:X.env.kindOf n=some .local:=hl;refine wpAny_bind (wpAny_bindName (yu (v:=.non) (u:=.none) I hN hi (.inl hl) rfl (fun s1 I1=>?_) (.inr hl)));unfold unbindBehindTheSuite;refine wpAny_onRaise ?_;unfold unbindName;refine wpAny_bind (wpAny_point (wpAny_bind ?_));unfold deleteName;simp only [hkl,hp];rw[if_neg (by decide)];obtain⟨m,hn,hlk⟩:=id I1.loc;refine wpAny_bind (z3O hn fun h₂ m₂ hn₂ hy hs₂=>?_);have hmn:(m n).isSome=true:=by
  have hiσ:i<σ.length:=by rw[I.len];exact (List.getElem?_eq_some_iff.mp hi).1
  obtain⟨u,_,l⟩:=hlk i n .non hi (by rw[List.getElem?_set_self hiσ]) (.inl hl);rcases l with⟨_,e⟩|⟨k,_⟩
  ·rw[e];rfl
  ·rw[hkl] at k;rcases k with k|k <;> cases k
 rw[hmn];simp only [if_true,Bool.not_true,Bool.false_eq_true,if_false];refine wpAny_pure (wpAny_point (h _ ?_));obtain⟨hp1,g1,d1,t1,os1⟩:=s1;have hok:HOk X.prog X.w H h₂:=I1.hok.but [X.env.locals] (fun a ha=>by rw[List.mem_singleton.mp ha];exact I1.free) fun b o hb q=>(hs₂.2 b (fun z=>hb (by simp [z]))).trans q;have oth:∀b,b≠X.env.locals->h₂.get? b=hp1.get? b:=fun b hb=>hs₂.2 b hb;have neL:∀b o,X.s₀.heap.get? b=some o->b≠X.env.locals:=fun b o e=>Nat.ne_of_lt (Nat.lt_of_lt_of_le (Heap.lt_size e) I1.ok.above);have cellK:∀x c,X.env.cells.lookup x=some c->∀v,hp1.IsCell c v->h₂.IsCell c v:=fun x c e v ⟨o,ho,hd⟩=>⟨o,(oth c (I1.cne x c e)).trans ho,hd⟩
 refine⟨I1.ok,I1.os,I1.bare,⟨fun b o e n hb hx=>(oth b (neL b o e)).trans (I1.base.keep b o e n hb hx),fun b o e n hb hx=>?_,I1.base.free,fun b o e hx=>?_,I1.base.tups,I1.base.frzs,I1.base.tbls⟩,⟨m₂,hn₂,fun j y v e1 e2 e3=>?_⟩,
  fun x c e=>?_,I1.free,I1.freeC,fun p hp=>?_,hok,by rw[List.length_set];exact I.len⟩
 ·obtain⟨sl,q⟩:=I1.base.slot b o e n hb hx;exact⟨sl,(oth b (neL b o e)).trans q⟩
 ·obtain⟨o',q⟩:=I1.base.there b o e hx;exact⟨o',(oth b (neL b o e)).trans q⟩
 ·have hji:j≠i:=fun z=>by
   subst z;rw[List.getElem?_set] at e2;split at e2
   ·split at e2 <;> cases e2
   ·rename_i z;exact z rfl
  have hyn:y≠n:=fun z=>hji (z1D hN e1 (z▸hi));obtain⟨u,r,l⟩:=hlk j y v e1 (by rw[List.getElem?_set_ne (Ne.symm hji)] at e2 ⊢;exact e2) e3;refine⟨u,r,?_⟩;rcases l with⟨k,e⟩|⟨k,c,e,z⟩
  ·exact .inl ⟨k,(hy y hyn).trans e⟩
  ·exact .inr ⟨k,c,e,cellK y c e _ z⟩
 ·obtain⟨v,z⟩:=I1.cell x c e;exact⟨v,cellK x c e v z⟩
 ·obtain⟨e,n',ne,nf,d⟩:=I1.pin p hp;exact⟨(oth p.1 ne).trans e,n',ne,nf,d⟩
noncomputable abbrev Cx.suite (X:Cx) (a:Addr):Cx:={ X with A:=X.A.mark (some (.ref a)),calm:=false,xe:=fun _ _=>False }
section
variable {X:Cx} {pins:List (Addr×Obj)} {σ:St} {H:Hp} {s:Shared} {a:Addr}
theorem Inv.suite (I:Inv X pins σ H s) (a:Addr):Inv (X.suite a) pins σ H s:=
 have ok:=I.ok
 ⟨⟨ok.mod,ok.kind,ok.glob,ok.blt,ok.above,ok.inj,ok.has,ok.cab,fun z=>(Bool.false_ne_true z).elim,ok.frames,ok.stk,ok.exf,ok.bs,ok.bsz,ok.noex,ok.exfs,ok.funs,ok.frf⟩,I.os,I.bare,I.base,I.loc,I.cell,I.free,I.freeC,I.pin,I.hok,I.len⟩
theorem Inv.unsuite (I:Inv (X.suite a) pins σ H s) (ok:X.Ok):Inv X pins σ H s:=⟨ok,I.os,I.bare,I.base,I.loc,I.cell,I.free,I.freeC,I.pin,I.hok,I.len⟩
theorem SP.unsuite {D:Ends} {f:Flow} (h:SP (X.suite a) pins D f s) (ok:X.Ok):SP X pins D f s:=by
 cases f with
 | next=>obtain⟨σ',H',I,q⟩:=h;exact⟨σ',H',I.unsuite ok,q⟩
 | brk=>obtain⟨σ',H',I,q⟩:=h;exact⟨σ',H',I.unsuite ok,q⟩
 | cont=>obtain⟨σ',H',I,q⟩:=h;exact⟨σ',H',I.unsuite ok,q⟩
 | ret u=>obtain⟨v,σ',H',I,r,q⟩:=h;exact⟨v,σ',H',I.unsuite ok,r,q⟩
end
section
variable {M:Model} {A:Around} {E:Value->Shared->Prop}
variable {nm q nm' q':Str} {C N C' N':Addr} {bs bm bs' bm':List Value} {hdct hdct':Bool} {sn sn':List Str} {sub sub':List Value} {ab ab':Bool} {col col':Option Bool} {dd dd':Option Addr} {k0 k1 k2 k3 k5 l0 l1 l2 l3 l5:Option Value} {newId newId':String}
theorem v3 {h:Heap} {g:Array GenState} {d:Drawn} {t:Nat} {os:OsState} {e:Addr} {oe:Obj} {Q:Bool->Shared->Prop}
  (hC:h.get? C=some (excClassObj nm q C N bs bm hdct sn sub ab col dd k0 k1 k2 k3 k5 newId)) (hC':h.get? C'=some (excClassObj nm' q' C' N' bs' bm' hdct' sn' sub' ab' col' dd' l0 l1 l2 l3 l5 newId'))
  (he:h.get? e=some oe) (hcls:oe.cls=.ref C) (hbase:bm'.contains (.type "BaseException")=true)
  (hq:Q ((Value.ref C::bm).contains (.ref C')) ⟨h,g,d,t,os⟩):wpAny M A (excMatches (.ref e) (.ref C')) Q E ⟨h,g,d,t,os⟩:=by
 have hcB:(Value.ref C'::bm').contains (.type "BaseException")=true:=by rw[List.contains_cons,hbase,Bool.or_true]
 have f:=tc_notTuple;unfold excMatches
 repeat (first|(with_reducible refine wpAny_loadPart_at he ?_;rw[hcls])|with_reducible refine wpAny_loadPart_at hC' ?_|(with_reducible refine wpAny_isSubtype_exc hC' ?_;rw[hcB])|with_reducible refine wpAny_isSubtype_exc hC ?_|wp_step)
 cases hb:(Value.ref C::bm).contains (.ref C') <;> (rw[hb] at hq;wp_walk;exact hq)
end
noncomputable def PM (X:Cx) (t:Expr) (cls:Value) (tm:TT):Prop:=
 ∀(pins:List (Addr×Obj)) (s:Shared) (σ:St) (H:Hp) (a:Addr) (oa:Obj) (Q:Bool->Hp->Prop),Inv X pins σ H s->(a,oa)∈pins->oa.cls=cls->tm σ H Q->
  wpAny (model X.prog X.w) X.A (eval t X.env) (fun c s1=>wpAny (model X.prog X.w) X.A (excMatches (.ref a) c) (TP X pins σ Q) (fun _ _=>False) s1) (fun _ _=>False) s
noncomputable def z3A (b:Bool):TT:=fun _ H Q=>Q b H
theorem qy {X:Cx} {x x':Str} {C C':Addr} {bm bm':List Value} {p:Pos} (O:OX X.K X.mg x C bm) (O':OX X.K X.mg x' C' bm') (hg:Gl X x':=by rfl) (hdb:(x' == ("__debug__" : Str))=false:=by decide) :
  PM X (.Name x' p) (.ref C) (z3A ((Value.ref C::bm).contains (.ref C'))):=by
 intro pins s σ H a oa Q I hp hc h;obtain⟨N,nm,q,bs,hdct,sn,sub,ab,col,dd,k0,k1,k2,k3,k5,lk,_,_⟩:=O.obj;obtain⟨N',nm',q',bs',hdct',sn',sub',ab',col',dd',l0,l1,l2,l3,l5,lk',_,_⟩:=O'.obj;refine jI I hg O'.bound ?_ hdb;obtain⟨hp',g,d,t,os⟩:=s;exact v3 (I.kIn _ _ lk) (I.kIn _ _ lk') (I.pin _ (List.mem_append_right _ hp)).1 hc ((PySem.W.tail_of_in I.kIn O'.tail).hasType rfl) ⟨H,I,h⟩
noncomputable def PH (X:Cx) (hs:List ExceptHandler) (t:Addr->Value->TS):Prop:=
 ∀(pins:List (Addr×Obj)) (s:Shared) (σ:St) (H:Hp) (D:Ends) (a:Addr) (cls:Value),Inv X pins σ H s->FlyAt X pins H s.heap a cls->t a cls D σ H->
  wpAny (model X.prog X.w) X.A (handleBy (.ref a) X.env hs) (SP X pins D) (fun _ _=>False) s
theorem Inv.pinX {X:Cx} {pins:List (Addr×Obj)} {σ:St} {H:Hp} {s:Shared} {a:Addr} {cls:Value} (I:Inv X pins σ H s) (fl:FlyAt X pins H s.heap a cls) :
  ∃oa T oT,Inv X ([(a,oa),(T,oT)]++pins) σ H s/\oa.cls=cls/\∀ {H':Hp} {s':Shared},Inv X ([(a,oa),(T,oT)]++pins) σ H' s'->FlyAt X pins H' s'.heap a cls:=by
 obtain⟨oe,vs,T,oT,ts,a0,he,hc,hd,hv1,hTe,hT,hdT,h3,has⟩:=fl;refine⟨oe,T,oT,I.pins_of fun p hp=>?_,hc.1,fun {H' s'} J=>?_⟩
 ·rcases List.mem_append.mp hp with z|z
  ·rcases List.mem_cons.mp z with rfl|z
   ·exact⟨he,(has a (by simp)).2,(has a (by simp)).1.2.1,(has a (by simp)).1.2.2.2.1,fun v e=>by rw[hd] at e;cases e⟩
   ·rw[List.mem_singleton.mp z];exact⟨hT,(has T (by simp)).2,(has T (by simp)).1.2.1,(has T (by simp)).1.2.2.2.1,fun v e=>by rw[hdT] at e;cases e⟩
  ·exact I.pin p (List.mem_append_right _ z)
 ·have pa:=J.pin (a,oe) (List.mem_append_right _ (by simp));have pT:=J.pin (T,oT) (List.mem_append_right _ (by simp));refine⟨oe,vs,T,oT,ts,a0,pa.1,hc,hd,hv1,hTe,pT.1,hdT,h3,fun b hb=>?_⟩;rcases List.mem_cons.mp hb with rfl|hb
  ·exact⟨(has _ (by simp)).1,pa.2.1⟩
  ·rw[List.mem_singleton.mp hb];exact⟨(has T (by simp)).1,pT.2.1⟩
theorem Inv.unpin {X:Cx} {pins more:List (Addr×Obj)} {σ:St} {H:Hp} {s:Shared} (I:Inv X (more++pins) σ H s):Inv X pins σ H s:=I.pins_of fun p hp=>I.pin p (List.mem_append_right _ (List.mem_append_right _ hp))
noncomputable def z9j (cls0:Value) (tm:TT) (take rest:Addr->Value->TS):Addr->Value->TS:=fun a cls D σ H=>cls=cls0/\tm σ H fun b H'=>if b=true then take a cls D σ H' else rest a cls D σ H'
noncomputable def x6 (i:Nat) (tb:TS):Addr->Value->TS:=fun a cls D σ H=>
 tb { nx:=fun σ' H'=>D.nx (σ'.set i none) H',rt:=D.rt,bk:=fun σ' H'=>D.bk (σ'.set i none) H',ct:=fun σ' H'=>D.ct (σ'.set i none) H' } (σ.set i (some (.ref a))) (upd H a (wF a cls))
section
variable {X:Cx} {t:Expr} {b₀:Stmt} {body:List Stmt} {pos:Pos} {rest:List ExceptHandler} {cls0:Value} {tm:TT} {tb:TS} {tr:Addr->Value->TS}
theorem qz:PH X [] fun _ _ _ _ _=>False:=fun _ _ _ _ _ _ _ _ _ h=>h.elim
theorem yU {i:Nat} {n:Str} (hx:X.ex=[]) (hN:X.N.Nodup) (hm:∀a,PM (X.suite a) t cls0 tm) (hb:∀a,PSs (X.suite a) (b₀::body) tb) (hr:PH X rest tr) (hi:X.N[i]?=some n:=by rfl) (hl:X.env.scope.names.lookup n=some .local:=by rfl) :
  PH X (.ExceptHandler (some t) (some n) (b₀::body) pos::rest) (z9j cls0 tm (x6 i tb) tr):=by
 intro pins s σ H D a cls I fl ⟨hcl,h⟩;subst hcl;refine wpAny_handleBy_cons (codeAny_handlers_test ?_) (by intro q;cases q);obtain⟨oa,T,oT,J,hc,back⟩:=I.pinX fl;have h1:=hm a _ s σ H a oa _ (J.suite a) (by simp) hc h;refine wpAny_mono h1 (fun c s1 h2=>wpAny_mono h2 (fun b s2 ⟨H2,J2,q⟩=>?_) fun _ _ z=>z.elim) fun _ _ z=>z.elim;have J3:=J2.unsuite I.ok;cases b with
 | true=>
  refine codeAny_handlers_suite_as (y2a hx J3.unpin (back J3) fun h5 I5 F5=>?_);refine yu (v:=.ref a) (I5.track F5) hN hi (.inl hl) rfl (fun s6 I6=>?_) (.inr hl);refine wpAny_mono (hb a pins s6 _ _ _ (I6.suite a) q) (fun f s7 hf=>?_) fun _ _ z=>z.elim;have hf:=hf.unsuite I.ok;cases f with
  | next=>obtain⟨σ',H',I7,q7⟩:=hf;exact jz I7 hN hi hl fun s8 I8=>⟨_,H',I8,q7⟩
  | brk=>obtain⟨σ',H',I7,q7⟩:=hf;exact jz I7 hN hi hl fun s8 I8=>⟨_,H',I8,q7⟩
  | cont=>obtain⟨σ',H',I7,q7⟩:=hf;exact jz I7 hN hi hl fun s8 I8=>⟨_,H',I8,q7⟩
  | ret u=>obtain⟨v,σ',H',I7,r,q7⟩:=hf;exact jz I7 hN hi hl fun s8 I8=>⟨v,_,H',I8,r,q7⟩
 | false=>exact hr pins s2 σ H2 D a cls J3.unpin (back J3) q
end
noncomputable def PXe (X:Cx) (e:Expr) (t:XK->TE):Prop:=∀(pins:List (Addr×Obj)) (s:Shared) (σ:St) (H:Hp) (Q:VK) (E:XK),Inv X pins σ H s->t E σ H Q->wpAny (model X.prog X.w) X.A (eval e X.env) (EP X pins σ Q) (XE X pins σ E) s
noncomputable def PXs (X:Cx) (st:List Stmt) (t:XK->TS):Prop:=∀(pins:List (Addr×Obj)) (s:Shared) (σ:St) (H:Hp) (D:Ends) (E:XK),Inv X pins σ H s->t E D σ H->wpAny (model X.prog X.w) X.A (execs st X.env) (SP X pins D) (XE X pins σ E) s
section
variable {X:Cx} {e:Expr} {es:List Expr} {pos p:Pos} {t:TA}
theorem z4J {k:Nat} {x:Str} {ps:List Str} {sp:Sp} (hx:X.ex=[]) (h:HasX X.prog X.w X.K X.mg X.base k x ps sp) (hr:Room k X.A) (ha:PA X.nox (e::es) t) (hg:Gl X x:=by rfl)
  (hdb:(x == ("__debug__" : Str))=false:=by decide) (he:starEach (e::es) X.env=(false,eval e X.env)::starEach es X.env:=by rfl) (hpl:(backTo pos (starEach es X.env)).any (·.1)=false:=by rfl) :
  PXe X (.Call (.Name x p) (e::es) [] pos) fun E=>z2z sp [] E t:=by
 intro pins s σ H Q E I hw;obtain⟨f,fd,F,hb,hk,hm⟩:=h;refine wpAny_Call_Name_kw (jI I hg hm ?_ hdb);refine PySem.W.callWith_K (h₀:=X.base) I.ok.mod.kin hk (wpAny_mono (ha pos pins s σ H _ (I.wish _) hw) (fun us s1 ⟨vs,H1,I1,r,q⟩=>⟨I1.kIn,?_⟩) fun _ _ z=>z.elim) he hpl;have J:=I1.unwish;have q:sp vs H1 Q E:=by have z:sp (vs++[]) H1 Q E:=q;rwa [List.append_nil] at z
 have hl:us.length=ps.length:=by rw[←r.length];exact F.len _ _ _ _ q
 refine wpAny_call (codeAny_mono (F.run X.A X.stack s1 H1 ⟨us,[]⟩ us vs Q E hr J.env0 (.of_eq (hb us hl)) r q) fun r s' hq=>?_);cases r with
 | error e=>exact J.afterXE hx hq
 | ok fl=>
  cases fl with
  | ret u=>exact J.after hq
  | next=>exact False.elim hq
  | brk=>exact False.elim hq
  | cont=>exact False.elim hq
noncomputable def y2K (tb:XK->TS) (th:Addr->Value->TS):TS:=fun D σ H=>tb (fun cls a H'=>∃a',a=some a'/\th a' cls D σ H') D σ H
theorem z6T {body:List Stmt} {h₀:ExceptHandler} {hs:List ExceptHandler} {tb:XK->TS} {th:Addr->Value->TS} (hx:X.ex=[]) (hst:X.stack=X.env::X.outer) (hf:X.env.frame=some X.env.locals) (hb:PXs X body tb) (hh:PH X (h₀::hs) th) :
  PS X (.Try body (h₀::hs) [] [] pos) (y2K tb th):=by
 intro pins s σ H D I h;refine wpAny_Try_except (wpAny_mono (hb pins s σ H D _ I h) (fun f s1 q=>?_) fun e s1 q=>?_)
 ·cases f with
  | next=>exact wpAny_execs_nil q
  | ret v=>exact q
  | brk=>exact q
  | cont=>exact q
 ·obtain⟨a,cls,H',rfl,I',fl,a',ha,q⟩:=q;cases ha;exact y3Z hx hst hf I' fl fun h5 I5 F5=>wpAny_mono (hh pins _ σ H' D a cls I5 F5 q) (fun _ _ z=>z) fun _ _ z=>z.elim
end
noncomputable def z2s (h:Heap) (C:Addr) (bm:List Value):Prop:=∃N nm q bs hdct sn sub ab col dd k0 k1 k2 k3 k5 newId,h.get? C=some (excClassObj nm q C N bs bm hdct sn sub ab col dd k0 k1 k2 k3 k5 newId)/\bm.contains (.type "BaseException")=true
theorem OX.at {K:PySem.W.Frag} {mg:Str->Option Value} {x:Str} {C:Addr} {bm:List Value} {h:Heap} (O:OX K mg x C bm) (X:K.In h):z2s h C bm:=by
 obtain⟨N,nm,q,bs,hdct,sn,sub,ab,col,dd,k0,k1,k2,k3,k5,lk,_,_⟩:=O.obj;exact⟨N,nm,q,bs,hdct,sn,sub,ab,col,dd,k0,k1,k2,k3,k5,_,X _ _ lk,(PySem.W.tail_of_in X O.tail).hasType rfl⟩
section
variable {M:Model} {A:Around} {E:Value->Shared->Prop} {h:Heap} {g:Array GenState} {d:Drawn} {t:Nat} {os:OsState}
theorem qF {C:Addr} {bm:List Value} {c:Value} {Q:Bool->Shared->Prop} (O:z2s h C bm) (hq:Q ((Value.ref C::bm).contains c) ⟨h,g,d,t,os⟩):wpAny M A (isSubtype (.ref C) c) Q E ⟨h,g,d,t,os⟩:=by
 obtain⟨N,nm,q,bs,hdct,sn,sub,ab,col,dd,k0,k1,k2,k3,k5,newId,hC,hb⟩:=O;exact wpAny_isSubtype_exc hC hq
end
open PySem.Calls PySem.W
theorem y0d {K:Frag} {e C:Addr} {c:Value} (ty:∀(M:Model) (h:Heap),K.In h->Looks M h (typeOf c) (.type "type")) (it:∀(M:Model) (h:Heap),K.In h->Looks M h (isType c) true)
    (sub:∀(M:Model) (h:Heap),K.In h->Looks M h (isSubtype (.ref C) c) true):Answers (fun s=>K.In s.heap/\∃o,s.heap.get? e=some o/\o.cls=.ref C) (.ref e) c true:=by
  intro dep tk prog w A R s hs;obtain⟨h0,g,d,tt,os⟩:=s;obtain⟨⟨X,o,ho,hcl⟩,hq⟩:=hs;have LT:Looks (model prog w) h0 (typeOf (.ref e)) (.ref C):=hcl▸(Looks.ld ho).andThen .now;unfold Builtin.«isinstance.nested»;refine wpAny_bind (LT.at ?_);by_cases q:(Value.ref C == c)=true
  · rw[if_pos q]
    first
      | ((repeat lk);exact hq tt)
      | exact wpAny_bind (wpAny_rule (hq tt))
      | exact wpAny_bind (wpAny_rule (wpAny_pure (hq tt)))
  · rw[if_neg q];have LI:Looks (model prog w) h0 (isInstance (.ref e) c) true:=LT.andThen (sub _ _ X);refine wpAny_bind ((ty _ _ X).at ?_);rw[if_pos (by decide)]
    k_delta "plainIsInstance"
    refine wpAny_bind (wpAny_bind ((it _ _ X).at ?_));simp only [Bool.not_true,Bool.false_eq_true,if_false];refine wpAny_bind (LI.at ?_)
    first
      | exact wpAny_pure (wpAny_pure (hq tt))
      | (simp only [if_true];first|exact wpAny_pure (wpAny_pure (hq tt))|exact wpAny_pure (hq tt)|exact wpAny_bind (wpAny_pure (wpAny_pure (hq tt))))
theorem y0c {K:Frag} {e C:Addr} {c:Value} {prog:Program} {w:World} {A:Around} {E:Value->Shared->Prop} {s:Shared} {Q:Value->Shared->Prop} (ty:∀(M:Model) (h:Heap),K.In h->Looks M h (typeOf c) (.type "type")) (it:∀(M:Model) (h:Heap),K.In h->Looks M h (isType c) true)
  (sub:∀(M:Model) (h:Heap),K.In h->Looks M h (isSubtype (.ref C) c) true) (X:K.In s.heap) (p:∃o,s.heap.get? e=some o/\o.cls=.ref C) (h:∀tk,Q (.bool true) { s with toks:=tk }) :
  wpAny (model prog w) A (call (.builtin "isinstance") [.ref e,c]) Q E s:=
 call_isinstance (S:=fun _ R s=>(K.In s.heap/\∃o,s.heap.get? e=some o/\o.cls=.ref C)/\∀tk,R (.ok (.ret (.bool true))) { s with toks:=tk })
  (fun prog w A R s hs=>isinstance_outer (y0d ty it sub 0 _ prog w A R s hs) (fun z=>nomatch z)) ⟨⟨X,p⟩,h⟩
theorem z2O {K:Frag} {mg:Str->Option Value} {x:Str} {C:Addr} {bm:List Value} (O:OX K mg x C bm) (M:Model) (h:Heap) (X:K.In h):Looks M h (typeOf (.ref C)) (.type "type")/\Looks M h (isType (.ref C)) true:=by
 obtain⟨N,nm,q,bs,hdct,sn,sub,ab,col,dd,k0,k1,k2,k3,k5,lk,_,_⟩:=O.obj;refine⟨(Looks.ld (X _ _ lk)).andThen .now,fun A' Q' E' s' k q=>?_⟩;unfold isType loadHead;exact wpAny_bind (wpAny_loadPart (k _ _ (X _ _ lk)) (wpAny_pure q))
theorem z1F {K:Frag} {mg:Str->Option Value} {x:Str} {C:Addr} {bm:List Value} {c:Value} {b:Bool} (O:OX K mg x C bm) (hb:(Value.ref C::bm).contains c=b) (M:Model) (h:Heap) (X:K.In h):Looks M h (isSubtype (.ref C) c) b:=
 fun A' Q' E' s' k q=>by
  obtain⟨h',g,d,t,os⟩:=s';exact qF (O.at (X.keeps k)) (by rw[hb];exact q)
noncomputable def y3G (C:Addr) (c:V):List V->Hp->VK->Prop:=fun xs H Q=>∃a,xs=[.ref a,c]/\H a=some (wF a (.ref C))/\Q (.bl true) H
theorem z7g {X:Cx} {x:Str} {C:Addr} {bm:List Value} {T:String} (O:OX X.K X.mg x C bm) (hb:(Value.ref C::bm).contains (.type T)=true) (hm:kitMeta T=true):jY X (.builtin "isinstance") (y3G C (.ty T)):=by
 intro pins s σ H xs us Q I r h;obtain⟨a,rfl,ha,q⟩:=h;obtain⟨u,c,rfl,r1,r2⟩:=Vals.two r;obtain rfl:c=Value.type T:=r2;obtain rfl:u=Value.ref a:=r1;have ho:=(show ObjOk X.prog X.w H s.heap a (wF a (.ref C)) from I.hok a _ ha)
 exact y0c (K:=X.K) (fun M h _=>Looks.of_pure (kitMeta_of hm)) (fun M h _=>Looks.of_pure rfl) (z1F O hb) I.kIn ho.1 fun tk=>⟨.bl true,H,I.tok tk,rfl,q⟩
end L2
namespace SM
theorem wu (x:Int) {m:Int} (h:1<=m):0<=x%m/\x%m<m:=⟨Int.emod_nonneg _ (by omega),Int.emod_lt_of_pos _ (by omega)⟩
theorem z9X {x m r:Int} (h0:0<=r) (h1:r<m) (h:m∣x-r):x%m=r:=by
 obtain⟨k,hk⟩:=h;have:x=r+m*k:=by omega
 rw[this,Int.add_mul_emod_self_left,Int.emod_eq_of_lt h0 h1]
theorem xi (x m:Int):m∣x-x%m:=⟨x/m,by have:=Int.mul_ediv_add_emod x m;omega⟩
theorem qD {x y m:Int} (h:m∣x-y):x%m=y%m:=Int.emod_emod_of_dvd_sub h
where
 Int.emod_emod_of_dvd_sub {x y m:Int} (h:m∣x-y):x%m=y%m:=by
  obtain⟨k,hk⟩:=h;have:x=y+m*k:=by omega
  rw[this,Int.add_mul_emod_self_left]
theorem crt {p q A B:Int} (hp:1<=p) (hq:1<=q) (h:zx p q∣A-B):∃t,p∣t-A/\q∣t-B:=by
 obtain⟨x,y,e⟩:=z4x p q (by omega) (by omega);obtain⟨k,hk⟩:=h;rw[e,Int.add_mul] at hk;refine⟨A-p*x*k,⟨-(x*k),?_⟩,⟨y*k,?_⟩⟩
 ·rw[Int.mul_neg,←Int.mul_assoc];omega
 ·rw[←Int.mul_assoc];omega
noncomputable def sh2 (u v:T3):T3:=(zx u.1 v.1,(u.2.1-v.2.1-(v.2.2-1))%zx u.1 v.1,if u.2.2+v.2.2-1<zx u.1 v.1 then u.2.2+v.2.2-1 else zx u.1 v.1)
theorem z0j {u v:T3} (hu:1<=u.1):1<=zx u.1 v.1:=by have:=y8 (a:=u.1) (b:=v.1) (by omega);omega
theorem z3P (d x g:Int):(d-x%g)%g=(d-x)%g:=qD (by
 obtain⟨k,hk⟩:=xi x g;exact⟨k,by omega⟩)
theorem z8D (u v:T3) (d:Int):(d-(sh2 u v).2.1)%(sh2 u v).1=(d-u.2.1+v.2.1+v.2.2-1)%zx u.1 v.1:=by
 show (d-(u.2.1-v.2.1-(v.2.2-1))%zx u.1 v.1)%zx u.1 v.1=_;rw[z3P];congr 1;omega
theorem y1O {u v:T3} (hu:1<=u.1) (d:Int):(d-(sh2 u v).2.1)%(sh2 u v).1<(sh2 u v).2.2 ↔ (d-u.2.1+v.2.1+v.2.2-1)%zx u.1 v.1<u.2.2+v.2.2-1:=by
 rw[z8D];have b:=wu (d-u.2.1+v.2.1+v.2.2-1) (z0j (v:=v) hu);show _<ite _ _ _ ↔ _;split <;> omega
theorem z6M {u v:T3} (hu:L2.Wk u) (hv:L2.Wk v) (d:Int):(d-(sh2 u v).2.1)%(sh2 u v).1<(sh2 u v).2.2 ↔ ∃t,(t-u.2.1)%u.1<u.2.2/\(t-d-v.2.1)%v.1<v.2.2:=by
 rw[y1O hu.1];obtain⟨p,a,l⟩:=u;obtain⟨q,b,n⟩:=v;obtain⟨p0,a0,a1,l0,l1⟩:=hu;obtain⟨q0,b0,b1,n0,n1⟩:=hv;dsimp only at *
 have g0:1<=zx p q:=z0j (u:=(p,a,l)) (v:=(q,b,n)) p0;have bg:=wu (d-a+b+n-1) g0;obtain⟨k,hk⟩:=xi (d-a+b+n-1) (zx p q);generalize hm:(d-a+b+n-1)%zx p q=m at *
 constructor
 ·intro h;obtain⟨i,j,i0,i1,j0,j1,e⟩:∃i j:Int,0<=i/\i<l/\0<=j/\j<n/\i-j=m-(n-1):=by
   by_cases c:n-1<=m
   ·exact⟨m-(n-1),0,by omega,by omega,by omega,by omega,by omega⟩
   ·exact⟨0,n-1-m,by omega,by omega,by omega,by omega,by omega⟩
  obtain⟨t,h1,h2⟩:=crt (A:=a+i) (B:=b+d+j) p0 q0 ⟨-k,by rw[Int.mul_neg];omega⟩;refine⟨t,?_,?_⟩
  ·rw[z9X (r:=i) i0 (by omega) (by have:t-a-i=t-(a+i):=(by omega);rw[this];exact h1)];exact i1
  ·rw[z9X (r:=j) j0 (by omega) (by have:t-d-b-j=t-(b+d+j):=(by omega);rw[this];exact h2)];exact j1
 ·rintro⟨t,h1,h2⟩;have b1:=wu (t-a) p0;have b2:=wu (t-d-b) q0;have d1:=Int.dvd_trans (yN p q) (xi (t-a) p);have d2:=Int.dvd_trans (yA p q) (xi (t-d-b) q);generalize (t-a)%p=i at *
  generalize (t-d-b)%q=j at *
  have dd:=Int.dvd_sub d1 d2;have e:m=(i-j+n-1)%zx p q:=by
   rw[←hm];refine qD ?_;have:d-a+b+n-1-(i-j+n-1)=t-a-i-(t-d-b-j):=by omega
   rw[this];exact dd
  rw[e];have:(i-j+n-1)%zx p q<=i-j+n-1:=by
   by_cases c:i-j+n-1<zx p q
   ·rw[Int.emod_eq_of_lt (by omega) c];exact Int.le_refl _
   ·have:=wu (i-j+n-1) g0;omega
  omega
noncomputable def NextOf (p:Int->Prop) (t:Int):Option Int->Prop
 | some x=>t<=x/\p x/\∀y,t<=y->y<x->¬p y
 | none=>∀y,t<=y->¬p y
theorem NextOf.uniq {p q:Int->Prop} {t:Int} (e:∀k,t<=k->(p k ↔ q k)) {r s:Option Int} (h:NextOf p t r) (g:NextOf q t s):r=s:=by
 cases r with
 | none=>cases s with
  | none=>rfl
  | some j=>exact absurd ((e j g.1).mpr g.2.1) (h j g.1)
 | some i=>cases s with
  | none=>exact absurd ((e i h.1).mp h.2.1) (g i h.1)
  | some j=>
   have h1:=h.2.2 j g.1;have h2:=g.2.2 i h.1;have h3:=(e j g.1).mpr g.2.1;have h4:=(e i h.1).mp h.2.1;have:i=j:=by
    rcases Int.lt_trichotomy i j with c|c|c
    ·exact absurd h4 (h2 c)
    ·exact c
    ·exact absurd h3 (h1 c)
   rw[this]
theorem NextOf.shift {p q:Int->Prop} {t:Int} (m:Int) (e:∀k,p k ↔ q (k+m)) {r:Option Int} (h:NextOf p t r):NextOf q (t+m) (r.map (· + m)):=by
  cases r with
  | none => exact fun y hy hq => h (y - m) (by omega) ((e (y - m)).mpr (by have : y - m + m = y := by omega
                                                                           rw[this];exact hq))
  | some x=>
    refine⟨by have:=h.1;show t+m<=x+m;omega,(e x).mp h.2.1,fun y hy hx hq=>?_⟩;have hx2:y<x+m:=hx;refine h.2.2 (y-m) (by omega) (by omega) ((e (y-m)).mpr ?_);have:y-m+m=y:=by omega
    rw[this];exact hq
noncomputable def awP (u:T3) (t:Int):Prop:=(t-u.2.1)%u.1<u.2.2
noncomputable def z0E (ws vs:List T3) (d t:Int):Prop:=(∃u∈ws,awP u t)/\∃v∈vs,awP v (t-d)
theorem vt {p:Int->Prop} {t y:Int} (ht:t<=y) (h:p y):∃x,t<=x/\x<=y/\p x/\∀z,t<=z->z<x->¬p z:=by
 obtain⟨n,hn⟩:∃n:Nat,y=t+n:=⟨(y-t).toNat,by omega⟩
 induction n using Nat.strongRecOn generalizing y with
 | ind n ih=>
  by_cases c:∃z,t<=z/\z<y/\p z
  ·obtain⟨z,z1,z2,z3⟩:=c;obtain⟨x,a,b,e,f⟩:=ih (z-t).toNat (by omega) z1 z3 (by omega);exact⟨x,a,by omega,e,f⟩
  ·exact⟨y,ht,Int.le_refl _,h,fun z z1 z2 z3=>c ⟨z,z1,z2,z3⟩⟩
end SM
namespace L2
open PySem PySem.Spec PyProof.Rows SM
section
variable {X:Cx} {pos:Pos}
noncomputable def y3p (K:PySem.W.Frag) (n:Nat) (t:TGs):TG:=fun v σ H Q=>∃a xs,v=.ref a/\SqL K H a xs/\xs.length=n/\t xs σ H Q
theorem z9V {es:List Expr} {k:Nat} {t:TGs} {n:Nat} (hc:X.calm=true) (h:PGs X es t)
  (hn:(assignEach es X.env).length=n:=by rfl) (hst:(assignEach es X.env).findIdx? (·.1)=none:=by rfl):PG X (.Tuple es k pos) (y3p X.K n t):=by
 intro pins s σ H v u Q I r hw;obtain⟨a,xs,e1,hq,hl,hw⟩:=hw;subst e1;cases r;obtain⟨its,rv,p,hz⟩:=I.list hq;rw[assign_Tuple];refine wpAny_bind (wpAny_standAt ?_);unfold unpack;have hn2:(assignEach es X.env).length=its.toArray.size:=by simp [hn,←hl,rv.length]
 rw[hn2,hst];refine wpAny_bind (wpAny_holding (PySem.W.kun_itemsOf (I.ok.hd hc) p.isList fun h' hx=>?_));have I1:Inv X pins σ H { s with heap:=h' }:=I.kept (t':=s.toks) fun b o e=>hx b o (Nat.ne_of_lt (Heap.lt_size e)) e;exact h pins _ σ H xs _ Q I1 (by simpa using rv) hw
end
section
variable {X:Cx}
end
section
variable {X:Cx} {K:PySem.W.Frag}
theorem z4c (h:X.K=K):IxR X (y0r K):=h▸zk
end
section
variable {K:PySem.W.Frag} {H:Hp} {Q:VK} {a b a1 a2 b1 b2:Addr} {xs1 xs2 ys1 ys2:List V} {ws vs:List T3}
end
section
variable {X:Cx} {tg:Expr}
noncomputable def y1v (ta:TA):TI:=fun σ H R=>ta σ H fun vs H1=>∃i j:Int,vs=[.int i,.int j,.int (-1)]/\R (Its i (-1) (i-j).toNat) H1
theorem z0r (i j:Int):((i-j).toNat:Int)=Builtin.Range.rangeSize i j (-1):=by
 unfold Builtin.Range.rangeSize;rw[if_neg (by decide)];by_cases h:i > j
 ·simp only [h,if_true];simp;omega
 ·simp only [h,if_false];simp;omega
theorem z6U {a b c:Expr} {ta:TA} {p pos:Pos} (hg:Gl X "range") (hm:X.mg "range" = none) (ha:PA X [a,b,c] ta) (hs:starEach [a,b,c] X.env=[(false,eval a X.env),(false,eval b X.env),(false,eval c X.env)]:=by rfl) (hs2:starEach [b,c] X.env=[(false,eval b X.env),(false,eval c X.env)]:=by rfl) :
  PI X tg (.Call (.Name "range" p) [a,b,c] [] pos) (y1v ta):=by
 intro pins s σ H R I h;refine Call_ (vC I hg hm boot_range (PyProof.Rows.callWith_type1 (thn (ha pos pins s σ H _ I h) fun us s1 ⟨vs,H1,I1,r1,q1⟩=>?_) (by rw[hs,hs2]) (by rw[hs2];rfl)));obtain⟨i,j,e,q⟩:=q1;subst e;cases r1 with
 | cons r rr=>
  obtain⟨u,v,rfl,⟨t,rfl⟩,⟨t',rfl⟩⟩:=Vals.two rr;obtain⟨t2,rfl⟩:=r;exact call_range_3 (by omega) (z6R I1 (z0r i j) q) (Or.inl (PyProof.noPylong_small (by omega)))
theorem kl {ta:TA} {R:It->Hp->Prop} {σ:St} {H:Hp}:y1v ta σ H R=ta σ H fun vs H1=>∃i j:Int,vs=[.int i,.int j,.int (-1)]/\R (Its i (-1) (i-j).toNat) H1:=rfl
end
open Builtin Builtin.Getset_descriptor Builtin.ObjectAttr PySem.Calls PySem.W
structure OC (K:Frag) (C:Addr):Prop where
 ga:findIn K (.ref C) "__getattribute__" = some (some (.builtin "BaseException.__getattribute__"))
 gt:findIn K (.ref C) "__getattr__" = some none
 cl:findIn K (.ref C) "__class__" = some (some (.builtin "object.__class__"))
section
variable {prog:Program} {w:World} {A:Around} {E:Value->Shared->Prop} {h:Heap} {g:Array GenState} {d:Drawn} {t:Nat} {os:OsState} {a C:Addr} {o:Obj} {bm:List Value} {K:Frag}
theorem wz {M:Model} (hx:h.get? a=some o) (hc:o.cls=.ref C):Looks M h (typeOf (.ref a)) (.ref C):=hc▸(Looks.ld hx).andThen .now
theorem z2P {M:Model} {c:Value} {b:Bool} (O:∀h',K.In h'->z2s h' C bm) (X:K.In h) (hb:(Value.ref C::bm).contains c=b):Looks M h (isSubtype (.ref C) c) b:=
 fun A' Q' E' s' k q=>by
  obtain⟨h',g,d,t,os⟩:=s';exact qF (O _ (X.keeps k)) (by rw[hb];exact q)
theorem z1b {R:Result->Shared->Prop} {tp:Value} (O:∀h',K.In h'->z2s h' C bm) (X:K.In h) (ho:(Value.ref C::bm).contains (.type "object")=true) (hx:h.get? a=some o) (hc:o.cls=.ref C) (hq:R (.ok (.ret (.ref C))) ⟨h,g,d,t,os⟩) :
  codeAny (model prog w) A (.call (.builtin "getset_descriptor.__get__") ⟨[.builtin "object.__class__",.ref a,tp],[]⟩) R ⟨h,g,d,t,os⟩:=by
 have L0:=wz (M:=model prog w) hx hc;have L1:=z2P (M:=model prog w) O X ho;refine codeAny_call_builtin KF.slot_gs.plain KF.entry_gs (KF.slot_gs.check _ _ _ _ _ _ _ _ KF.type_class (KF.args_gs _ _ _) ?_);unfold Builtin.«getset_descriptor.__get__» descrGet;rw[dga_obj];refine wpAny_bind (wpAny_pure ?_);unfold descrGetter descrCheckInstance descrNameAndClass isInstance;simp only [KF.owner_class]
 repeat lk
 refine⟨Code.quiet_builtin _ (by decide +kernel),codeAny_builtin KF.entry_class ?_⟩;unfold Builtin.«object.__class__» shownTypeOf
 repeat lk
 exact hq
theorem z2k {M:Model} {nameV:Value} {Q:Unit->Shared->Prop} (O:z2s h C bm) (hx:h.get? a=some o) (hc:o.cls=.ref C) (hq:Q () ⟨h,g,d,t,os⟩):wpAny M A (checkBuiltinCall "BaseException.__getattribute__" ⟨[.ref a,nameV],[]⟩) Q E ⟨h,g,d,t,os⟩:=by
 have hk:builtinKind "BaseException.__getattribute__" = some .slot:=by decide +kernel
 have hsplit:splitId "BaseException.__getattribute__" = some ("BaseException", "__getattribute__"):=by decide +kernel
 obtain⟨N,nm,q,bs,hdct,sn,sub,ab,col,dd,k0,k1,k2,k3,k5,newId,hC,hb⟩:=O;have hcB:(Value.ref C::bm).contains (.type "BaseException")=true:=by rw[List.contains_cons,hb,Bool.or_true]
 have ha:=PySem.F.args_bexc_ga (.ref a) nameV;simp only [checkBuiltinCall,hk,hsplit];refine wpAny_bind ?_
 ·unfold isInstance
  repeat (first|(with_reducible refine wpAny_loadPart_at hx ?_;rw[hc])|(with_reducible refine wpAny_isSubtype_exc hC ?_;rw[hcB])|wp_step)
  exact hq
theorem vN {tk:Tok} {Q:Fin->Shared->Prop} (Z:OC K C) (O:∀h',K.In h'->z2s h' C bm) (X:K.In h) (ho:(Value.ref C::bm).contains (.type "object")=true) (hx:h.get? a=some o) (hc:o.cls=.ref C) (hq:Q (.done (.ret (.ref C))) ⟨h,g,d,t,os⟩) :
  wpAny (model prog w) A (Builtin.«object.__getattribute__» ⟨[.ref a,.str "__class__" tk],[]⟩) Q E ⟨h,g,d,t,os⟩:=by
 have hT5:(⟨h,g,d,t,os⟩:Shared).TypeIs (.builtin "object.__class__") "getset_descriptor" :=PySem.F.typeOf_object_class;have f5:=PySem.F.typeOf_object_class;have f6:=PySem.F.slot_gs_get.lookup;have f7:=PySem.F.slot_gs_set.lookup;have L1:=looks_findIn (M:=model prog w) X Z.cl
 repeat (any_goals (first|assumption|(with_reducible refine wpAny_loadPart_at hx ?_;rw[hc])|with_reducible refine L1.at ?_|wp_step))
 refine z1b O X ho hx hc ?_
 repeat (any_goals (first|assumption|wp_step))
theorem z2j {tk:Tok} {fill:Bool} {Q:Value->Shared->Prop} (Z:OC K C) (O:∀h',K.In h'->z2s h' C bm) (X:K.In h) (ho:(Value.ref C::bm).contains (.type "object")=true) (hx:h.get? a=some o) (hc:o.cls=.ref C) (hq:Q (.ref C) ⟨h,g,d,t,os⟩) :
  wpAny (model prog w) A (getAttrBy (.ref a) (.str "__class__" tk) fill false) Q E ⟨h,g,d,t,os⟩:=by
 have f3:=PySem.F.excAttr_ValueError.ga.bind (.ref a);have hx0:(false && onTheHeap (Value.builtin "BaseException.__getattribute__"))=false:=rfl;have hx2:(Value.builtin "BaseException.__getattribute__" == Value.builtin "object.__getattribute__")=false:=by decide +kernel
 have hx1:(onTheHeap (Value.ref C) && Value.builtin "BaseException.__getattribute__" == Value.builtin "object.__getattribute__")=false:=by rw[hx2];rfl
 have L1:=looks_findIn (M:=model prog w) X Z.ga;have L2:=looks_findIn (M:=model prog w) X Z.gt
 repeat (any_goals (first|assumption|(with_reducible refine wpAny_loadPart_at hx ?_;rw[hc])|with_reducible refine L1.at ?_|with_reducible refine L2.at ?_|wp_step))
 refine codeAny_call_builtin PySem.F.excAttr_ValueError.ga.plain PySem.F.entry_bexc_ga (z2k (O _ X) hx hc (vN Z O X ho hx hc ?_))
 repeat (any_goals (first|assumption|wp_step))
theorem z7d {Q:Option Value->Shared->Prop} (Z:OC K C) (O:∀h',K.In h'->z2s h' C bm) (X:K.In h) (ho:(Value.ref C::bm).contains (.type "object")=true) (hx:h.get? a=some o) (hc:o.cls=.ref C) (hq:Q (some (.ref C)) ⟨h,g,d,t+1,os⟩) :
  wpAny (model prog w) A (getAttr? (.ref a) "__class__") Q E ⟨h,g,d,t,os⟩:=by
 unfold getAttr? getAttrBy?;refine wpAny_bind (wpAny_mkText (wpAny_bind (wpAny_attempt ?_)));exact z2j Z O X ho hx hc (wpAny_pure hq)
end
section
variable {K:Frag} {mg:Str->Option Value} {x x':Str} {C C':Addr} {bm bm':List Value}
theorem z8g {a:Addr} (Z:OC K C) (O:OX K mg x C bm) (ho:(Value.ref C::bm).contains (.type "object")=true):KitX K (.ref a) (.ref C) (fun h=>∃o,h.get? a=some o/\o.cls=.ref C) where
 ty:=fun M h _ p=>by
  obtain⟨o,h1,h2⟩:=p;exact wz h1 h2
 it:=fun M h X _=>(z2O O M h X).2
 ne:=fun h tp dd its n sl X htp=>by
  refine Bool.eq_false_iff.mpr fun q=>?_;have e:C=tp:=Value.ref.inj (beq_iff_eq.mp q);subst e;obtain⟨N,nm,q,bs,hdct,sn,sub,ab,col,dd,k0,k1,k2,k3,k5,lk,_,_⟩:=O.obj;have z:=(X _ _ lk).symm.trans htp;have z2:=congrArg (fun o=>o.map Obj.cls) z;have z3:some (Value.type "type")=some (Value.type "tuple"):=z2;exact absurd (Value.type.inj (Option.some.inj z3)) (by decide)
 ca:=fun {prog w A E Q s} X p k=>by
  obtain⟨o,h1,h2⟩:=p;obtain⟨h,g,d,t,os⟩:=s;exact z7d Z (fun h' X'=>O.at X') X ho h1 h2 k
theorem z5O (O:OX K mg x C bm) (O':OX K mg x' C' bm'):kitOne K (.ref C) (.ref C')=some ((Value.ref C::bm).contains (.ref C')):=by
 obtain⟨N,nm,q,bs,hdct,sn,sub,ab,col,dd,k0,k1,k2,k3,k5,lk,_,_⟩:=O.obj;obtain⟨N',nm',q',bs',hdct',sn',sub',ab',col',dd',k0',k1',k2',k3',k5',lk',_,_⟩:=O'.obj;unfold kitOne;by_cases e:(Value.ref C == Value.ref C')=true
 ·rw[if_pos e];have:C=C':=Value.ref.inj (beq_iff_eq.mp e);subst this;simp
 ·rw[if_neg e];unfold kitCls;have h1:(clsIn K C').isSome=true:=by unfold clsIn;rw[lk'];rfl
  have h2:typeIn K (.ref C')=some (.type "type"):=by show (K.lookup C').map (·.cls)=_;rw[lk'];rfl
  simp only [h1,h2,Bool.true_and,beq_self_eq_true,if_true];show mroIn K C (.ref C')=_;unfold mroIn clsIn;rw[lk];rfl
end
section
variable {X:Cx}
noncomputable def z3T:Value->Bool
 | .bool b=>b
 | _=>false
theorem z5h {bs:List Bool} {its:List Value} (h:Vals (bs.map V.bl) its):∀y,y∈its.toArray->MeetsSeq.EqGives y (.bool true) (z3T y):=fun y hy=>by
 have hy':y∈its:=by simpa using hy
 obtain⟨i,hi,rfl⟩:=List.getElem_of_mem hy';have hl:=h.length;rw[List.length_map] at hl;obtain⟨u,e1,r2⟩:=h.get (i:=i) (x:=.bl (bs[i]'(by omega))) (by rw[List.getElem?_map,List.getElem?_eq_getElem (by omega)];rfl);rw[List.getElem?_eq_getElem hi] at e1;cases e1;have e2:its[i]=Value.bool (bs[i]'(by omega)):=r2;rw[e2];intro prog w A E s Q hq;refine SeqAt.EqAt.bool_bool _ _ prog w E Q ?_;have:z3T (Value.bool (bs[i]'(by omega)))=(bs[i]'(by omega) == true):=by cases bs[i]'(by omega) <;> rfl
 exact this▸hq
noncomputable def z9t:V->List V->Hp->VK->Prop:=fun x vs H Q=>∃(l:Addr) (bs:List Bool) (j:Nat),x=.ref l/\vs=[.bl true]/\H l=some (.lst (bs.map V.bl))/\bs[j]?=some true/\(∀i,i<j->bs[i]?=some false)/\Q (.int (j:Int)) H
theorem z2N:MtM X "list.index" z9t:=by
 intro pins s σ H x vs v us Q I rx rv h;obtain⟨l,bs,j,rfl,rfl,hH,hj,hn,q⟩:=h;cases rx;obtain⟨u,rfl,ru⟩:=rv.one;cases ru;obtain⟨z,its,n,r,hl,e⟩:=I.lstM hH;rw[List.length_map] at hl z;have hjl:j<bs.length:=(List.getElem?_eq_some_iff.mp hj).1;have at_:∀i (hi:i<its.length),its[i]=.bool (bs[i]'(by omega)):=fun i hi=>by
  obtain⟨u,e1,r2⟩:=r.get (i:=i) (x:=.bl (bs[i]'(by omega))) (by rw[List.getElem?_map,List.getElem?_eq_getElem (by omega)];rfl);rw[List.getElem?_eq_getElem hi] at e1;cases e1;exact r2
 have hz:bs.length<=16777216:=by rw[sizeLine_eq] at z;exact z
 refine call_meets PySem.F.slot_list_index ⟨_,e,rfl⟩ PySem.F.entry_list_index (PySem.F.args_list_index_2 _ _)
  (MeetsSeq.list_index l its.toArray n (.bool true) z3T (z5h r) j (by rw[List.size_toArray];omega) (by omega) ?_ (fun m hm hlt=>?_)) ⟨e,?_⟩
 ·rw[List.getElem_toArray,at_ j (by omega)];have:=(List.getElem?_eq_some_iff.mp hj).2;rw[this];rfl
 ·rw[List.size_toArray] at hm;rw[List.getElem_toArray,at_ m (by omega)];have:=(List.getElem?_eq_some_iff.mp (hn m hlt)).2;rw[this];rfl
 ·exact⟨.int (j:Int),H,I.tok _,⟨_,rfl⟩,q⟩
end
end L2
namespace SM
theorem z3a {a b c L:Int} (ha:1<=a) (hb:1<=b) (hc:1<=c) (h1:zx a c∣L) (h2:zx b c∣L):zx (qR a b) c∣L:=by
 have l1:=qE ha hb;have d0:=y8 (a:=qR a b) (b:=c) (by omega);have dc:=yA (qR a b) c;have dl:=yN (qR a b) c;generalize zx (qR a b) c=d at *
 have a1:=yN d a;have a2:=yA d a;have b1:=yN d b;have b2:=yA d b;have p1:=y8 (a:=d) (b:=a) (by omega);have p2:=y8 (a:=d) (b:=b) (by omega);have k1:zx d a∣L:=Int.dvd_trans (wG a2 (Int.dvd_trans a1 dc)) h1;have k2:zx d b∣L:=Int.dvd_trans (wG b2 (Int.dvd_trans b1 dc)) h2;obtain⟨x,y,e1⟩:=z4x d a (by omega) (by omega);obtain⟨u,v,e2⟩:=z4x d b (by omega) (by omega);have m:=z4b (by omega) (by omega) k1 k2;refine Int.dvd_trans ?_ m;have q1:=yN (zx d a) (zx d b);have q2:=yA (zx d a) (zx d b);have q0:=y8 (a:=zx d a) (b:=zx d b) (by omega);have dp:d*zx (zx d a) (zx d b)∣zx d a*zx d b:=by
  have ed:zx (zx d a) (zx d b)∣d:=Int.dvd_trans q1 a1;have ea:zx (zx d a) (zx d b)∣a:=Int.dvd_trans q1 a2;have eb:zx (zx d a) (zx d b)∣b:=Int.dvd_trans q2 b2;generalize zx (zx d a) (zx d b)=e at *
  have eg:e∣zx a b:=wG ea eb;have gb:=yA a b;have g0:=y8 (a:=a) (b:=b) (by omega);have dg:d*zx a b∣a*b:=by
   obtain⟨k,hk⟩:=dl;have:qR a b*zx a b=a*b:=by
    unfold qR;rw[Int.mul_assoc,Int.ediv_mul_cancel gb]
   exact⟨k,by rw[←this,hk,Int.mul_assoc,Int.mul_comm k,←Int.mul_assoc]⟩
  have t1:d*e∣d*d:=Int.mul_dvd_mul (Int.dvd_refl _) ed;have t2:d*e∣d*b:=Int.mul_dvd_mul (Int.dvd_refl _) eb;have t3:d*e∣a*d:=by rw[Int.mul_comm a d];exact Int.mul_dvd_mul (Int.dvd_refl _) ea
  have t4:d*e∣a*b:=Int.dvd_trans (Int.mul_dvd_mul (Int.dvd_refl _) eg) dg;have ex:zx d a*zx d b=d*d*(x*u)+d*b*(x*v)+a*d*(y*u)+a*b*(y*v):=by
   rw[e1,e2,Int.add_mul,Int.mul_add,Int.mul_add];have r1:d*x*(d*u)=d*d*(x*u):=by rw[Int.mul_assoc,Int.mul_assoc,←Int.mul_assoc x d u,Int.mul_comm x d,Int.mul_assoc d x u]
   have r2:d*x*(b*v)=d*b*(x*v):=by rw[Int.mul_assoc,Int.mul_assoc,←Int.mul_assoc x b v,Int.mul_comm x b,Int.mul_assoc b x v]
   have r3:a*y*(d*u)=a*d*(y*u):=by rw[Int.mul_assoc,Int.mul_assoc,←Int.mul_assoc y d u,Int.mul_comm y d,Int.mul_assoc d y u]
   have r4:a*y*(b*v)=a*b*(y*v):=by rw[Int.mul_assoc,Int.mul_assoc,←Int.mul_assoc y b v,Int.mul_comm y b,Int.mul_assoc b y v]
   rw[r1,r2,r3,r4];omega
  rw[ex];exact Int.dvd_add (Int.dvd_add (Int.dvd_add (Int.dvd_mul_of_dvd_left t1) (Int.dvd_mul_of_dvd_left t2)) (Int.dvd_mul_of_dvd_left t3)) (Int.dvd_mul_of_dvd_left t4)
 have eq:zx d a*zx d b=qR (zx d a) (zx d b)*zx (zx d a) (zx d b):=by
  unfold qR;rw[Int.mul_assoc,Int.ediv_mul_cancel q2]
 rw[eq] at dp;exact Int.dvd_of_mul_dvd_mul_right (by omega) dp
theorem xk {c L:Int} (hc:1<=c):∀(ps:List Int) (a:Int),1<=a->(∀p∈ps,1<=p)->zx a c∣L->(∀p∈ps,zx p c∣L)->zx (ps.foldl qR a) c∣L
 | [],a,_,_,h,_=>h
 | p::ps,a,ha,hp,h,hs=>xk hc ps (qR a p) (qE ha (hp p (.head _))) (fun q hq=>hp q (.tail _ hq)) (z3a ha (hp p (.head _)) hc h (hs p (.head _))) fun q hq=>hs q (.tail _ hq)
theorem z4l (c:Int):zx 1 c=1:=by unfold zx;rw[Int.gcd_one_left];rfl
theorem z8s {ps qs:List Int} {L:Int} (hp:∀p∈ps,1<=p) (hq:∀q∈qs,1<=q) (h:∀p∈ps,∀q∈qs,zx p q∣L):zx (yV ps) (yV qs)∣L:=by
 have Q1:=yL hq;refine xk Q1 ps 1 (by decide) hp (by rw[z4l];exact Int.one_dvd _) fun p hpp=>?_;rw[vK];refine xk (hp p hpp) qs 1 (by decide) hq (by rw[z4l];exact Int.one_dvd _) fun q hqq=>?_;rw[vK];exact h p hpp q hqq
theorem z1e {u:T3} {x m:Int} (h:u.1∣m):awP u (x+m) ↔ awP u x:=by
 obtain⟨k,hk⟩:=h;unfold awP;rw[qD (x:=x+m-u.2.1) (y:=x-u.2.1) ⟨k,by omega⟩]
theorem z5u {ws us:List T3} {d e L:Int} (hw:∀u∈ws,1<=u.1) (hu:∀u∈us,1<=u.1) (hL:∀u∈ws,∀v∈us,zx u.1 v.1∣L) (h:L∣d-e):∃m,∀k,z0E ws us d k ↔ z0E ws us e (k+m):=by
 have hp:∀p∈ws.map (·.1),1<=p:=fun p hp=>by obtain⟨u,mu,rfl⟩:=List.mem_map.mp hp;exact hw u mu
 have hq:∀p∈us.map (·.1),1<=p:=fun p hp=>by obtain⟨u,mu,rfl⟩:=List.mem_map.mp hp;exact hu u mu
 have g:=z8s hp hq (L:=L) fun p hpp q hqq=>by
  obtain⟨u,mu,rfl⟩:=List.mem_map.mp hpp;obtain⟨v,mv,rfl⟩:=List.mem_map.mp hqq;exact hL u mu v mv
 obtain⟨m,m1,m2⟩:=crt (p:=yV (ws.map (·.1))) (q:=yV (us.map (·.1))) (A:=0) (B:=e-d) (yL hp) (yL hq) (by
  have:(0:Int)-(e-d)=d-e:=by omega
  rw[this];exact Int.dvd_trans g h)
 rw[Int.sub_zero] at m1;refine⟨m,fun k=>?_⟩;have A:∀u∈ws,awP u (k+m) ↔ awP u k:=fun u mu=>z1e (Int.dvd_trans (yT hp _ (List.mem_map_of_mem mu)) m1);have B:∀v∈us,awP v (k+m-e) ↔ awP v (k-d):=fun v mv=>by
  have:k+m-e=k-d+(m-(e-d)):=by omega
  rw[this];exact z1e (Int.dvd_trans (yT hq _ (List.mem_map_of_mem mv)) m2)
 unfold z0E;exact⟨fun⟨⟨u,mu,x⟩,v,mv,y⟩=>⟨⟨u,mu,(A u mu).mpr x⟩,v,mv,(B v mv).mpr y⟩,fun⟨⟨u,mu,x⟩,v,mv,y⟩=>⟨⟨u,mu,(A u mu).mp x⟩,v,mv,(B v mv).mp y⟩⟩
noncomputable def LW (p:Int->Prop) (n W T:Int):Prop:=0<=T/\T<n/\NextOf p T (some (T+W))/\(∀t x,NextOf p t (some x)->x-t<=W)/\∀t,0<=t->NextOf p t (some (t+W))->T<=t
noncomputable def LWi (p:Int->Prop) (n lo:Int) (wait W T:Int):Prop:=NextOf p lo (some (lo+wait))/\(lo=n->W=0/\T=0)/\(lo<n->lo<=T/\T<n/\NextOf p T (some (T+W))/\∀t,lo<=t->t<n->∀x,NextOf p t (some x)->x-t<=W/\(x-t=W->T<=t))
theorem NextOf.here {p:Int->Prop} {t:Int} (h:p t):NextOf p t (some t):=⟨Int.le_refl _,h,fun y y1 y2=>by omega⟩
theorem NextOf.ahead {p:Int->Prop} {t x:Int} (h:¬p (t-1)) (n:NextOf p t (some x)):NextOf p (t-1) (some x):=by
 have n1:t<=x:=n.1;refine⟨by omega,n.2.1,fun y y1 y2 z=>?_⟩;by_cases e:y=t-1
 ·exact h (e▸z)
 ·exact n.2.2 y (by omega) y2 z
theorem NextOf.one {p:Int->Prop} {t x y:Int} (h:NextOf p t (some x)) (g:NextOf p t (some y)):x=y:=Option.some.inj (h.uniq (fun _ _=>Iff.rfl) g)
theorem LWi.step {p:Int->Prop} {n lo wait W T w':Int} (h:LWi p n lo wait W T) (l1:1<=lo) (l2:lo<=n) (w1:p (lo-1)->w'=0) (w2:¬p (lo-1)->w'=wait+1) (wn:0<=wait) :
  (W<=w'->LWi p n (lo-1) w' w' (lo-1))/\(¬W<=w'->LWi p n (lo-1) w' W T):=by
 have N:NextOf p (lo-1) (some (lo-1+w')):=by
  by_cases c:p (lo-1)
  ·rw[w1 c,Int.add_zero];exact .here c
  ·have:=h.1.ahead c;have e:lo-1+w'=lo+wait:=by rw[w2 c];omega
   rw[e];exact this
 have top:lo<n∨lo=n:=by omega
 refine⟨fun c=>⟨N,fun z=>by omega,fun _=>⟨by omega,by omega,N,fun t t1 t2 x hx=>?_⟩⟩,fun c=>⟨N,fun z=>by omega,fun _=>?_⟩⟩
 ·by_cases e:t=lo-1
  ·subst e;have:=hx.one N;exact⟨by omega,fun _=>Int.le_refl _⟩
  ·rcases top with z|z
   ·have:=(h.2.2 z).2.2.2 t (by omega) t2 x hx;exact⟨by omega,fun _=>by omega⟩
   ·omega
 ·rcases top with z|z
  ·obtain⟨a,b,cc,d⟩:=h.2.2 z;refine⟨by omega,b,cc,fun t t1 t2 x hx=>?_⟩;by_cases e:t=lo-1
   ·subst e;have:=hx.one N;exact⟨by omega,fun _=>by omega⟩
   ·exact d t (by omega) t2 x hx
  ·have:=(h.2.1 z).1;have wp:0<=w':=by
    by_cases q:p (lo-1)
    ·rw[w1 q];omega
    ·rw[w2 q];omega
   omega
theorem LWi.full {p:Int->Prop} {n wait W T:Int} (n1:1<=n) (per:∀x,p (x+n) ↔ p x) (h:LWi p n 0 wait W T):LW p n W T:=by
 obtain⟨a,b,c,d⟩:=h.2.2 (by omega);have perk:∀(k:Nat) x,p (x+n*k) ↔ p x:=fun k=>by
  induction k with
  | zero=>intro x;simp
  | succ k ih=>
   intro x;have e:x+n*((k+1:Nat):Int)=(x+n*k)+n:=by rw[Int.natCast_add,Int.mul_add];simp;omega
   rw[e,per,ih]
 have perz:∀(k x:Int),p x ↔ p (x+n*k):=fun k x=>by
  rcases Int.le_total 0 k with z|z
  ·have e:n*k=n*((k.toNat:Nat):Int):=by rw[Int.toNat_of_nonneg z]
   rw[e,perk]
  ·have e:x=x+n*k+n*(((-k).toNat:Nat):Int):=by rw[Int.toNat_of_nonneg (by omega),Int.mul_neg];omega
   conv=>lhs;rw[e]
   exact perk _ _
 refine⟨a,b,c,fun t x hx=>?_,fun t t0 hx=>?_⟩
 ·have m:=wu t n1;obtain⟨k,hk⟩:=xi t n;have S:=hx.shift (q:=p) (n*(-k)) fun y=>perz (-k) y;have e:t+n*(-k)=t%n:=by rw[Int.mul_neg];omega
  rw[e] at S;have S2:NextOf p (t%n) (some (x+n*(-k))):=S;have:=(d (t%n) (by omega) (by omega) _ S2).1;rw[Int.mul_neg] at this e;omega
 ·by_cases z:t<n
  ·exact (d t t0 z _ hx).2 (by omega)
  ·omega
end SM
namespace L2
open PySem PySem.Spec PySem.Calls PyProof.Rows SM
section
variable {prog:Program} {w:World} {A:Around} {E:Value->Shared->Prop} {s:Shared}
end
section
variable {X:Cx} {tg:Expr}
noncomputable def y3V (ta:TA):TE:=fun σ H Q=>ta σ H fun vs H1=>∃j:Int,vs=[.int j]/\∀p,H1 p=none->Q (.ref p) (upd H1 p (.rng 0 j))
theorem z0M {ta:TA} {σ:St} {H:Hp} {Q:VK}:y3V ta σ H Q=ta σ H fun vs H1=>∃j:Int,vs=[.int j]/\∀p,H1 p=none->Q (.ref p) (upd H1 p (.rng 0 j)):=rfl
noncomputable def y2l (ta:TE):TI:=fun σ H R=>ta σ H fun x H1=>∃(a:Addr) (n:Int),x=.ref a/\H1 a=some (.rng 0 n)/\0<=n/\n<2^62/\R (Its (n-1) (-1) n.toNat) H1
theorem ky {ta:TE} {R:It->Hp->Prop} {σ:St} {H:Hp}:y2l ta σ H R=ta σ H fun x H1=>∃(a:Addr) (n:Int),x=.ref a/\H1 a=some (.rng 0 n)/\0<=n/\n<2^62/\R (Its (n-1) (-1) n.toNat) H1:=rfl
end
end L2
namespace SM
end SM
namespace L2
open PySem PySem.Spec PySem.Calls PyProof.Rows SM
section
variable {X:Cx}
end
noncomputable abbrev Hd:=List T3×Int
section
variable {K:PySem.W.Frag} {H:Hp} {Q:VK} {a b:Addr} {xs ys:List V} {ws vs:List Hd}
end
section
variable {K:PySem.W.Frag} {H:Hp} {Q:VK} {a b:Addr} {ws vs:List (Option Int)}
end
end L2
namespace SM
open L2
theorem IsPart.uniq {n d e:Int} (h:IsPart n d) (g:IsPart n e):d=e:=by
 by_cases c:d<e
 ·exact absurd h.dvd (g.least d h.two c)
 ·by_cases c2:e<d
  ·exact absurd g.dvd (h.least e g.two c2)
  ·omega
theorem NoPart.up {n q:Int} (h:NoPart n q) (c:n%q≠0):NoPart n (q+1):=fun d d2 dq e=>by
 by_cases z:d=q
 ·subst z;exact c (Int.emod_eq_zero_of_dvd e)
 ·exact h d d2 (by omega) e
noncomputable def z7s (n:Nat):Nat->Nat->Bool
 | 0,_=>true
 | f+1,d=>if n%d=0 then false else z7s n f (d+1)
theorem z3m {n:Nat}:∀ {f d:Nat},z7s n f d=true->∀e,d<=e->e<d+f->n%e≠0
 | 0,d,_,e,h1,h2=>by omega
 | f+1,d,h,e,h1,h2=>by
  unfold z7s at h;split at h
  ·cases h
  ·rename_i c
   by_cases z:e=d
   ·rw[z];exact c
   ·exact z3m h e (by omega) (by omega)
theorem vU {n f:Nat} (h2:2<=n) (hs:n<(2+f)*(2+f)) (h:z7s n f 2=true):IsPart n n:=by
 refine vF (p:=2+(f:Int)) (by omega) (fun d d2 dq e=>?_) (by omega) (by
  have z:((n:Int))<(((2+f)*(2+f):Nat):Int):=Int.ofNat_lt.mpr hs;rw[Int.natCast_mul,Int.natCast_add] at z;exact z)
 obtain⟨k,rfl⟩:=Int.eq_ofNat_of_zero_le (show 0<=d by omega);have:=z3m h k (by omega) (by omega);exact this (by have:=Int.emod_eq_zero_of_dvd e;omega)
theorem p6:IsPart 1000003 1000003:=vU (n:=1000003) (f:=1000) (by decide) (by decide) (by decide +kernel)
end SM
namespace L2
open PySem PySem.Spec PyProof.Rows SM
section
variable {prog:Program} {w:World} {B:Around} {it:Addr} {fp wr:List Addr} {GG:Array GenState->Array GenState->Prop} {n:Nat} {PV:Nat->Value->Prop} {SV:Nat->Shared->Prop} {RR:Result->Shared->Prop}
end
section
variable {prog:Program} {w:World} {A:Around} {E:Value->Shared->Prop} {s:Shared}
end
section
variable {X:Cx}
end
section
variable {X:Cx}
end
section
variable {prog:Program} {w:World} {B:Around} {E:Value->Shared->Prop} {s:Shared}
theorem vp {J tu:Addr} {k:Nat} {its:Array Value} {v:Value} {Q:Value->Shared->Prop} (hj:s.heap.IsTupleIter J tu k) (hu:s.heap.IsTuple tu its) (hv:its[k]?=some v)
  (q:∀h',h'.IsTupleIter J tu (k+1)->Heap.SameBut J s.heap h'->Q v { s with heap:=h' }):wpAny (model prog w) B (Builtin.SmallTypes.nextOf (.ref J)) Q E s:=by
 have ty:=hj.typeIs;obtain⟨oj,ej,cj,dj⟩:=id hj;obtain⟨ou,eu,_,mu,du⟩:=hu;unfold Builtin.SmallTypes.nextOf;refine wpAny_bind (wpAny_callSpecial?_slot (name:=Str.ofString "__next__") ty PySem.F.slot_tuple_iterator_next (wpAny_call_entry PySem.F.slot_tuple_iterator_next ty PySem.F.entry_tuple_iterator_next ?_ (PySem.F.args_tuple_iterator_next_1 _)));show wpAny _ _ (field (.ref J) 0 >>= _) _ _ s;refine wpAny_bind (wpAny_field ej dj (x:=.ref tu) rfl ?_);show wpAny _ _ (if (Value.ref tu == Value.none)=true then _ else _) _ _ s;rw[if_neg (show ¬((Value.ref tu == Value.none)=true) from Bool.false_ne_true)];show wpAny _ _ (field (.ref J) 1 >>= _) _ _ s;refine wpAny_bind (wpAny_field ej dj (x:=.int k 0) rfl ?_);show wpAny _ _ (seqItems? (.ref tu) >>= _) _ _ s;refine wpAny_bind (wpAny_seqItems eu du ?_);simp only [hv,Int.toNat_natCast];refine wpAny_bind (wpAny_setField ej dj (by simp) (wpAny_pure ⟨v,rfl,wpAny_pure (q _ ?_ (Heap.SameBut.update ..))⟩));exact⟨_,Heap.get?_update_self _ ej (Obj.isFreed_of_fields (Obj.data_mapFields dj _)),(Obj.cls_mapFields ..).trans cj,by rw[Obj.data_mapFields dj];simp [rawInt]⟩
theorem z6e {J tu:Addr} {k:Nat} {its:Array Value} {Q:Value->Shared->Prop} (hh:B.handled=none) (hj:s.heap.IsTupleIter J tu k) (hu:s.heap.IsTuple tu its) (hv:its[k]?=none)
  (q:∀h' x,Heap.ExtBut J s.heap h'->(∃o,h'.get? x=some o/\o.cls=.type "StopIteration")->E (.ref x) { s with heap:=h' }):wpAny (model prog w) B (Builtin.SmallTypes.nextOf (.ref J)) Q E s:=by
 have ty:=hj.typeIs;obtain⟨oj,ej,cj,dj⟩:=id hj;obtain⟨ou,eu,_,mu,du⟩:=hu;unfold Builtin.SmallTypes.nextOf;refine wpAny_bind (wpAny_callSpecial?_slot (name:=Str.ofString "__next__") ty PySem.F.slot_tuple_iterator_next (wpAny_call_entry PySem.F.slot_tuple_iterator_next ty PySem.F.entry_tuple_iterator_next ?_ (PySem.F.args_tuple_iterator_next_1 _)));show wpAny _ _ (field (.ref J) 0 >>= _) _ _ s;refine wpAny_bind (wpAny_field ej dj (x:=.ref tu) rfl ?_);show wpAny _ _ (if (Value.ref tu == Value.none)=true then _ else _) _ _ s;rw[if_neg (show ¬((Value.ref tu == Value.none)=true) from Bool.false_ne_true)];show wpAny _ _ (field (.ref J) 1 >>= _) _ _ s;refine wpAny_bind (wpAny_field ej dj (x:=.int k 0) rfl ?_);show wpAny _ _ (seqItems? (.ref tu) >>= _) _ _ s;refine wpAny_bind (wpAny_seqItems eu du ?_);simp only [hv,Int.toNat_natCast];refine wpAny_bind (wpAny_rule (wpAny_bind (wpAny_setField ej dj (by simp) ?_)));show wpAny (model prog w) _ (newExc (.type "StopIteration") [] >>= _) _ _ _;refine wpAny_bind ?_;unfold newExc newTuple;refine wpAny_bind (wpAny_newObj_type ?_);refine wpAny_bind (m:=firstArgMember _ _) (wpAny_of_eq (a:=Value.none) rfl ?_);refine wpAny_newObj_type ?_;unfold raiseNew;refine wpAny_bind (wpAny_handled ?_);rw[hh];refine wpAny_bind (wpAny_pure (wpAny_throw (q _ _ (((Heap.SameBut.update ..).extBut.push _).push _) ⟨_,Heap.get?_push_size _ rfl,rfl⟩)))
end
section
variable {prog:Program} {w:World} {B:Around} {E:Value->Shared->Prop} {s:Shared}
end
noncomputable def y3j (K:PySem.W.Frag) (a:Addr) (n:Nat) (H:Hp):Prop:=∃xs,SqT K H a xs/\xs.length=n
noncomputable def y3T (K:PySem.W.Frag) (a:Addr) (n:Nat):It:=Itp n (y3j K a n) fun i H u v=>u=.int i/\∀xs,SqT K H a xs->xs[i]?=some v
noncomputable def y1y (K:PySem.W.Frag) (ta:TE):TI:=fun σ H R=>ta σ H fun x H1=>∃a xs,x=.ref a/\SqT K H1 a xs/\R (y3T K a xs.length) H1
section
variable {X:Cx} {es:List Expr} {k:Nat} {tpos:Pos}
end
theorem qG {K:PySem.W.Frag} {ta:TE} {σ:St} {H:Hp} {R:It->Hp->Prop}:y1y K ta σ H R=ta σ H fun x H1=>∃a xs,x=.ref a/\SqT K H1 a xs/\R (y3T K a xs.length) H1:=rfl
theorem z1j:∀ {ys:List Str} {its:List Value},Vals (ys.map V.str) its->∃l:List (Str×Tok),its=strValues l/\l.map (·.1)=ys
 | [],_,.nil=>⟨[],rfl,rfl⟩
 | y::ys,_,.cons r rs=>by
  obtain⟨t,rfl⟩:=r;obtain⟨l,rfl,e⟩:=z1j rs;exact⟨(y,t)::l,rfl,by simp [e]⟩
theorem wM:∀l:List (Str×Tok),Vals (l.map fun p=>V.str p.1) (strValues l)
 | []=>.nil
 | p::l=>.cons ⟨p.2,rfl⟩ (wM l)
section
variable {X:Cx}
theorem z6i:MtR X "str.join" (fun x vs H Q=>∃(sep:Str) (a:Addr) (ys:List Str),x=.str sep/\vs=[.ref a]/\SqL X.K H a (ys.map V.str)/\ys.toArray.foldl (· + ·.length+sep.length) 0<=sizeLine/\(Builtin.Str.glued sep ys).length<=sizeLine/\Q (.str (Builtin.Str.glued sep ys)) H):=by
 intro pins s σ H x vs v us Q I rx rs h;obtain⟨sep,a,ys,rfl,rfl,hq,hz,hg,q⟩:=h;obtain⟨t,rfl⟩:=rx;obtain⟨u,rfl,r1⟩:=Vals.one rs;cases r1;obtain⟨its,rv,pl,_⟩:=I.list hq;obtain⟨l,rfl,rfl⟩:=z1j rv;refine call_meets PySem.F.slot_str_join (typeIs_str _ _ _) PySem.F.entry_str_join (PySem.F.args_str_join_2 _ _) (meets_str_join_list sep t a l (by simp only [Builtin.Str.tooLong];exact decide_eq_false (Nat.not_lt.mpr hz))) ⟨pl.isList,?_⟩
 match l,hg,q with
 | [],hg,q=>exact⟨hg,.str _,H,I.tok _,⟨_,rfl⟩,q⟩
 | [p],_,q=>exact⟨.str p.1,H,I,⟨_,rfl⟩,q⟩
 | p::p2::l,hg,q=>exact⟨hg,.str _,H,I.tok _,⟨_,rfl⟩,q⟩
theorem z4Z:MtR X "str.split" (fun x vs H Q=>∃(z y:Str),x=.str z/\vs=[.str y]/\(y.length == 0)=false/\z.length+10<=sizeLine/\∀D,H D=none->Q (.ref D) (upd H D (.lst ((Txt.split z y).map V.str)))):=by
 intro pins s σ H x vs v us Q I rx rs h;obtain⟨z,y,rfl,rfl,hy,hz,q⟩:=h;obtain⟨t,rfl⟩:=rx;obtain⟨w,rfl,u,rfl⟩:=Vals.one rs;have ln:(Builtin.Str.partsBetween z (Builtin.Str.occurrences z y 0 z.length (z.length+1)) y.length).length<=sizeLine:=by
  have:=PySem.StrLaws.occ_length_le z y 0 z.length (z.length+1);simp only [Builtin.Str.partsBetween,List.length_map,List.length_zip,List.length_cons,List.length_append,List.length_nil];omega
 have fin:∀(l:List (Str×Tok)) (tk:Nat),l.map (·.1)=Txt.split z y->EP X pins σ Q (.ref s.heap.objs.size) { s with toks:=tk,heap:=s.heap.push { cls:=.type "list",data:=.seq (strValues l).toArray } }:=fun l tk e=>by
  have e2:(Txt.split z y).map V.str=l.map fun p=>V.str p.1:=by rw[←e,List.map_map];rfl
  have ll:l.length<=sizeLine:=by
   have:l.length=(Txt.split z y).length:=by rw[←e,List.length_map]
   rw[this];unfold Txt.split;split
   ·show 1<=sizeLine;decide
   ·split
    ·show 1<=sizeLine;decide
    ·exact ln
  have q2:=q _ I.fresh;rw[e2] at q2;exact⟨.ref _,_,I.lnew (t':=tk) (wM l) (by rw[List.length_map];exact ll),rfl,q2⟩
 cases h1:(decide (z.length<y.length) || decide (Builtin.Str.strKind z<Builtin.Str.strKind y)) with
 | true=>
  refine call_meets PySem.F.slot_str_split (typeIs_str _ _ _) PySem.F.entry_str_split (PySem.F.args_str_split_2 _ _) (meets_str_split_cannot_occur z y t u h1) ?_;exact fin [(z,t)] s.toks (by unfold Txt.split;rw[if_pos h1];rfl)
 | false=>
  cases h2:(Builtin.Str.occurrences z y 0 z.length (z.length+1)).isEmpty with
  | true=>
   refine call_meets PySem.F.slot_str_split (typeIs_str _ _ _) PySem.F.entry_str_split (PySem.F.args_str_split_2 _ _) (meets_str_split_not_found z y t u h1 hy h2) ?_;exact fin [(z,t)] s.toks (by unfold Txt.split;rw[if_neg (by rw[h1];decide),if_pos h2];rfl)
  | false=>
   refine call_meets PySem.F.slot_str_split (typeIs_str _ _ _) PySem.F.entry_str_split (PySem.F.args_str_split_2 _ _) (meets_str_split_sep z y t u h1 hy h2 (by omega) ln) ?_;rw[strsFrom_eq];exact fin _ _ (by rw[numbered_texts];unfold Txt.split;rw[if_neg (by rw[h1];decide),if_neg (by rw[h2];decide)])
theorem ya:jY X (.type "int") (fun xs H Q=>∃z n,xs=[.str z]/\intText? z=some n/\z.length<=640/\Q (.int n) H):=by
 intro pins s σ H xs us Q I r h;obtain⟨z,n,rfl,e,hl,q⟩:=h;obtain⟨u,rfl,t,rfl⟩:=Vals.one r;exact PySem.W.KIN.call_text e hl ⟨.int n,H,I.tok _,⟨_,rfl⟩,q⟩
end
noncomputable def Asc (z:Str):Prop:=z.cps.all (· < 128)=true
noncomputable def Itc (z:Str):It:=⟨fun i _=>i<z.cps.size,fun i H x H'=>H'=H/\∃c,z.cps[i]?=some c/\x=.str ⟨#[c]⟩,fun i _=>z.cps.size<=i⟩
theorem z5C {P:Program} {w:World} {K:PySem.W.Frag} {tg:Expr} (z:Str) (t:Tok) (J:Addr):Turn P w K tg (Itc z) [J] J (fun i h=>h.IsStrIter J "str_ascii_iterator" z t i) where
 mem:=by simp
 obj:=fun i h st b hb=>by
  have eb:b=J:=by simpa using hb
  subst eb;obtain⟨o,e1,_,d1⟩:=st;exact⟨o,e1,fun v y=>by rw[d1] at y;cases y⟩
 keep:=fun i h h' st k=>let ⟨o,e1,r⟩:=st;⟨o,k J (by simp) o e1,r⟩
 item:=by
  intro X hP hw hK hc i pins s σ H E I hf st hg;subst hP hw hK;have hi:i<z.cps.size:=hg;have hx:z.cps[i]?=some z.cps[i]:=Array.getElem?_eq_getElem hi;obtain⟨f0,f1,f2,f3,f4,f5⟩:=hf J (by simp);refine wpAny_pyNext_ascii_item st hx fun h' st' sb=>?_;have I1:Inv X pins σ H { s with heap:=h',toks:=s.toks+1 }:=I.turned (t':=s.toks+1) (fun b o hb e=>(sb.2 b hb).trans e) f0 f1 f3 f4 f5;obtain⟨o,e1,c1,d1⟩:=id st';exact⟨_,rfl,z5c (s:={ s with heap:=h',toks:=s.toks+1 }) e1 c1 d1 (by decide) ⟨.str ⟨#[z.cps[i]]⟩,H,I1,⟨_,rfl⟩,⟨rfl,z.cps[i],hx,rfl⟩,st',fun b hb=>(hf b hb).1⟩⟩
 done:=by
  intro X hP hw hK hc i pins s σ H E I hf st hg;subst hP hw hK;have hi:z.cps.size<=i:=hg;obtain⟨f0,f1,f2,f3,f4,f5⟩:=hf J (by simp);exact wpAny_pyNext_ascii_end (I.ok.hd hc) st (Array.getElem?_eq_none hi) fun h' eb=>⟨rfl,I.turned (t':=s.toks) (fun b o hb e=>eb b o hb e) f0 f1 f3 f4 f5⟩
 self:=fun _ _ _ _ _ st h=>wpAny_pyIter_striter_ascii st h
noncomputable def y3K (tl:TE):TI:=fun σ H R=>tl σ H fun x H1=>∃z,x=.str z/\Asc z/\R (Itc z) H1
theorem z1N {tl:TE} {σ:St} {H:Hp} {R:It->Hp->Prop}:y3K tl σ H R=tl σ H fun x H1=>∃z,x=.str z/\Asc z/\R (Itc z) H1:=rfl
section
variable {X:Cx} {tg:Expr}
theorem z9U {l:Expr} {tl:TE} (hl:PE X l tl):PI X tg l (y3K tl):=by
 intro pins s σ H R I h;refine thn (hl pins s σ H _ I h) fun v s1 ⟨x,H1,I1,r1,q1⟩=>?_;obtain⟨z,rfl,hz,q⟩:=q1;obtain⟨t,rfl⟩:=r1;refine wpAny_pyIter_ascii hz ?_;refine⟨s1.heap.objs.size,[s1.heap.objs.size],_,_,H1,rfl,I1.kept (t':=s1.toks) fun b o e=>Heap.get?_push_of_some _ e,z5C z t _,⟨_,Heap.get?_push_size _ rfl,rfl,rfl⟩,fun b hb=>?_,q⟩;have eb:b=s1.heap.objs.size:=by simpa using hb
 rw[eb];exact I1.fpOk (Nat.le_refl _) (I1.hok.fresh (Nat.le_refl _))
noncomputable def CS (mg:Str->Option Value) (x:Str) (z:Str):Prop:=∃t,mg x=some (.str z t)
theorem y2H {K:PySem.W.Frag} {h:Heap} {mg:Str->Option Value} {x z:Str} {t:Tok} (X:K.In h) (G:h.Ns mainGlobals mg) (a:PySem.W.nsIn K mainGlobals x=some (some (.str z t))):CS mg x z:=⟨t,PySem.W.mg_of X G a⟩
theorem y1c {x z:Str} {pos:Pos} (hg:Gl X x) (h:CS X.mg x z) (hd:(x == ("__debug__" : Str))=false:=by decide):PE X (.Name x pos) (tC (.str z)):=by
 obtain⟨t,e⟩:=h;exact xU hg e ⟨t,rfl⟩ hd
end
theorem z2h {σ:St} {H:Hp} {Q:VK} {z:Str} {g:TG} {tt:TT} {te:TE} {own:List Str} {fr:List Nat} (Sv:St->Prop) (Pv:Addr->Nat->List V->Hp->Prop) (hS:Sv (st0 own fr σ))
  (h0:∀D,H D=none->Pv D 0 [] (upd H D (.lst [])))
  (hs:∀D i c ys σ H',z.cps[i]?=some c->Sv σ->H' D=some (.lst ys)->ys.length<=i->Pv D i ys H'->g (.str ⟨#[c]⟩) σ H' fun σ2 H2=>tt σ2 H2 fun b H3=>if b=true then te σ2 H3 fun y H4=>CompP Sv Pv D i σ2 y H4 else qq Sv Pv D (i+1) σ2 H3)
  (hd:∀D ys H',H' D=some (.lst ys)->Pv D z.cps.size ys H'->Q (.ref D) H'):z1g (Itc z) g tt te own fr σ H Q:=by
 intro D hD;refine⟨fun i m σ H=>m=z.cps.size-i/\i<=z.cps.size/\qq Sv Pv D i σ H,⟨_,rfl,Nat.zero_le _,hS,[],zG,Nat.le_refl _,h0 D hD⟩,?_⟩;rintro i m σ1 H1 ⟨rfl,hi,hs1,ys,hy,hy2,p⟩;by_cases hlt:i<z.cps.size
 ·refine .inr ⟨hlt,qq Sv Pv D (i+1),fun σ' H' p'=>⟨z.cps.size-(i+1),by omega,rfl,hlt,p'⟩,fun x H' y=>?_⟩;obtain⟨e,c,ec,ex⟩:=y;subst e ex;exact hs D i c ys σ1 _ ec hs1 hy hy2 p
 ·have e:i=z.cps.size:=by omega
  subst e;exact .inl ⟨Nat.le_refl _,hd D ys H1 hy p⟩
end L2
namespace SM
open L2 PySem PySem.Builtin.Str
noncomputable def tx (l:List Nat):Str:=⟨l.toArray⟩
theorem jp (z:Str):tx z.cps.toList=z:=by
 cases z;simp [tx]
theorem z0f {y z:Str} (h:y.cps.toList=z.cps.toList):y=z:=by
 rw[←jp y,←jp z,h]
noncomputable def spl (c:Nat):List Nat->List (List Nat)
 | []=>[[]]
 | x::xs=>if x=c then []::spl c xs else match spl c xs with
  | h::t=>(x::h)::t
  | []=>[[x]]
theorem ke (c:Nat):∀l:List Nat,∃h t,spl c l=h::t
 | []=>⟨[],[],rfl⟩
 | x::xs=>by
  obtain⟨h,t,e⟩:=ke c xs;unfold spl;split
  ·exact⟨_,_,rfl⟩
  ·rw[e];exact⟨_,_,rfl⟩
noncomputable def yS (c:Nat):List Nat->Nat->List Nat
 | [],_=>[]
 | x::xs,k=>if x=c then k::yS c xs (k+1) else yS c xs (k+1)
theorem xH (z:Str) (i j:Nat):strSub z i j=tx ((z.cps.toList.drop i).take (j-i)):=by
 apply z0f;simp [strSub,tx]
theorem wf (z:Str) (c:Nat):∀(l:List Nat) (k i:Nat),z.cps.toList.drop k=l->k+l.length=z.length->i<=k->
  (((i::(yS c l k).map (· + 1)).zip (yS c l k++[z.length])).map fun (a,b)=>strSub z a b)=match spl c l with
   | h::t=>tx ((z.cps.toList.drop i).take (k-i)++h)::t.map tx
   | []=>[]
 | [],k,i,hd,hl,hi=>by
  simp only [yS,spl,List.map_nil,List.nil_append,List.zip_cons_cons,List.zip_nil_left,List.map_cons,List.append_nil];rw[xH];have:z.length=k:=by simpa using hl.symm
  rw[this]
 | x::xs,k,i,hd,hl,hi=>by
  have hd':z.cps.toList.drop (k+1)=xs:=by rw[←List.tail_drop,hd];rfl
  have hl':k+1+xs.length=z.length:=by rw[List.length_cons] at hl;omega
  have hx:z.cps.toList[k]?=some x:=by
   have:(z.cps.toList.drop k)[0]?=some x:=by rw[hd];rfl
   rw[List.getElem?_drop] at this;exact this
  obtain⟨h,t,e⟩:=ke c xs;by_cases c1:x=c
  ·have ih:=wf z c xs (k+1) (k+1) hd' hl' (Nat.le_refl _);rw[e] at ih;simp only [Nat.sub_self,List.take_zero,List.nil_append] at ih;simp only [yS,spl,c1,if_true,List.map_cons,List.cons_append,List.zip_cons_cons,List.append_nil];rw[ih,xH,e];rfl
  ·have ih:=wf z c xs (k+1) i hd' hl' (by omega);rw[e] at ih;simp only [yS,spl,c1,if_false,e];rw[ih];have e2:(z.cps.toList.drop i).take (k+1-i)=(z.cps.toList.drop i).take (k-i)++[x]:=by
    rw[show k+1-i=(k-i)+1 by omega,List.take_add_one,List.getElem?_drop,show i+(k-i)=k by omega,hx];rfl
   simp only [e2,List.append_assoc,List.singleton_append]
theorem z0e (z:Str) (c k:Nat) {x:Nat} {xs:List Nat} (hd:z.cps.toList.drop k=x::xs):subAt z ⟨#[c]⟩ k=true ↔ x=c:=by
 have e:(z.cps.extract k (k+1)).toList=[x]:=by
  rw[Array.toList_extract,List.extract_eq_take_drop,show k+1-k=1 by omega,hd];rfl
 unfold subAt;show (z.cps.extract k (k+1) == #[c])=true ↔ _;rw[beq_iff_eq,←Array.toList_inj,e];simp
theorem z1A (z:Str) (c:Nat):∀(l:List Nat) (k:Nat) (st:Array Nat×Nat),z.cps.toList.drop k=l->k+l.length=z.length->st.1.size<=k->st.2<=k->
  (forIn (List.range' k (l.length+1)) st (StrLaws.occBody z ⟨#[c]⟩ z.length (z.length+1))).run.fst.toList=st.1.toList++yS c l k
 | [],k,st,hd,hl,h1,h2=>by
  have hk:k=z.length:=by simpa using hl
  show (forIn [k] st (StrLaws.occBody z ⟨#[c]⟩ z.length (z.length+1))).run.fst.toList=_;rw[List.forIn_cons];unfold StrLaws.occBody;rw[if_neg (fun h=>by have:=h.1.2;simp [Str.length] at this hk;omega)];simp [yS]
 | x::xs,k,st,hd,hl,h1,h2=>by
  have hd':z.cps.toList.drop (k+1)=xs:=by rw[←List.tail_drop,hd];rfl
  have hl':k+1+xs.length=z.length:=by rw[List.length_cons] at hl;omega
  show (forIn (k::List.range' (k+1) (xs.length+1)) st (StrLaws.occBody z ⟨#[c]⟩ z.length (z.length+1))).run.fst.toList=_;rw[List.forIn_cons];by_cases c1:x=c
  ·have hb:StrLaws.occBody z ⟨#[c]⟩ z.length (z.length+1) k st=pure (ForInStep.yield (st.fst.push k,k+1)):=by
    unfold StrLaws.occBody;exact if_pos ⟨⟨⟨by omega,h2⟩,by show k+1<=z.length;omega⟩,(z0e z c k hd).mpr c1⟩
   rw[hb];have ih:=z1A z c xs (k+1) (st.fst.push k,k+1) hd' hl' (by simp;omega) (Nat.le_refl _);simp only [yS,c1,if_true];refine Eq.trans ih ?_;simp
  ·have hb:StrLaws.occBody z ⟨#[c]⟩ z.length (z.length+1) k st=pure (ForInStep.yield (st.fst,st.snd)):=by
    unfold StrLaws.occBody;exact if_neg fun h=>c1 ((z0e z c k hd).mp h.2)
   rw[hb];have ih:=z1A z c xs (k+1) (st.fst,st.snd) hd' hl' (by show st.1.size<=k+1;omega) (by show st.2<=k+1;omega);simp only [yS,c1,if_false];exact ih
theorem z1B (z:Str) (c:Nat):occurrences z ⟨#[c]⟩ 0 z.length (z.length+1)=yS c z.cps.toList 0:=by
 rw[StrLaws.occ_eq];have:=z1A z c z.cps.toList 0 (#[],0) rfl (by simp [Str.length]) (Nat.le_refl _) (Nat.le_refl _);have e:z.length+1-0=z.cps.toList.length+1:=by simp [Str.length]
 rw[e,this];simp
theorem z6D (z:Str) (c:Nat) (hc:c<256):Txt.split z ⟨#[c]⟩=(spl c z.cps.toList).map tx:=by
 have main:partsBetween z (occurrences z ⟨#[c]⟩ 0 z.length (z.length+1)) 1=(spl c z.cps.toList).map tx:=by
  rw[z1B];unfold partsBetween;have:=wf z c z.cps.toList 0 0 rfl (by simp [Str.length]) (Nat.le_refl _);obtain⟨h,t,e⟩:=ke c z.cps.toList;rw[e] at this ⊢;simp only [Nat.sub_self,List.take_zero,List.nil_append] at this;exact this
 have one:yS c z.cps.toList 0=[]->(spl c z.cps.toList).map tx=[z]:=fun e=>by
  rw[←main,z1B,e];have e3:(z.cps.toList.take z.cps.size)=z.cps.toList:=List.take_of_length_le (by simp);simp [partsBetween,xH,Str.length,e3,jp]
 unfold Txt.split;split
 ·rename_i h
  have k1:Builtin.Str.strKind ⟨#[c]⟩=1:=by simp [Builtin.Str.strKind,hc]
  have kz:1<=Builtin.Str.strKind z:=by unfold Builtin.Str.strKind;split <;> (try split) <;> decide
  have lz:z.length=0:=by
   rw[k1,Bool.or_eq_true,decide_eq_true_eq,decide_eq_true_eq] at h;have e1:(⟨#[c]⟩:Str).length=1:=rfl;omega
  have ez:z.cps.toList=[]:=List.eq_nil_of_length_eq_zero (by simpa [Str.length] using lz);rw[one (by rw[ez];rfl)]
 ·split
  ·rename_i h
   rw[z1B] at h;rw[one (List.isEmpty_iff.mp h)]
  ·exact main
noncomputable def glu (c:Nat):List (List Nat)->List Nat
 | []=>[]
 | [p]=>p
 | p::q::r=>p++c::glu c (q::r)
theorem z6F {c:Nat}:∀ {p:List Nat},c∉p->∀l,spl c (p++c::l)=p::spl c l
 | [],_,l=>by simp [spl]
 | x::p,h,l=>by
  have h1:x≠c:=fun e=>h (by simp [e]);have h2:c∉p:=fun e=>h (by simp [e]);have e:spl c (x::(p++c::l))=if x=c then []::spl c (p++c::l) else match spl c (p++c::l) with
   | h::t=>(x::h)::t
   | []=>[[x]]:=rfl
  rw[List.cons_append,e,if_neg h1,z6F h2 l]
theorem z3z {c:Nat}:∀ {p:List Nat},c∉p->spl c p=[p]
 | [],_=>rfl
 | x::p,h=>by
  have h1:x≠c:=fun e=>h (by simp [e]);have h2:c∉p:=fun e=>h (by simp [e]);unfold spl;rw[if_neg h1,z3z h2]
theorem z6E {c:Nat}:∀ {ps:List (List Nat)},ps≠[]->(∀p∈ps,c∉p)->spl c (glu c ps)=ps
 | [],h,_=>absurd rfl h
 | [p],_,h=>z3z (h p (by simp))
 | p::q::r,_,h=>by
  show spl c (p++c::glu c (q::r))=_;rw[z6F (h p (by simp)),z6E (by simp) fun x hx=>h x (by simp [hx])]
theorem vx (g:Array Nat):∀(ps:List Str) (acc:Array Nat),(ps.foldl (fun acc p=>acc++g++p.cps) acc).toList=acc.toList++ps.flatMap fun p=>g.toList++p.cps.toList
 | [],acc=>by simp
 | p::ps,acc=>by
  rw[List.foldl_cons,vx g ps];simp
theorem z7H (c:Nat):∀ps:List Str,(glued ⟨#[c]⟩ ps).cps.toList=glu c (ps.map fun p=>p.cps.toList)
 | []=>by simp [glued,glu,Str.empty]
 | p::ps=>by
  have e:(glued ⟨#[c]⟩ (p::ps)).cps.toList=p.cps.toList++ps.flatMap fun q=>c::q.cps.toList:=by
   show ((ps.foldl (fun acc q=>acc ++ #[c]++q.cps) p.cps)).toList=_;rw[vx];simp
  rw[e];clear e
  induction ps generalizing p with
  | nil=>simp [glu]
  | cons q ps ih=>
   have:=ih q;simp only [List.map_cons,glu,List.flatMap_cons] at this ⊢;rw[←this];simp
theorem z7Q:∀m:Nat,0<m->∃ch r,Nat.toDigits 10 m=ch::r/\ch.toNat≠48:=by
 intro m
 induction m using Nat.strongRecOn with
 | _ m ih=>
  intro h0;by_cases h:m<10
  ·rw[Nat.toDigits_of_lt_base h];refine⟨_,[],rfl,?_⟩;have:∀d:Nat,d<10->0<d->(Nat.digitChar d).toNat≠48:=by decide
   exact this m h h0
  ·have hm:m%10<10:=Nat.mod_lt m (by decide);have t:Nat.toDigits 10 (m/10)++Nat.toDigits 10 (m%10)=Nat.toDigits 10 (10*(m/10)+m%10):=Nat.toDigits_append_toDigits (by decide) (by omega) hm;rw[Nat.div_add_mod] at t;obtain⟨ch,r,e,ne⟩:=ih (m/10) (by omega) (by omega);rw[←t,e];exact⟨ch,_,rfl,ne⟩
theorem z4q:∀(k m:Nat),m<10^(k+1)->(Nat.toDigits 10 m).length<=k+1
 | 0,m,h=>by
  rw[Nat.toDigits_of_lt_base (by simpa using h)];simp
 | k+1,m,h=>by
  by_cases h1:m<10
  ·rw[Nat.toDigits_of_lt_base h1];simp
  ·have hm:m%10<10:=Nat.mod_lt m (by decide);have t:Nat.toDigits 10 (m/10)++Nat.toDigits 10 (m%10)=Nat.toDigits 10 (10*(m/10)+m%10):=Nat.toDigits_append_toDigits (by decide) (by omega) hm;rw[Nat.div_add_mod] at t;have ih:=z4q k (m/10) (by rw[Nat.pow_succ] at h;omega);rw[←t,List.length_append,Nat.toDigits_of_lt_base hm];simp;omega
theorem z1C {n:Int} (h0:0<=n):∃l:List Nat,Str.ofString (toString n)=tx l/\PySem.NumText.AllDigits l/\l≠[]/\((PySem.NumText.digitsVal l:Nat):Int)=n/\(l[0]?=some 48->l.length=1)/\∀k:Nat,n<10^(k+1)->l.length<=k+1:=by
 obtain⟨m,rfl⟩:=Int.eq_ofNat_of_zero_le h0;refine⟨(Nat.toDigits 10 m).map Char.toNat,?_,?_,?_,?_,?_,?_⟩
 ·rw[←jp (Str.ofString _),PySem.W.KIN.signs_num]
 ·intro c hc;obtain⟨ch,hch,e⟩:=List.mem_map.mp hc;rw[←e];exact PyProof.Rows.digit_range (Nat.isDigit_of_mem_toDigits (by decide) (by decide) hch)
 ·intro e;have:=List.map_eq_nil_iff.mp e;have h:=PySem.toDigits_len_ge 10 m;rw[this] at h;exact absurd h (by decide)
 ·rw[PySem.W.KIN.val_back]
 ·intro e;rcases Nat.eq_zero_or_pos m with rfl|hp
  ·rfl
  ·obtain⟨ch,r,e1,ne⟩:=z7Q m hp;rw[e1] at e;exact absurd (by simpa using e) ne
 ·intro k hk;rw[List.length_map];refine z4q k m ?_;have e:((10^(k+1):Nat):Int)=10^(k+1):=by rw[Int.natCast_pow];rfl
  rw[←e] at hk;exact Int.ofNat_lt.mp hk
end SM
namespace L2
open PySem PySem.Spec PyProof.Rows
section
variable {prog:Program} {w:World}
variable {A:Around} {E:Value->Shared->Prop} {s:Shared}
end
section
variable {prog:Program} {w:World} {A:Around}
end
section
variable {prog:Program} {w:World} {A:Around} {E:Value->Shared->Prop} {s:Shared}
end
section
variable {prog:Program} {w:World} {A:Around} {E:Value->Shared->Prop}
end
section
variable {prog:Program} {w:World} {A:Around} {E:Value->Shared->Prop} {s:Shared} {I S:Addr} {i ep slot:Nat} {es:Array (Int×Value)} {t:SetTable}
end
section
variable {prog:Program} {w:World} {A:Around} {E:Value->Shared->Prop} {s:Shared} {I S T:Addr} {i ep:Nat} {es:Array (Int×Value)} {t:SetTable} {ps:List Nat}
end
section
variable {prog:Program} {w:World} {A:Around} {I S T:Addr} {ep:Nat} {es:Array (Int×Value)} {t:SetTable} {ps:List Nat}
end
section
variable {prog:Program} {w:World} {A:Around} {E:Value->Shared->Prop} {s:Shared} {S:Addr} {ep:Nat} {es:Array (Int×Value)} {t:SetTable}
end
section
variable {prog:Program} {w:World} {A:Around} {E:Value->Shared->Prop} {s:Shared} {S:Addr} {ep:Nat} {es:Array (Int×Value)} {t:SetTable}
end
open PySem.Calls
section
variable {prog:Program} {w:World} {A:Around} {E:Value->Shared->Prop} {s:Shared}
end
section
variable {X:Cx}
end
noncomputable def y0h (X:Cx) (N:List Str) (scope:Scope) (cl:List (Str×Addr)) (s:Shared) (H:Hp) (fp:List Addr) (E:XK):Cx:=
 (yn X N scope cl s H fp).wish fun e s'=>∃pins σ H1 s1,Inv (yn X N scope cl s H fp) pins σ H1 s1/\CXx X.prog X.w X.stack H1 s1 E e s'
theorem qO {X:Cx} {N:List Str} {scope:Scope} {cl:List (Str×Addr)} {s:Shared} {H:Hp} {fp:List Addr} {E:XK}:(y0h X N scope cl s H fp E).K=X.K:=rfl
section
variable {X:Cx} {pins:List (Addr×Obj)} {σ:St} {H:Hp} {s:Shared}
end
section
variable {prog:Program} {w:World} {A:Around} {E:Value->Shared->Prop} {s:Shared}
end
section
variable {prog:Program} {w:World} {A:Around} {E:Value->Shared->Prop} {s:Shared}
end
noncomputable def y3w (n:Nat) (ok:Hp->Prop) (f:Nat->Hp->V->V->V->Prop):It:=
 ⟨fun i H=>i<n/\ok H,fun i H x H'=>∃T u v t,H T=none/\x=.ref T/\H'=upd H T (.tup [u,v,t])/\f i H u v t,fun i H=>i=n/\ok H⟩
noncomputable def y3i (K:PySem.W.Frag) (a b c:Addr) (n:Nat) (H:Hp):Prop:=∃xs ys zs,SqL K H a xs/\SqL K H b ys/\SqL K H c zs/\min (min xs.length ys.length) zs.length=n
noncomputable def y3S (K:PySem.W.Frag) (a b c:Addr) (n:Nat):It:=y3w n (y3i K a b c n) fun i H u v t=>(∀xs,SqL K H a xs->xs[i]?=some u)/\(∀ys,SqL K H b ys->ys[i]?=some v)/\∀zs,SqL K H c zs->zs[i]?=some t
noncomputable def y2h (K:PySem.W.Frag) (ta tb tc:TE):TI:=fun σ H R=>ta σ H fun x H1=>tb σ H1 fun y H2=>tc σ H2 fun z H3=>∃a b c xs ys zs,x=.ref a/\y=.ref b/\z=.ref c/\SqL K H3 a xs/\SqL K H3 b ys/\SqL K H3 c zs/\R (y3S K a b c (min (min xs.length ys.length) zs.length)) H3
section
variable {X:Cx} {es:List Expr} {k:Nat} {tpos:Pos}
end
theorem kj {K:PySem.W.Frag} {ta tb tc:TE} {σ:St} {H:Hp} {R:It->Hp->Prop}:y2h K ta tb tc σ H R=ta σ H fun x H1=>tb σ H1 fun y H2=>tc σ H2 fun z H3=>∃a b c xs ys zs,x=.ref a/\y=.ref b/\z=.ref c/\SqL K H3 a xs/\SqL K H3 b ys/\SqL K H3 c zs/\R (y3S K a b c (min (min xs.length ys.length) zs.length)) H3:=rfl
section
variable {X:Cx}
theorem z2l (hc:X.calm=true):jY X (.builtin "sum") (fun vs H Q=>∃(a:Addr) (ns:List Int),vs=[.ref a]/\SqL X.K H a (ns.map V.int)/\Q (.int ns.sum) H):=by
 intro pins s σ H xs us Q I r h;obtain⟨a,ns,rfl,hq,q⟩:=h;obtain⟨u,rfl,r1⟩:=Vals.one r;cases r1;obtain⟨its,rv,pl,hz⟩:=I.list hq;have hi:IntsAre its ns:=qk rv;obtain⟨ys,ex⟩:=hi.allInts.items;have hns:ns=ys.toList.map (·.1):=by rw[←hi.numsOf,←nums_intItems,←ex]
 have hsz:ys.size=ns.length:=by rw[hns,List.length_map,Array.length_toList]
 have hL:=pl.isList;rw[ex] at hL;refine call_sum_walkG (iter_intList hL fun s₂ e st hfp hlI=>?_);subst e;refine⟨_,_,_,_,_,_,numAt ys,rfl,Walks.list (A:=X.A.in1) (I.ok.hd hc) _ a hlI (intItems ys),st,hfp,(fun _ _=>intItems_at),fun h' tk t' hk=>?_⟩;have e2:preSum (numAt ys) (intItems ys).size=ns.sum:=by
  have:(intItems ys).size=ys.size:=by simp [intItems]
  rw[this,preSum_eq,←hns,hsz,List.take_length]
 rw[e2];exact⟨.int ns.sum,H,I.kept (old_kept hk),⟨t',rfl⟩,q⟩
end
section
variable {X:Cx}
end
open PySem.W
noncomputable def y1T (C C':Addr) (bm:List Value):List V->Hp->VK->Prop:=fun xs H Q=>∃a,xs=[.ref a,.ref C']/\H a=some (wF a (.ref C))/\Q (.bl ((Value.ref C::bm).contains (.ref C'))) H
theorem xF {X:Cx} {x x':Str} {C C':Addr} {bm bm':List Value} (Z:OC X.K C) (O:OX X.K X.mg x C bm) (ho:(Value.ref C::bm).contains (.type "object")=true) (O':OX X.K X.mg x' C' bm'):jY X (.builtin "isinstance") (y1T C C' bm):=by
 intro pins s σ H xs us Q I r h;obtain⟨a,rfl,ha,q⟩:=h;obtain⟨u,c,rfl,r1,r2⟩:=Vals.two r;obtain rfl:c=Value.ref C':=r2;obtain rfl:u=Value.ref a:=r1;have hoa:=(show ObjOk X.prog X.w H s.heap a (wF a (.ref C)) from I.hok a _ ha)
 exact kia_one (z8g Z O ho) I.kIn hoa.1 (z5O O O') (fun z=>nomatch z) fun tk=>⟨.bl _,H,I.tok tk,rfl,q⟩
open SM
theorem z2U {v:Value} {o:Option Int} (h:IsPart v o):∃l:Option (Int×Tok),v=partValue l/\l.map (·.1)=o:=by
 cases h with
 | none=>exact⟨none,rfl,rfl⟩
 | int i t=>exact⟨some (i,t),rfl,rfl⟩
noncomputable def y3c:V->Option Int->Option Int->Hp->VK->Prop:=fun x lo hi H Q=>∃z,x=.str z/\z.length<=sizeLine/\Q (.str (Txt.slice z lo hi)) H
section
variable {X:Cx}
theorem y1M:SlR X y3c:=by
 intro pins s σ H x v vl vu lo hi sl Q I rx hs pl pu h;obtain⟨z,rfl,hz,q⟩:=h;obtain⟨t,rfl⟩:=rx;obtain⟨l,rfl,rfl⟩:=z2U pl;obtain⟨u,rfl,rfl⟩:=z2U pu;refine⟨"str",_,F.slot_str_getitem.lookup,typeIs_str _ _ _,wpAny_getItem_str_slice (l:=l) (u:=u) (st:=none) hs rfl ?_⟩;exact post_val_or_str ⟨Nat.le_trans (Txt.slice_le z _ _) hz,fun t' k=>⟨.str _,H,I.tok _,⟨_,rfl⟩,q⟩⟩
theorem z3G {i:Nat} {x:Str} {e:Expr} {te:XK->TE} {pos' pos:Pos} (hN:X.N.Nodup) (hi:X.N[i]?=some x) (hx:Loc X.env.scope x) (he:PXe X e te) (hs:swapsWith e (some (.Name x pos')) pos.line X.env=pure false:=by rfl) (hf:X.fn x=true∨X.env.scope.names.lookup x=some .local:=by first|exact .inl rfl|exact .inr rfl|assumption) :
  PXs X [.Assign [.Name x pos'] e pos] fun E=>z9k (te E) (qH i):=by
 intro pins s σ H D E I h;refine wpAny_execs_cons (wpAny_Assign_Name (thn (he pins s σ H _ E I h) fun v s1 ⟨y,H1,I1,r1,q1⟩=>?_) hs);exact yu I1 hN hi hx r1 (fun s2 I2=>wpAny_execs_nil ⟨_,H1,I2,q1⟩) hf
end
theorem z3i {z:Str}:Asc z ↔ ∀c∈z.cps.toList,c<128:=by
 unfold Asc;rw[Array.all_eq_true_iff_forall_mem];exact⟨fun h c hc=>of_decide_eq_true (h c (Array.mem_toList_iff.mp hc)),fun h c hc=>decide_eq_true (h c (Array.mem_toList_iff.mpr hc))⟩
theorem z2r {l:List Nat}:Asc (tx l) ↔ ∀c∈l,c<128:=by
 rw[z3i];simp [tx]
theorem Asc.slice {z:Str} (h:Asc z) (lo hi:Option Int):Asc (Txt.slice z lo hi):=by
 unfold Txt.slice;split
 ·exact h
 ·rw[z3i] at h ⊢;intro c hc;simp only [List.mem_filterMap] at hc;obtain⟨i,_,e⟩:=hc;exact h c (Array.mem_toList_iff.mpr (Array.mem_of_getElem? e))
theorem z6B (y z:Str):(y++z).cps.toList=y.cps.toList++z.cps.toList:=by
 show (y.cps++z.cps).toList=_;simp
theorem z7m (bs:List Bool):(List.range bs.length).all (fun i=>bs.getD i false)=bs.all id:=by
 rw[Bool.eq_iff_iff,List.all_eq_true,List.all_eq_true];constructor
 ·intro h b hb;obtain⟨i,hi,e⟩:=List.getElem_of_mem hb;have:=h i (List.mem_range.mpr hi);rw[List.getD_eq_getElem?_getD,List.getElem?_eq_getElem hi,e] at this;exact this
 ·intro h i hi;have hi:=List.mem_range.mp hi;rw[List.getD_eq_getElem?_getD,List.getElem?_eq_getElem hi];exact h _ (List.getElem_mem hi)
theorem z2m {X:Cx} (hc:X.calm=true):jY X (.builtin "all") (fun vs H Q=>∃(a:Addr) (bs:List Bool),vs=[.ref a]/\SqL X.K H a (bs.map V.bl)/\Q (.bl (bs.all id)) H):=by
 intro pins s σ H xs us Q I r h;obtain⟨a,bs,rfl,hq,q⟩:=h;obtain⟨u,rfl,r1⟩:=Vals.one r;cases r1;obtain⟨its,rv,pl,hz⟩:=I.list hq;have hl:=pl.isList;have la:a<s.heap.objs.size:=by obtain⟨o,e,_⟩:=hl;exact Heap.lt_size e
 have ne:a≠s.heap.objs.size:=Nat.ne_of_lt la;refine call_all_walkS (wpAny_pyIter_list hl ?_);have WS:=(Walks.list (prog:=X.prog) (w:=X.w) (A:=X.A.in1) (I.ok.hd hc) s.heap.objs.size a ne its.toArray).toS;refine⟨_,_,_,_,_,_,_,fun i=>bs.getD i false,rfl,WS,⟨⟨_,Heap.get?_push_size _ rfl,rfl,rfl⟩,hl.push _⟩,fun i v s' Q' E' hv hq'=>?_,fun s' mv=>?_⟩
 ·have hv':its[i]?=some v:=by simpa using hv
  have hi:i<(bs.map V.bl).length:=by rw[rv.length];exact (List.getElem?_eq_some_iff.mp hv').1
  obtain⟨u,e1,r2⟩:=rv.get (List.getElem?_eq_getElem hi);rw[hv'] at e1;cases e1;rw[List.length_map] at hi;rw[List.getElem_map] at r2;cases r2;have hq2:Q' (bs.getD i false) s':=hq';rw[List.getD_eq_getElem?_getD,List.getElem?_eq_getElem hi] at hq2;exact wpAny_truthy_bool hq2
 ·have e:(List.range its.toArray.size).all (fun i=>bs.getD i false)=bs.all id:=by
   have:its.toArray.size=bs.length:=by
    have:=rv.length;rw[List.length_map] at this;simp [this]
   rw[this];exact z7m bs
  rw[e,Moved.eq_with mv];refine⟨.bl (bs.all id),H,I.kept fun b o e=>mv.heap b o (fun z=>?_) (Heap.get?_push_of_some _ e),rfl,q⟩;exact absurd (Heap.lt_size e) (by rw[List.mem_singleton.mp z];exact Nat.lt_irrefl _)
noncomputable def TM (K:PySem.W.Frag) (C:Addr) (x qual:Str) (st:Stmt):Prop:=∃f fd,Fun K x qual st f fd/\Meth K C x f
theorem z9g {K:PySem.W.Frag} {C:Addr} {x qual:Str} {st:Stmt} {f:Addr} {oc:Value} {od an:Option Addr} {osl:Array (Option Value)} {kV doc pm cdv ct:Value}
  (a:PySem.W.findIn K (.ref C) x=some (some (.ref f))) (i:PySem.W.isFn K (.ref f)=true) (l:K.lookup f=some ⟨oc,od,.func (PySem.W.fnOf x qual (yg st) (yD st) (zK st) .none kV doc pm an cdv ct),osl⟩) (c:PySem.W.codeIn K cdv qual=true) (k:PySem.W.keepIn K (.ref f)=true):TM K C x qual st:=
 ⟨f,_,z9a l c k,a,i,k⟩
noncomputable def HasM (P:Program) (w:World) (K:PySem.W.Frag) (mg:Str->Option Value) (base:Heap) (k:Nat) (C:Addr) (x:Str) (ps:List Str) (sp:Sp):Prop:=
 ∃f fd,FnOk P w K mg base CX0 k f fd ps sp/\(∀us:List Value,us.length=ps.length->bindArgs fd ⟨us,[]⟩=pure (ps.zip us))/\Meth K C x f
theorem HasM.mono {P:Program} {w:World} {K:PySem.W.Frag} {mg:Str->Option Value} {base:Heap} {j k:Nat} {C:Addr} {x:Str} {ps:List Str} {sp:Sp} (h:HasM P w K mg base j C x ps sp) (hk:j<=k):HasM P w K mg base k C x ps sp:=
 let ⟨f,fd,F,b⟩:=h
 ⟨f,fd,F.mono hk,b⟩
theorem TM.has {P:Program} {w:World} {K:PySem.W.Frag} {mg:Str->Option Value} {base:Heap} {C:Addr} {x qual:Str} {st:Stmt} {N ps:List Str} {k:Nat} {sp:Sp} (T:TM K C x qual st) (S:FnScope N ps (zK st))
  (hb:∀(kV doc pm:Value) (an:Option Addr) (cdv ct:Value) (us:List Value),us.length=ps.length->bindArgs (PySem.W.fnOf x qual (yg st) (yD st) (zK st) .none kV doc pm an cdv ct) ⟨us,[]⟩=pure (ps.zip us))
  (len:∀vs H Q E,sp vs H Q E->vs.length=ps.length)
  (hbody:∀(f:Addr) (cdv:Value) (A:Around) (outer:List Env) (s:Shared) (H:Hp) (vs:List V) (Q:VK) (E:XK),Room k (A.deeper (envOfC qual (zK st) s.heap.objs.size f cdv))->sp vs H Q E->
   ∃t,PSs (qN CX0 P w K mg base N qual (zK st) f cdv A outer s H E).nox (yD st) t/\t { nx:=fun _ H'=>Q .non H',rt:=Q } (yo N vs) H):HasM P w K mg base (k+1) C x ps sp:=by
 obtain⟨f,fd,F,m⟩:=T;have ok:=F.ok (P:=P) (w:=w) (mg:=mg) (base:=base) S len fun cdv A outer s H vs Q E hr hsp=>hbody f cdv A outer s H vs Q E hr hsp;obtain⟨oc,od,kV,doc,pm,an,cdv,ct,osl,rfl,lk,hcd⟩:=F.ex;exact⟨f,_,ok,hb kV doc pm an cdv ct,m⟩
section
variable {X:Cx} {k:Nat} {C:Addr} {ps:List Str} {sp:Sp} {x m:Str} {p pos apos:Pos} {e o:Expr} {es:List Expr} {ta:TE} {t:TA}
end
noncomputable def y2x (te:TE):TE:=fun σ H Q=>te σ H fun x H1=>(∃i,x=.int i/\i.natAbs.log2<1920/\Q (.str (toString i)) H1)∨∃z,x=.str z/\z.length<=sizeLine/\Q (.str z) H1
noncomputable abbrev TJ:=Str->TE
noncomputable def y3I:TJ:=fun acc _ H Q=>acc.length<=sizeLine/\Q (.str acc) H
noncomputable def y1r (te:TE) (tj:TJ):TJ:=fun acc σ H Q=>te σ H fun x H1=>∃z,x=.str z/\(acc++z).length<=sizeLine/\tj (acc++z) σ H1 Q
noncomputable def y1C (tj:TJ):TE:=fun σ H Q=>tj Str.empty σ H Q
section
variable {σ:St} {H:Hp} {Q:VK} {te:TE} {tj:TJ} {acc:Str}
theorem z0V:y2x te σ H Q=te σ H fun x H1=>(∃i,x=.int i/\i.natAbs.log2<1920/\Q (.str (toString i)) H1)∨∃z,x=.str z/\z.length<=sizeLine/\Q (.str z) H1:=rfl
theorem z1H:y3I acc σ H Q=(acc.length<=sizeLine/\Q (.str acc) H):=rfl
theorem ki:y1r te tj acc σ H Q=te σ H fun x H1=>∃z,x=.str z/\(acc++z).length<=sizeLine/\tj (acc++z) σ H1 Q:=rfl
theorem kS:y1C tj σ H Q=tj Str.empty σ H Q:=rfl
end
section
variable {X:Cx} {e a b:Expr} {es:List Expr} {te:TE} {tj:TJ} {pos:Pos}
noncomputable def PJ (X:Cx) (es:List Expr) (tj:TJ):Prop:=∀(pins:List (Addr×Obj)) (s:Shared) (σ:St) (H:Hp) (acc:Str) (Q:VK),Inv X pins σ H s->tj acc σ H Q->wpAny (model X.prog X.w) X.A (joinParts acc (evalEach es X.env)) (EP X pins σ Q) X.xe s
theorem y1Z:PJ X [] y3I:=by
 intro pins s σ H acc Q I h;exact joinParts_nil ⟨.str acc,H,I.tok _,⟨_,rfl⟩,h.2⟩ h.1
theorem wc (he:PE X e te) (hj:PJ X es tj):PJ X (e::es) (y1r te tj):=by
 intro pins s σ H acc Q I h;refine joinParts_cons (thn (he pins s σ H _ I h) fun v s1 ⟨x,H1,I1,r1,q1⟩=>?_);obtain⟨z,rfl,hz,q⟩:=q1;obtain⟨t,rfl⟩:=r1;exact⟨hz,hj pins s1 σ H1 _ Q I1 q⟩
theorem y0G (hj:PJ X (a::b::es) tj):PE X (.JoinedStr (a::b::es) pos) (y1C tj):=by
 intro pins s σ H Q I h;exact JoinedStr_many (hj pins s σ H _ Q I h)
theorem z6W (he:PE X e te):PE X (.FormattedValue e (-1) none pos) (y2x te):=by
 intro pins s σ H Q I h;refine FormattedValue_plain (thn (he pins s σ H _ I h) fun v s1 ⟨x,H1,I1,r1,q1⟩=>?_);rcases q1 with⟨i,rfl,hi,q⟩|⟨z,rfl,hz,q⟩
 ·obtain⟨t,rfl⟩:=r1;exact formatField_int_small hi ⟨.str _,H1,I1.tok _,⟨_,rfl⟩,q⟩
 ·obtain⟨t,rfl⟩:=r1;exact formatField_str (fun t' tk=>⟨.str _,H1,I1.tok _,⟨_,rfl⟩,q⟩) hz
end
section
variable {K:PySem.W.Frag} {σ:St} {H:Hp} {Q:VK} {D:Ends} {ta tv:TE} {t:TA} {f m:Str} {C:Addr} {sp:Sp} {dvs:List V} {E:XK} {rd:V->V->Hp->VK->Prop}
theorem z0W:y2y K ta f σ H Q=ta σ H fun x H1=>∃a C dx fs v,x=.ref a/\H1 a=some (.ins C dx fs)/\Cls K C/\NoAttr K C f/\fs.lookup f=some v/\Q v H1:=rfl
theorem z0p:y3E K ta tv f D σ H=tv σ H fun y H1=>ta σ H1 fun x H2=>∃a C dx fs,x=.ref a/\H2 a=some (.ins C dx fs)/\Cls K C/\NoAttr K C f/\fs.length<1000/\D.nx σ (upd H2 a (.ins C dx (z0v f y fs))):=rfl
theorem jS:z9s K ta tv rd f D σ H=ta σ H fun x H1=>∃a C dx fs v,x=.ref a/\H1 a=some (.ins C dx fs)/\Cls K C/\NoAttr K C f/\fs.lookup f=some v/\tv σ H1 fun y H2=>rd v y H2 fun z H3=>∃dx' fs',H3 a=some (.ins C dx' fs')/\fs'.length<1000/\D.nx σ (upd H3 a (.ins C dx' (z0v f z fs'))):=rfl
theorem kP:z7u C m sp dvs E ta t σ H Q=ta σ H fun x H1=>∃a dx fs,x=.ref a/\H1 a=some (.ins C dx fs)/\fs.lookup m=none/\t σ H1 fun vs H2=>sp (x::(vs++dvs)) H2 Q E:=rfl
theorem kR:y1B C sp dvs E t σ H Q=t σ H fun vs H1=>∀x dx,H1 x=none->H1 dx=none->dx≠x->sp (.ref x::(vs++dvs)) (upd (upd H1 dx (.own x)) x (.ins C dx [])) (fun v H2=>v=.non/\Q (.ref x) H2) E:=rfl
end
noncomputable def HasMX (P:Program) (w:World) (K:PySem.W.Frag) (mg:Str->Option Value) (base:Heap) (k:Nat) (C:Addr) (x:Str) (ps:List Str) (sp:Sp):Prop:=
 ∃f fd,FnOk P w K mg base (CXx P w) k f fd ps sp/\(∀us:List Value,us.length=ps.length->bindArgs fd ⟨us,[]⟩=pure (ps.zip us))/\Meth K C x f
theorem HasMX.mono {P:Program} {w:World} {K:PySem.W.Frag} {mg:Str->Option Value} {base:Heap} {j k:Nat} {C:Addr} {x:Str} {ps:List Str} {sp:Sp} (h:HasMX P w K mg base j C x ps sp) (hk:j<=k):HasMX P w K mg base k C x ps sp:=
 let ⟨f,fd,F,b⟩:=h
 ⟨f,fd,F.mono hk,b⟩
theorem TM.hasX {P:Program} {w:World} {K:PySem.W.Frag} {mg:Str->Option Value} {base:Heap} {C:Addr} {x qual:Str} {st:Stmt} {N ps:List Str} {k:Nat} {sp:Sp} (T:TM K C x qual st) (S:FnScope N ps (zK st))
  (hb:∀(kV doc pm:Value) (an:Option Addr) (cdv ct:Value) (us:List Value),us.length=ps.length->bindArgs (PySem.W.fnOf x qual (yg st) (yD st) (zK st) .none kV doc pm an cdv ct) ⟨us,[]⟩=pure (ps.zip us))
  (len:∀vs H Q E,sp vs H Q E->vs.length=ps.length)
  (hbody:∀(f:Addr) (cdv:Value) (A:Around) (outer:List Env) (s:Shared) (H:Hp) (vs:List V) (Q:VK) (E:XK),Room k (A.deeper (envOfC qual (zK st) s.heap.objs.size f cdv))->sp vs H Q E->
   ∃t,PSs (qN (CXx P w) P w K mg base N qual (zK st) f cdv A outer s H E) (yD st) t/\t { nx:=fun _ H'=>Q .non H',rt:=Q } (yo N vs) H):HasMX P w K mg base (k+1) C x ps sp:=by
 obtain⟨f,fd,F,m⟩:=T;obtain⟨oc,od,kV,doc,pm,an,cdv,ct,osl,rfl,lk,hcd⟩:=F.ex;exact⟨f,_,z8w lk hcd S len fun A outer s H vs Q E hr hsp=>hbody f cdv A outer s H vs Q E hr hsp,hb kV doc pm an cdv ct,m⟩
section
variable {X:Cx} {k:Nat} {C:Addr} {ps:List Str} {sp:Sp} {x m:Str} {p pos apos:Pos} {e o:Expr} {es:List Expr} {ta:TE} {t:TA} {E:XK}
theorem z3K {pl:Sem Bool} (he:PE X o ta) (c:Cls X.K C) (h:HasMX X.prog X.w X.K X.mg X.base k C m ps sp) (hr:Room k X.A) (hx:vP (CXx X.prog X.w) X E) (ha:PA X (e::es) t)
  (hst:starEach (e::es) X.env=(false,eval e X.env)::starEach es X.env:=by rfl) (hpl:(backTo pos (starEach es X.env)).any (·.1)=false:=by rfl)
  (ht:eval (.Call (.Attribute o m apos) (e::es) [] pos) X.env=(do
   let ov ←eval o X.env
   standAt apos.atName
   let (f,first) ←holding [ov] (getMethod ov m pl)
   callWith pos f first (backTo pos (starEach (e::es) X.env)) (backToKw pos (keywordEach [] X.env))):=by rfl) :
  PE X (.Call (.Attribute o m apos) (e::es) [] pos) (z7u C m sp [] E ta t):=by
 obtain⟨f,fd,F,hb,hm⟩:=h;exact y0F he c hm F hr (.all hb) .nil hx ha hst hpl ht
end
section
variable {X:Cx}
theorem z3f:jY X (.type "int") (fun xs H Q=>∃b,xs=[.bl b]/\Q (.int (if b then 1 else 0)) H):=by
 intro pins s σ H xs us Q I r h;obtain⟨b,rfl,q⟩:=h;obtain⟨u,rfl,rfl⟩:=Vals.one r;exact PySem.call_int_bool ⟨.int _,H,I.tok _,⟨_,rfl⟩,q⟩
end
end L2
namespace SM
open L2 PySem PySem.Builtin.Str
noncomputable def xl (c:Nat):List Nat->Nat->List (List Nat)
 | [],_=>[[]]
 | x::xs,n=>if n=0 then [x::xs] else if x=c then []::xl c xs (n-1) else match xl c xs n with
  | h::t=>(x::h)::t
  | []=>[[x]]
theorem va (c x:Nat) (xs:List Nat) (n:Nat):xl c (x::xs) n=if n=0 then [x::xs] else if x=c then []::xl c xs (n-1) else match xl c xs n with
  | h::t=>(x::h)::t
  | []=>[[x]]:=rfl
theorem z1q (c:Nat) (l:List Nat):xl c l 0=[l]:=by
 cases l <;> simp [xl]
theorem xr (c:Nat):∀(l:List Nat) (n:Nat),∃h t,xl c l n=h::t
 | [],_=>⟨_,_,rfl⟩
 | x::xs,n=>by
  obtain⟨h,t,e⟩:=xr c xs n;unfold xl;split
  ·exact⟨_,_,rfl⟩
  ·split
   ·exact⟨_,_,rfl⟩
   ·rw[e];exact⟨_,_,rfl⟩
theorem qi (z:Str) (c:Nat):∀(l:List Nat) (k i n:Nat),z.cps.toList.drop k=l->k+l.length=z.length->i<=k->
  (((i::((yS c l k).take n).map (· + 1)).zip ((yS c l k).take n++[z.length])).map fun (a,b)=>strSub z a b)=match xl c l n with
   | h::t=>tx ((z.cps.toList.drop i).take (k-i)++h)::t.map tx
   | []=>[]
 | [],k,i,n,hd,hl,hi=>by
  simp only [yS,xl,List.take_nil,List.map_nil,List.nil_append,List.zip_cons_cons,List.zip_nil_left,List.map_cons,List.append_nil];rw[xH];have:z.length=k:=by simpa using hl.symm
  rw[this]
 | x::xs,k,i,0,hd,hl,hi=>by
  rw[z1q];simp only [List.take_zero,List.map_nil,List.nil_append,List.zip_cons_cons,List.zip_nil_left,List.map_cons];rw[xH];congr 2;have lz:z.cps.toList.length=z.length:=by simp [Str.length]
  have e1:(z.cps.toList.drop i).take (z.length-i)=z.cps.toList.drop i:=List.take_of_length_le (by rw[List.length_drop];omega);have e2:(z.cps.toList.drop i).drop (k-i)=x::xs:=by rw[List.drop_drop,show i+(k-i)=k by omega,hd]
  rw[e1,←e2,List.take_append_drop]
 | x::xs,k,i,n+1,hd,hl,hi=>by
  have hd':z.cps.toList.drop (k+1)=xs:=by rw[←List.tail_drop,hd];rfl
  have hl':k+1+xs.length=z.length:=by rw[List.length_cons] at hl;omega
  have hx:z.cps.toList[k]?=some x:=by
   have:(z.cps.toList.drop k)[0]?=some x:=by rw[hd];rfl
   rw[List.getElem?_drop] at this;exact this
  by_cases c1:x=c
  ·obtain⟨h,t,e⟩:=xr c xs n;have ih:=qi z c xs (k+1) (k+1) n hd' hl' (Nat.le_refl _);rw[e] at ih;simp only [Nat.sub_self,List.take_zero,List.nil_append] at ih;have e0:xl c (x::xs) (n+1)=[]::xl c xs n:=by
    rw[va,if_neg (by omega),if_pos c1];rfl
   have e3:(yS c (x::xs) k).take (n+1)=k::(yS c xs (k+1)).take n:=by
    simp only [yS,c1,if_true,List.take_succ_cons]
   rw[e0,e3,e];simp only [List.map_cons,List.cons_append,List.zip_cons_cons,List.append_nil];rw[ih,xH]
  ·obtain⟨h,t,e⟩:=xr c xs (n+1);have ih:=qi z c xs (k+1) i (n+1) hd' hl' (by omega);rw[e] at ih;have e0:xl c (x::xs) (n+1)=(x::h)::t:=by
    rw[va,if_neg (by omega),if_neg c1,e]
   have e3:yS c (x::xs) k=yS c xs (k+1):=by
    simp only [yS,c1,if_false]
   rw[e0,e3,ih];have e2:(z.cps.toList.drop i).take (k+1-i)=(z.cps.toList.drop i).take (k-i)++[x]:=by
    rw[show k+1-i=(k-i)+1 by omega,List.take_add_one,List.getElem?_drop,show i+(k-i)=k by omega,hx];rfl
   simp only [e2,List.append_assoc,List.singleton_append]
theorem wm (z:Str) (c lim:Nat):∀(l:List Nat) (k:Nat) (st:Array Nat×Nat),z.cps.toList.drop k=l->k+l.length=z.length->st.2<=k->
  (forIn (List.range' k (l.length+1)) st (StrLaws.occBody z ⟨#[c]⟩ z.length lim)).run.fst.toList=st.1.toList++(yS c l k).take (lim-st.1.size)
 | [],k,st,hd,hl,h2=>by
  have hk:k=z.length:=by simpa using hl
  show (forIn [k] st (StrLaws.occBody z ⟨#[c]⟩ z.length lim)).run.fst.toList=_;rw[List.forIn_cons];unfold StrLaws.occBody;rw[if_neg (fun h=>by have:=h.1.2;simp [Str.length] at this hk;omega)];simp [yS]
 | x::xs,k,st,hd,hl,h2=>by
  have hd':z.cps.toList.drop (k+1)=xs:=by rw[←List.tail_drop,hd];rfl
  have hl':k+1+xs.length=z.length:=by rw[List.length_cons] at hl;omega
  show (forIn (k::List.range' (k+1) (xs.length+1)) st (StrLaws.occBody z ⟨#[c]⟩ z.length lim)).run.fst.toList=_;rw[List.forIn_cons];by_cases c1:x=c/\st.1.size<lim
  ·have hb:StrLaws.occBody z ⟨#[c]⟩ z.length lim k st=pure (ForInStep.yield (st.fst.push k,k+1)):=by
    unfold StrLaws.occBody;exact if_pos ⟨⟨⟨c1.2,h2⟩,by show k+1<=z.length;omega⟩,(z0e z c k hd).mpr c1.1⟩
   rw[hb];have ih:=wm z c lim xs (k+1) (st.fst.push k,k+1) hd' hl' (Nat.le_refl _);have e:lim-st.1.size=(lim-(st.1.push k).size)+1:=by rw[Array.size_push];omega
   simp only [yS,c1.1,if_true];refine Eq.trans ih ?_;rw[e,List.take_succ_cons];simp
  ·have hb:StrLaws.occBody z ⟨#[c]⟩ z.length lim k st=pure (ForInStep.yield (st.fst,st.snd)):=by
    unfold StrLaws.occBody;exact if_neg fun h=>c1 ⟨(z0e z c k hd).mp h.2,h.1.1.1⟩
   rw[hb];have ih:=wm z c lim xs (k+1) (st.fst,st.snd) hd' hl' (by show st.2<=k+1;omega);refine Eq.trans ih ?_;by_cases c2:x=c
   ·have:lim-st.1.size=0:=by
     rcases Nat.lt_or_ge st.1.size lim with z1|z1
     ·exact absurd ⟨c2,z1⟩ c1
     ·omega
    simp only [this,List.take_zero]
   ·simp only [yS,c2,if_false]
theorem jy (z:Str) (c lim:Nat):occurrences z ⟨#[c]⟩ 0 z.length lim=(yS c z.cps.toList 0).take lim:=by
 rw[StrLaws.occ_eq];have:=wm z c lim z.cps.toList 0 (#[],0) rfl (by simp [Str.length]) (Nat.le_refl _);have e:z.length+1-0=z.cps.toList.length+1:=by simp [Str.length]
 rw[e,this];simp
theorem z1o (z:Str) (c n:Nat) (hc:c<256):Txt.splitMax z ⟨#[c]⟩ (n:Int)=(xl c z.cps.toList n).map tx:=by
 have lim:limitOf z (n:Int)=n:=by
  unfold limitOf;rw[if_neg (by omega)];omega
 have main:partsBetween z (occurrences z ⟨#[c]⟩ 0 z.length (limitOf z n)) 1=(xl c z.cps.toList n).map tx:=by
  rw[lim,jy];unfold partsBetween;have:=qi z c z.cps.toList 0 0 n rfl (by simp [Str.length]) (Nat.le_refl _);obtain⟨h,t,e⟩:=xr c z.cps.toList n;rw[e] at this ⊢;simp only [Nat.sub_self,List.take_zero,List.nil_append] at this;exact this
 have one:(yS c z.cps.toList 0).take n=[]->(xl c z.cps.toList n).map tx=[z]:=fun e=>by
  rw[←main,lim,jy,e];have e3:(z.cps.toList.take z.cps.size)=z.cps.toList:=List.take_of_length_le (by simp);simp [partsBetween,xH,Str.length,e3,jp]
 unfold Txt.splitMax;split
 ·rename_i h
  have k1:Builtin.Str.strKind ⟨#[c]⟩=1:=by simp [Builtin.Str.strKind,hc]
  have kz:1<=Builtin.Str.strKind z:=by unfold Builtin.Str.strKind;split <;> (try split) <;> decide
  have lz:z.length=0:=by
   rw[k1,Bool.or_eq_true,decide_eq_true_eq,decide_eq_true_eq] at h;have e1:(⟨#[c]⟩:Str).length=1:=rfl;omega
  have ez:z.cps.toList=[]:=List.eq_nil_of_length_eq_zero (by simpa [Str.length] using lz);rw[one (by rw[ez];simp [yS])]
 ·split
  ·rename_i h
   rw[lim,jy] at h;rw[one (List.isEmpty_iff.mp h)]
  ·exact main
theorem z0A (c:Nat):∀(l:List Nat) (k:Nat),(yS c l k=[]->l.takeWhile (· != c)=l)/\∀i r,yS c l k=i::r->k<=i/\l.takeWhile (· != c)=l.take (i-k)
 | [],k=>⟨fun _=>rfl,fun i r h=>nomatch h⟩
 | x::xs,k=>by
  obtain⟨a,b⟩:=z0A c xs (k+1);unfold yS;by_cases e:x=c
  ·rw[if_pos e];refine⟨(fun h=>nomatch h),fun i r h=>?_⟩;injection h with h1 h2;subst h1;rw[Nat.sub_self,List.take_zero,List.takeWhile_cons];simp [e]
  ·rw[if_neg e,List.takeWhile_cons];have ne:(x != c)=true:=by simp [e]
   rw[ne];refine⟨fun h=>?_,fun i r h=>?_⟩
   ·simp only [if_true];rw[a h]
   ·obtain⟨h1,h2⟩:=b i r h;refine⟨by omega,?_⟩;simp only [if_true];rw[h2,show i-k=(i-(k+1))+1 by omega,List.take_succ_cons]
theorem z2G (z:Str) (c:Nat):(Txt.partition z ⟨#[c]⟩).1=tx (z.cps.toList.takeWhile (· != c)):=by
 obtain⟨a,b⟩:=z0A c z.cps.toList 0;unfold Txt.partition;rw[jy];cases e:yS c z.cps.toList 0 with
 | nil=>
  simp only [List.take_nil];rw[a e,jp]
 | cons i r=>
  obtain⟨_,h⟩:=b i r e;rw[List.take_succ_cons];simp only;rw[xH,h];simp
theorem z1r {c:Nat}:∀ {p:List Nat} (n:Nat),c∉p->xl c p n=[p]
 | [],_,_=>rfl
 | x::xs,n,h=>by
  have ih:=z1r (c:=c) (p:=xs) n fun z=>h (List.mem_cons_of_mem _ z);rw[va];split
  ·rfl
  ·rw[if_neg (fun e=>h (by simp [e])),ih]
theorem z4B {c:Nat} {r:List Nat}:∀ {p:List Nat} (n:Nat),c∉p->xl c (p++c::r) (n+1)=p::xl c r n
 | [],n,_=>by
  show xl c (c::r) (n+1)=_;rw[va,if_neg (by omega),if_pos rfl];rfl
 | x::xs,n,h=>by
  have ih:=z4B (c:=c) (p:=xs) (r:=r) n fun z=>h (List.mem_cons_of_mem _ z);show xl c (x::(xs++c::r)) (n+1)=_;rw[va,if_neg (by omega),if_neg (fun e=>h (by simp [e])),ih]
theorem z4A {c:Nat}:∀(ws:List (List Nat)) (n:Nat),ws≠[]->ws.length<=n+1->(∀p∈ws.dropLast,c∉p)->(ws.length<=n->∀p∈ws,c∉p)->xl c (glu c ws) n=ws
 | [],_,h,_,_,_=>absurd rfl h
 | [p],0,_,_,_,_=>z1q c p
 | [p],n+1,_,_,_,h=>z1r (n+1) (h (by simp) p (by simp))
 | p::q::r,0,_,h,_,_=>by simp at h
 | p::q::r,n+1,_,h,h1,h2=>by
  show xl c (p++c::glu c (q::r)) (n+1)=_;rw[z4B n (h1 p (by simp [List.dropLast])),z4A (q::r) n (by simp) (by simp at h ⊢;omega) (fun x hx=>h1 x (by simp [List.dropLast] at hx ⊢;simp [hx])) (fun k x hx=>h2 (by simp at k ⊢;omega) x (by simp at hx ⊢;simp [hx]))]
theorem qT {c:Nat}:∀ {l:List Nat} {n:Nat} {w:List Nat},w∈xl c l n->w.length<=l.length/\∀x∈w,x∈l
 | [],n,w,h=>by
  have:w=[]:=by simpa [xl] using h
  rw[this];exact⟨Nat.le_refl _,fun x hx=>hx⟩
 | y::ys,n,w,h=>by
  rw[va] at h;split at h
  ·rw[List.mem_singleton.mp h];exact⟨Nat.le_refl _,fun x hx=>hx⟩
  ·split at h
   ·rcases List.mem_cons.mp h with rfl|h
    ·exact⟨Nat.zero_le _,fun x hx=>by cases hx⟩
    ·obtain⟨a,b⟩:=qT h;exact⟨by rw[List.length_cons];omega,fun x hx=>List.mem_cons_of_mem _ (b x hx)⟩
   ·obtain⟨p,t,e⟩:=xr c ys n;rw[e] at h;have ih:=fun w (hw:w∈p::t)=>qT (c:=c) (l:=ys) (n:=n) (w:=w) (by rw[e];exact hw);rcases List.mem_cons.mp h with rfl|h
    ·obtain⟨a,b⟩:=ih p (by simp);refine⟨by rw[List.length_cons,List.length_cons];omega,fun x hx=>?_⟩;rcases List.mem_cons.mp hx with rfl|hx
     ·exact List.mem_cons_self
     ·exact List.mem_cons_of_mem _ (b x hx)
    ·obtain⟨a,b⟩:=ih w (List.mem_cons_of_mem _ h);exact⟨by rw[List.length_cons];omega,fun x hx=>List.mem_cons_of_mem _ (b x hx)⟩
end SM
namespace L2
open PySem PySem.Spec PySem.Calls PyProof.Rows PySem.W SM
section
variable {X:Cx}
theorem z2M:MtR X "str.partition" (fun x vs H Q=>∃(z y:Str),x=.str z/\vs=[.str y]/\(y.length == 0)=false/\z.length<=sizeLine/\∀D,H D=none->Q (.ref D) (upd H D (.tup [.str (Txt.partition z y).1,.str (Txt.partition z y).2.1,.str (Txt.partition z y).2.2]))):=by
 intro pins s σ H x vs v us Q I rx rs h;obtain⟨z,y,rfl,rfl,hy,hz,q⟩:=h;obtain⟨t,rfl⟩:=rx;obtain⟨w,rfl,u,rfl⟩:=Vals.one rs;refine call_meets PySem.F.slot_str_partition (typeIs_str _ _ _) PySem.F.entry_str_partition (PySem.F.args_str_partition_2 _ _) (meets_str_partition z y t u hy hz) ?_;have q2:=q _ I.fresh;unfold Txt.partition at q2;cases e:Builtin.Str.occurrences z y 0 z.length 1 with
 | nil=>
  rw[e] at q2;refine⟨.ref _,_,I.laid (o:=.tup [.str z,.str Str.empty,.str Str.empty]) (t':=s.toks+1) (fun b u e=>Heap.get?_push_of_some _ e) (Nat.le_refl _) ⟨by show 3<=sizeLine;decide,_,.cons ⟨t,rfl⟩ (.cons ⟨s.toks,rfl⟩ (.cons ⟨s.toks,rfl⟩ .nil)),⟨_,Heap.get?_push_size _ rfl,rfl,_,rfl⟩⟩,rfl,q2⟩
 | cons i r=>
  rw[e] at q2;refine⟨.ref _,_,I.laid (o:=.tup [.str (Builtin.Str.strSub z 0 i),.str y,.str (Builtin.Str.strSub z (i+y.length) z.length)]) (t':=s.toks+1+1) (fun b u e=>Heap.get?_push_of_some _ e) (Nat.le_refl _) ⟨by show 3<=sizeLine;decide,_,.cons ⟨s.toks,rfl⟩ (.cons ⟨u,rfl⟩ (.cons ⟨s.toks+1,rfl⟩ .nil)),⟨_,Heap.get?_push_size _ rfl,rfl,_,rfl⟩⟩,rfl,q2⟩
theorem z6h:MtR X "str.split" (fun x vs H Q=>∃(z y:Str) (n:Nat),x=.str z/\vs=[.str y,.int (n:Int)]/\(y.length == 0)=false/\n<1000/\z.length+10<=sizeLine/\∀D,H D=none->Q (.ref D) (upd H D (.lst ((Txt.splitMax z y (n:Int)).map V.str)))):=by
 intro pins s σ H x vs v us Q I rx rs h;obtain⟨z,y,n,rfl,rfl,hy,hn,hz,q⟩:=h;obtain⟨t,rfl⟩:=rx;obtain⟨u0,w0,rfl,r1,r2⟩:=Vals.two rs;obtain⟨u,rfl⟩:=r1;obtain⟨k0,rfl⟩:=r2;have hk:(decide ((n:Int) < -(2^63:Int)) || decide ((n:Int) ≥ 2^63))=false:=by
  rw[decide_eq_false (by omega),decide_eq_false (by omega)];rfl
 have ln:(Builtin.Str.partsBetween z (Builtin.Str.occurrences z y 0 z.length (limitOf z n)) y.length).length<=sizeLine:=by
  have:=PySem.StrLaws.occ_length_le z y 0 z.length (limitOf z n);have lm:limitOf z n=n:=by
   unfold limitOf;rw[if_neg (by omega)];omega
  have e:sizeLine=16777216:=rfl;simp only [Builtin.Str.partsBetween,List.length_map,List.length_zip,List.length_cons,List.length_append,List.length_nil];omega
 have fin:∀(l:List (Str×Tok)) (tk:Nat),l.map (·.1)=Txt.splitMax z y n->EP X pins σ Q (.ref s.heap.objs.size) { s with toks:=tk,heap:=s.heap.push { cls:=.type "list",data:=.seq (strValues l).toArray } }:=fun l tk e=>by
  have e2:(Txt.splitMax z y n).map V.str=l.map fun p=>V.str p.1:=by rw[←e,List.map_map];rfl
  have ll:l.length<=sizeLine:=by
   have:l.length=(Txt.splitMax z y n).length:=by rw[←e,List.length_map]
   rw[this];unfold Txt.splitMax;split
   ·show 1<=sizeLine;decide
   ·split
    ·show 1<=sizeLine;decide
    ·exact ln
  have q2:=q _ I.fresh;rw[e2] at q2;exact⟨.ref _,_,I.lnew (t':=tk) (wM l) (by rw[List.length_map];exact ll),rfl,q2⟩
 cases h1:(decide (z.length<y.length) || decide (Builtin.Str.strKind z<Builtin.Str.strKind y)) with
 | true=>
  refine call_meets PySem.F.slot_str_split (typeIs_str _ _ _) PySem.F.entry_str_split (PySem.F.args_str_split_3 _ _ _) (meets_str_split_max_cannot_occur z y n t u k0 hk h1) ?_;exact fin [(z,t)] s.toks (by unfold Txt.splitMax;rw[if_pos h1];rfl)
 | false=>
  cases h2:(Builtin.Str.occurrences z y 0 z.length (limitOf z n)).isEmpty with
  | true=>
   refine call_meets PySem.F.slot_str_split (typeIs_str _ _ _) PySem.F.entry_str_split (PySem.F.args_str_split_3 _ _ _) (meets_str_split_max_not_found z y n t u k0 hk h1 hy h2) ?_;exact fin [(z,t)] s.toks (by unfold Txt.splitMax;rw[if_neg (by rw[h1];decide),if_pos h2];rfl)
  | false=>
   refine call_meets PySem.F.slot_str_split (typeIs_str _ _ _) PySem.F.entry_str_split (PySem.F.args_str_split_3 _ _ _) (meets_str_split_sep_max z y n t u k0 hk h1 hy h2 (by omega) ln) ?_;rw[strsFrom_eq];exact fin _ _ (by rw[numbered_texts];unfold Txt.splitMax;rw[if_neg (by rw[h1];decide),if_neg (by rw[h2];decide)])
noncomputable def z9m (z:Str):Value->Bool
 | .str a _=>a == z
 | _=>false
theorem z4z {z:Str} {t:Tok}:∀ {ys:List Str} {its:List Value},Vals (ys.map V.str) its->its.any (z9m z)=ys.contains z/\∀(A:Around) (s:Shared),∀y∈its,SeqAt.EqAt A s y (.str z t) (z9m z y)
 | [],_,.nil=>⟨rfl,fun _ _ y hy=>nomatch hy⟩
 | y::ys,_,.cons r rs=>by
  obtain⟨t1,rfl⟩:=r;obtain⟨a,b⟩:=z4z (z:=z) (t:=t) rs;refine⟨?_,fun A s v hv=>?_⟩
  ·rw[List.any_cons,List.contains_cons,a];congr 1;show (y == z)=(z == y)
   rw[Bool.eq_iff_iff,beq_iff_eq,beq_iff_eq];exact⟨Eq.symm,Eq.symm⟩
  ·rcases List.mem_cons.mp hv with rfl|hv
   ·exact SeqAt.EqAt.str_str y t1 z t
   ·exact b A s v hv
theorem y1f:OpR X (compareOp .In) (fun x y H Q=>∃(z:Str) (a:Addr) (ys:List Str),x=.str z/\y=.ref a/\SqT X.K H a (ys.map V.str)/\Q (.bl (ys.contains z)) H):=by
 intro pins s σ H x y v u Q I rx ry h;obtain⟨z,a,ys,rfl,rfl,hq,q⟩:=h;obtain⟨t,rfl⟩:=rx;cases ry;obtain⟨its,rv,it,_⟩:=I.tuple hq;obtain⟨e1,e2⟩:=z4z (z:=z) (t:=t) rv;refine SeqAt.in_tupleAt (z9m z) it (fun y hy=>e2 _ _ y (by simpa using hy)) ?_;rw[List.any_toArray,e1];exact⟨.bl _,H,I,rfl,q⟩
end
noncomputable def CDT (P:Program) (w:World) (K:PySem.W.Frag) (mg:Str->Option Value) (x:Str) (tb:List (Str×List Str)):Prop:=
 ∃(a:Addr) (o:Obj) (kvs:List (Key×Value)),mg x=some (.ref a)/\K.lookup a=some o/\(a == sysModules)=false/\o.dict=none/\(∀h:Heap,h.get? a=some o->h.DictOf (yK P w) a kvs)/\
  Paired (fun (p:Str×List Str) (q:Key×Value)=>q.1=.inr p.1/\∃b,q.2=.ref b/\∀H,SqT K H b (p.2.map V.str)) tb kvs
theorem z9d {K:PySem.W.Frag} {z:Str}:∀ {tb:List (Str×List Str)} {kvs:List (Key×Value)},Paired (fun (p:Str×List Str) (q:Key×Value)=>q.1=.inr p.1/\∃b,q.2=.ref b/\∀H,SqT K H b (p.2.map V.str)) tb kvs->
  (tb.lookup z=none/\valueAt kvs (.inr z)=none)∨∃ys b,tb.lookup z=some ys/\valueAt kvs (.inr z)=some (.ref b)/\∀H,SqT K H b (ys.map V.str)
 | [],_,.nil=>.inl ⟨rfl,rfl⟩
 | p::tb,q::kvs,.cons r rs=>by
  obtain⟨k,ys⟩:=p;obtain⟨k2,v⟩:=q;obtain⟨e1,b,e2,hb⟩:=r;simp only at e1 e2 hb;subst e1 e2;by_cases c:k=z
  ·subst c;refine .inr ⟨ys,b,by simp [List.lookup],by simp [valueAt],hb⟩
  ·have c1:¬z=k:=fun e=>c e.symm;have e3:((k,ys)::tb).lookup z=tb.lookup z:=by
    rw[List.lookup_cons,beq_eq_false_iff_ne.mpr c1]
   have e4:valueAt ((Sum.inr k,Value.ref b)::kvs) (Sum.inr z:Key)=valueAt kvs (.inr z):=by
    have c2:¬(Sum.inr k:Key)=Sum.inr z:=fun e=>c (Sum.inr.inj e);simp [valueAt,List.find?_cons,c]
   rw[e3,e4];exact z9d rs
noncomputable def y1G (K:PySem.W.Frag) (tb:List (Str×List Str)) (ty:TE):TE:=fun σ H Q=>ty σ H fun y H2=>∃z,y=.str z/\(tb.lookup z=none->Q .non H2)/\∀ys b,tb.lookup z=some ys->SqT K H2 b (ys.map V.str)->Q (.ref b) H2
theorem z0Z {K:PySem.W.Frag} {tb:List (Str×List Str)} {ty:TE} {σ:St} {H:Hp} {Q:VK}:y1G K tb ty σ H Q=ty σ H fun y H2=>∃z,y=.str z/\(tb.lookup z=none->Q .non H2)/\∀ys b,tb.lookup z=some ys->SqT K H2 b (ys.map V.str)->Q (.ref b) H2:=rfl
theorem y0H {X:Cx} {x:Str} {tb:List (Str×List Str)} {e:Expr} {p apos cpos:Pos} {ty:TE} (hc:CDT X.prog X.w X.K X.mg x tb) (hg:Gl X x) (he:PE X e ty) (m:M1 X (.Name x p) "get" apos e cpos) (hdb:(x == ("__debug__" : Str))=false:=by decide) :
  PE X (.Call (.Attribute (.Name x p) "get" apos) [e] [] cpos) (y1G X.K tb ty):=by
 intro pins s σ H Q I h;obtain⟨a,o,kvs,hm,hk,hs,hd,hh,hp⟩:=hc;have g:=xU (X:=X) (x:=x) (pos:=p) (v:=.ref a) hg hm rfl hdb pins s σ H (fun v H1=>v=.ref a/\H1=H) I (show (tC (.ref a):TE) σ H _ from⟨rfl,rfl⟩);refine wpAny_Call_method m.base m.few m.line PySem.F.plainAttrs_dict PySem.F.slot_dict_get PySem.F.type_dict_get (thn g fun u s1 ⟨x1,H1,I1,rx,e1,e2⟩=>?_);subst e1 e2;obtain rfl:u=Value.ref a:=rx;have ho:=I1.kIn a o hk;have dd:=hh _ ho;refine⟨dd.typeIs,fun b q=>?_,?_⟩
 ·cases q;exact⟨o,ho,hd⟩
 rw[m.trees];refine Calls.callWith_builtin rfl (Calls.evalArgs_plain (Calls.spliced_cons (thn (he pins s1 σ H1 _ I1 h) fun iv s2 ⟨y,H2,I2,ry,z,ey,q1,q2⟩=>Calls.spliced_nil ?_)));subst ey;have dd2:=hh _ (I2.kIn a o hk);refine call_meetsIn PySem.F.slot_dict_get dd2.typeIs PySem.F.entry_dict_get (PySem.F.args_dict_get_2 _ _) (meets_dict_get (yK X.prog X.w) a (z5Q (k:=.inr z) ry) hs) ⟨_,dd2.mapOf,?_⟩;rcases z9d (z:=z) hp with⟨l1,l2⟩|⟨ys,b,l1,l2,hb⟩
 ·have e:(valueAt kvs (Sum.inr z:Key)).getD Value.none=.none:=by rw[l2];rfl
  refine⟨.non,H2,I2.tok _,?_,q1 l1⟩;exact e
 ·have e:(valueAt kvs (Sum.inr z:Key)).getD Value.none=.ref b:=by rw[l2];rfl
  refine⟨.ref b,H2,I2.tok _,?_,q2 ys b l1 (hb H2)⟩;exact e
inductive CPairs (w:World) (K:PySem.W.Frag):List DictEntry->List (Str×List Str)->Prop
 | nil:CPairs w K [] []
 | cons {e:DictEntry} {es:List DictEntry} {x:Str} {t:Tok} {ys:List Str} {tb:List (Str×List Str)} {b:Addr} {o:Obj} {its:Array Value} {n:Nat}:e.key=.str x t->e.hash=hashStr w x->e.val=.ref b->K.lookup b=some o->o.cls=.type "tuple" ->o.data=.seq its n->its.size<=sizeLine->Vals (ys.map V.str) its.toList->CPairs w K es tb->CPairs w K (e::es) ((x,ys)::tb)
theorem z7Y {P:Program} {w:World} {K:PySem.W.Frag} {es:List DictEntry} {tb:List (Str×List Str)} (h:CPairs w K es tb):∃kvs:List (Key×Value),(∀e∈es,∃k,(yK P w).is k e.key=true/\e.hash=(yK P w).hash k)/\Pairs (yK P w) es kvs/\kvs.map (·.1)=tb.map (fun p=>(Sum.inr p.1:Key))/\
  Paired (fun (p:Str×List Str) (q:Key×Value)=>q.1=.inr p.1/\∃b,q.2=.ref b/\∀H,SqT K H b (p.2.map V.str)) tb kvs:=by
 induction h with
 | nil=>exact⟨[],(fun e he=>nomatch he),.nil,rfl,.nil⟩
 | @cons e es x t ys tb b o its n h1 h2 h3 h4 h5 h6 h7 h8 _ ih=>
  obtain⟨kvs,a1,a2,a3,a4⟩:=ih;have k1:(yK P w).is (Sum.inr x) e.key=true:=by rw[h1];exact wv P w x t
  refine⟨(Sum.inr x,.ref b)::kvs,fun e' he'=>?_,.cons k1 h3 a2,by simp [a3],.cons ⟨rfl,b,rfl,fun H=>.inr ⟨o,its,n,h4,h5,h6,h7,h8⟩⟩ a4⟩;rcases List.mem_cons.mp he' with rfl|he'
  ·exact⟨Sum.inr x,k1,h2⟩
  ·exact a1 e' he'
theorem y2I {P:Program} {w:World} {K:PySem.W.Frag} {h:Heap} {mg:Str->Option Value} {x:Str} {tb:List (Str×List Str)} {a:Addr} {o:Obj} {es:Array DictEntry} {ep:_} (X:K.In h) (G:h.Ns mainGlobals mg) (e:PySem.W.nsIn K mainGlobals x=some (some (.ref a)))
  (l:K.lookup a=some o) (sm:(a == sysModules)=false) (ex:o.ExactDict) (d:o.data=.dict es ep) (cp:CPairs w K es.toList tb) (nd:(tb.map (·.1)).Nodup):CDT P w K mg x tb:=by
 obtain⟨kvs,a1,a2,a3,a4⟩:=z7Y (P:=P) cp;refine⟨a,o,kvs,PySem.W.mg_of X G e,l,sm,ex.2.1,fun h ho=>⟨o,es,ep,ho,ex,d,fun e he=>a1 e (by simpa using he),a2,?_⟩,a4⟩;rw[a3];have:tb.map (fun p=>(Sum.inr p.1:Key))=(tb.map (·.1)).map Sum.inr:=by rw[List.map_map];rfl
 rw[this];exact nd.map _ fun _ _ h e=>h (Sum.inr.inj e)
section
variable {X:Cx} {σ:St} {H:Hp} {Q:VK} {D:Ends} {td ty tv:TE} {e:Expr}
theorem z6g:MtR X "str.startswith" (fun x vs H Q=>∃(z y:Str),x=.str z/\vs=[.str y]/\Q (.bl (decide (0+y.length<=z.length) && Builtin.Str.subAt z y 0)) H):=by
 intro pins s σ H x vs v us Q I rx rs h;obtain⟨z,y,rfl,rfl,q⟩:=h;obtain⟨t,rfl⟩:=rx;obtain⟨u,rfl,r1⟩:=Vals.one rs;obtain⟨t1,rfl⟩:=r1;exact call_gives PySem.F.slot_str_startswith (typeIs_str _ _ _) PySem.F.entry_str_startswith (PySem.F.args_str_startswith_2 _ _) (gives_str_startswith z y t t1) ⟨.bl _,H,I.tok _,rfl,q⟩
noncomputable def tNo:TE:=fun _ _ _=>False
theorem y2e:PE X e tNo:=fun _ _ _ _ _ _ h=>h.elim
theorem z5x:tNo σ H Q=False:=rfl
theorem z0X:y1F td ty σ H Q=td σ H fun x H1=>ty σ H1 fun y H2=>∃a v,x=.ref a/\DGet H2 a y (some v)/\Q v H2:=rfl
theorem z2y:y2z ty td σ H Q=ty σ H fun y H1=>td σ H1 fun x H2=>∃a o,x=.ref a/\DGet H2 a y o/\Q (.bl o.isSome) H2:=rfl
theorem qS:z5z ty td σ H Q=ty σ H fun y H1=>td σ H1 fun x H2=>∃a o,x=.ref a/\DGet H2 a y o/\Q (.bl (!o.isSome)) H2:=rfl
theorem z0q:y1R td ty tv D σ H=tv σ H fun v H1=>td σ H1 fun x H2=>ty σ H2 fun y H3=>∃a H4,x=.ref a/\DPut H3 a y v H4/\D.nx σ H4:=rfl
theorem wL:z9O σ H Q = ∀p,H p=none->Q (.ref p) (upd H p (.dK [])):=rfl
end
structure Apart2 (Z Ti To j1 j2 m1 m2:Addr):Prop where
 nd:[Z,Ti,To,j1,j2].Nodup
 ls:∀m∈[m1,m2],m∉[Z,To,j1,j2]
noncomputable def Kept2 (Z To j1 j2:Addr) (h h':Heap):Prop:=∀c o,c∉[Z,To,j1,j2]->h.get? c=some o->h'.get? c=some o
theorem Kept2.but {Z To j1 j2 b:Addr} {h h1 h2:Heap} (k:Kept2 Z To j1 j2 h h1) (hb:b∈[Z,To,j1,j2]) (e:Heap.SameBut b h1 h2):Kept2 Z To j1 j2 h h2:=fun c o hc q=>e.extBut _ _ (fun z=>hc (by rw[z];exact hb)) (k c o hc q)
theorem ja {h h':Heap} {J tu b:Addr} {k:Nat} (x:h.IsTupleIter J tu k) (e:Heap.ExtBut b h h') (n:J≠b):h'.IsTupleIter J tu k:=by
 obtain⟨o,ho,r⟩:=x;exact⟨o,e _ _ n ho,r⟩
section
variable {prog:Program} {w:World} {A:Around} {E:Value->Shared->Prop} {s:Shared}
theorem z8W {Z Ti To j1 j2 m1 m2:Addr} {n:Nat} {us vs:Array Value} {x y a b:Value} {Q:Value->Shared->Prop} (D:Apart2 Z Ti To j1 j2 m1 m2)
  (zz:IsZip s.heap Z Ti To .none) (zI:IsPair s.heap Ti (.ref j1) (.ref j2)) (zO:IsPair s.heap To a b)
  (k1:s.heap.IsTupleIter j1 m1 n) (k2:s.heap.IsListIter j2 m2 n) (e1:s.heap.IsTuple m1 us) (e2:s.heap.IsList m2 vs) (hx:us[n]?=some x) (hy:vs[n]?=some y)
  (hQ:∀h',IsZip h' Z Ti To (rawInt s.heap.objs.size)->IsPair h' To x y->h'.IsTupleIter j1 m1 (n+1)->h'.IsListIter j2 m2 (n+1)->IsPair h' s.heap.objs.size x y->Kept2 Z To j1 j2 s.heap h'->Q (.ref s.heap.objs.size) { s with heap:=h' }) :
  wpAny (model prog w) A (Builtin.«zip.__next__» ⟨[.ref Z],[]⟩) (fun f s'=>∃r,f=.done (.ret r)/\Q r s') E s:=by
 obtain⟨nd,ls⟩:=D;simp only [List.nodup_cons,List.mem_cons,List.not_mem_nil,or_false,not_or,not_false_eq_true,List.nodup_nil,and_true] at nd;obtain⟨⟨d1,d2,d3,d4⟩,⟨d6,d7,d8⟩,⟨d10,d11⟩,d13⟩:=nd;have l1:=ls m1 (by simp);have l2:=ls m2 (by simp);simp only [List.mem_cons,List.not_mem_nil,or_false,not_or] at l1 l2;show wpAny _ _ (field (.ref Z) 2 >>= _) _ _ _;refine wpAny_bind (wpAny_field zz rfl (x:=.bool false) rfl ?_);show wpAny _ _ (field (.ref Z) 3 >>= _) _ _ _;refine wpAny_bind (wpAny_field zz rfl (x:=.ref Ti) rfl (wpAny_bind (wpAny_seqItems zI rfl ?_)));show wpAny _ _ (Builtin.SmallTypes.ownedTupleIsFree (.ref Z) >>= _) _ _ _;refine wpAny_bind (by
  unfold Builtin.SmallTypes.ownedTupleIsFree;refine wpAny_bind (wpAny_field zz rfl (x:=.none) rfl (wpAny_pure ?_));simp only [if_true];refine wpAny_bind (wpAny_rule (wpAny_bind (wpAny_field zz rfl (x:=.ref To) rfl (wpAny_bind (wpAny_setField_rec zz (by simp) fun g1 z1 s1=>?_)))));replace z1:IsZip g1 Z Ti To .ellipsis:=z1;refine wpAny_bind ?_;simp only [List.forIn_cons,List.forIn_nil,List.zipIdx_cons,List.zipIdx_nil];refine wpAny_bind (wpAny_bind (wpAny_onRaise ?_));show wpAny _ _ (Builtin.SmallTypes.nextOf (.ref j1) >>= _) _ _ _;refine wpAny_bind (vp (ja k1 s1.extBut (Ne.symm d3)) (e1.extBut s1.extBut l1.1) hx fun g2 p1 s2=>wpAny_pure ?_);have o2:IsPair g2 To a b:=s2.extBut _ _ d10 (s1.extBut _ _ (Ne.symm d2) zO);refine wpAny_bind (wpAny_seqItems o2 rfl (wpAny_bind (wpAny_updateSeq_pair o2 fun g3 o3 s3=>?_)));replace o3:IsPair g3 To x b:=o3;refine wpAny_bind (wpAny_letGo (wpAny_pure ?_));refine wpAny_bind (wpAny_bind (wpAny_onRaise ?_));show wpAny _ _ (Builtin.SmallTypes.nextOf (.ref j2) >>= _) _ _ _;refine wpAny_bind (wpAny_nextOf_list_item (((k2.extBut s1.extBut (Ne.symm d4)).extBut s2.extBut (Ne.symm d13)).extBut s3.extBut (Ne.symm d11)) (((e2.extBut s1.extBut l2.1).extBut s2.extBut l2.2.2.1).extBut s3.extBut l2.2.1) hy fun g4 p2 s4=>wpAny_pure ?_);have o4:IsPair g4 To x b:=s4.extBut _ _ d11 o3;refine wpAny_bind (wpAny_seqItems o4 rfl (wpAny_bind (wpAny_updateSeq_pair o4 fun g5 o5 s5=>?_)));replace o5:IsPair g5 To x y:=o5;refine wpAny_bind (wpAny_letGo (wpAny_pure (wpAny_pure ?_)));refine wpAny_bind (wpAny_seqItems o5 rfl (wpAny_bind (wpAny_newTuple ?_)));have sz:g5.objs.size=s.heap.objs.size:=by rw[s5.1,s4.1,s3.1,s2.1,s1.1]
  have z5:IsZip g5 Z Ti To .ellipsis:=s5.extBut _ _ d2 (s4.extBut _ _ d4 (s3.extBut _ _ d2 (s2.extBut _ _ d3 z1)));have K5:Kept2 Z To j1 j2 s.heap g5:=((((Kept2.but (fun c o _ q=>q) (by simp) s1).but (by simp) s2).but (by simp) s3).but (by simp) s4).but (by simp) s5;have q1:g5.IsTupleIter j1 m1 (n+1):=ja (ja (ja p1 s3.extBut (Ne.symm d10)) s4.extBut d13) s5.extBut (Ne.symm d10);have q2:g5.IsListIter j2 m2 (n+1):=p2.extBut s5.extBut (Ne.symm d11);have zlt:Z<g5.objs.size:=Heap.lt_size z5;show wpAny _ _ (Builtin.SmallTypes.ownedTupleHandOut (.ref Z) (.ref g5.objs.size) >>= _) _ _ _;refine wpAny_bind (by
   unfold Builtin.SmallTypes.ownedTupleHandOut;have z8:IsZip (g5.push { cls:=.type "tuple",data:=.seq #[x,y] }) Z Ti To .ellipsis:=Heap.get?_push_of_some _ z5;refine wpAny_bind (wpAny_setField_rec z8 (by simp) fun g9 z9 s9=>?_);replace z9:IsZip g9 Z Ti To (rawInt g5.objs.size):=z9;refine wpAny_setField_rec z9 (by simp) fun gA zA sA=>?_;replace zA:IsZip gA Z Ti To (rawInt g5.objs.size):=zA;have up:∀c o,c≠Z->g5.get? c=some o->gA.get? c=some o:=fun c o hc q=>sA.extBut _ _ hc (s9.extBut _ _ hc (Heap.get?_push_of_some _ q));have tA:IsPair gA g5.objs.size x y:=sA.extBut _ _ (Nat.ne_of_gt zlt) (s9.extBut _ _ (Nat.ne_of_gt zlt) (Heap.get?_push_size _ rfl));rw[sz] at zA tA;refine wpAny_pure ⟨_,rfl,?_⟩;show Q (.ref g5.objs.size) _;rw[sz];refine hQ gA zA (up _ _ (Ne.symm d2) o5) ?_ (q2.at fun o q=>up _ o (Ne.symm d4) q) tA fun c o hc q=>up c o (fun z=>hc (by rw[z];simp)) (K5 c o hc q);obtain⟨oj,hj,rj⟩:=q1;exact⟨oj,up _ oj (Ne.symm d3) hj,rj⟩))
theorem y0e {Z Ti To j1 j2 m1 m2:Addr} {n:Nat} {us vs:Array Value} {a b:Value} {Q:Fin->Shared->Prop} (hh:A.handled=none) (D:Apart2 Z Ti To j1 j2 m1 m2)
  (zz:IsZip s.heap Z Ti To .none) (zI:IsPair s.heap Ti (.ref j1) (.ref j2)) (zO:IsPair s.heap To a b)
  (k1:s.heap.IsTupleIter j1 m1 n) (k2:s.heap.IsListIter j2 m2 n) (e1:s.heap.IsTuple m1 us) (e2:s.heap.IsList m2 vs) (hend:us[n]?=none∨vs[n]?=none)
  (hE:∀h' e,Kept2 Z To j1 j2 s.heap h'->(∃o,h'.get? e=some o/\o.cls=.type "StopIteration")->E (.ref e) { s with heap:=h' }) :
  wpAny (model prog w) A (Builtin.«zip.__next__» ⟨[.ref Z],[]⟩) Q E s:=by
 obtain⟨nd,ls⟩:=D;simp only [List.nodup_cons,List.mem_cons,List.not_mem_nil,or_false,not_or,not_false_eq_true,List.nodup_nil,and_true] at nd;obtain⟨⟨d1,d2,d3,d4⟩,⟨d6,d7,d8⟩,⟨d10,d11⟩,d13⟩:=nd;have l1:=ls m1 (by simp);have l2:=ls m2 (by simp);simp only [List.mem_cons,List.not_mem_nil,or_false,not_or] at l1 l2;have fin:∀ {g:Heap} {e:Addr},IsZip g Z Ti To .ellipsis->Kept2 Z To j1 j2 s.heap g->(∃o,g.get? e=some o/\o.cls=.type "StopIteration")->wpAny (model prog w) A (setField (.ref Z) 0 .none) (fun _ s'=>E (.ref e) s') E { s with heap:=g }:=fun {g e} z K he=>by
  obtain⟨o,ho,hc⟩:=he;have ez:e≠Z:=fun q=>by rw[q,z] at ho;cases ho;simp at hc
  exact wpAny_setField_rec z (by simp) fun g' _ s'=>hE g' e (K.but (by simp) s') ⟨o,s'.extBut _ _ ez ho,hc⟩
 show wpAny _ _ (field (.ref Z) 2 >>= _) _ _ _;refine wpAny_bind (wpAny_field zz rfl (x:=.bool false) rfl ?_);show wpAny _ _ (field (.ref Z) 3 >>= _) _ _ _;refine wpAny_bind (wpAny_field zz rfl (x:=.ref Ti) rfl (wpAny_bind (wpAny_seqItems zI rfl ?_)));show wpAny _ _ (Builtin.SmallTypes.ownedTupleIsFree (.ref Z) >>= _) _ _ _;refine wpAny_bind (by
  unfold Builtin.SmallTypes.ownedTupleIsFree;refine wpAny_bind (wpAny_field zz rfl (x:=.none) rfl (wpAny_pure ?_));simp only [if_true];refine wpAny_bind (wpAny_rule (wpAny_bind (wpAny_field zz rfl (x:=.ref To) rfl (wpAny_bind (wpAny_setField_rec zz (by simp) fun g1 z1 s1=>?_)))));replace z1:IsZip g1 Z Ti To .ellipsis:=z1;have K1:Kept2 Z To j1 j2 s.heap g1:=Kept2.but (fun c o _ q=>q) (by simp) s1;refine wpAny_bind ?_;simp only [List.forIn_cons,List.forIn_nil,List.zipIdx_cons,List.zipIdx_nil];cases hx:us[n]? with
  | none=>
   refine wpAny_bind (wpAny_bind (wpAny_onRaise ?_));show wpAny _ _ (Builtin.SmallTypes.nextOf (.ref j1) >>= _) _ _ _;refine wpAny_bind (z6e hh (ja k1 s1.extBut (Ne.symm d3)) (e1.extBut s1.extBut l1.1) hx fun g2 e s2 he=>?_);exact fin (s2 _ _ d3 z1) (fun c o hc q=>s2 _ _ (fun z=>hc (by rw[z];simp)) (K1 c o hc q)) he
  | some x=>
   refine wpAny_bind (wpAny_bind (wpAny_onRaise ?_));show wpAny _ _ (Builtin.SmallTypes.nextOf (.ref j1) >>= _) _ _ _;refine wpAny_bind (vp (ja k1 s1.extBut (Ne.symm d3)) (e1.extBut s1.extBut l1.1) hx fun g2 p1 s2=>wpAny_pure ?_);have o2:IsPair g2 To a b:=s2.extBut _ _ d10 (s1.extBut _ _ (Ne.symm d2) zO);refine wpAny_bind (wpAny_seqItems o2 rfl (wpAny_bind (wpAny_updateSeq_pair o2 fun g3 o3 s3=>?_)));replace o3:IsPair g3 To x b:=o3;refine wpAny_bind (wpAny_letGo (wpAny_pure ?_));have z3:IsZip g3 Z Ti To .ellipsis:=s3.extBut _ _ d2 (s2.extBut _ _ d3 z1);have K3:=(K1.but (by simp) s2).but (by simp) s3;have hy:vs[n]?=none:=by
    rcases hend with q|q
    ·rw[hx] at q;cases q
    ·exact q
   refine wpAny_bind (wpAny_bind (wpAny_onRaise ?_));show wpAny _ _ (Builtin.SmallTypes.nextOf (.ref j2) >>= _) _ _ _;refine wpAny_bind (wpAny_nextOf_list_end hh (((k2.extBut s1.extBut (Ne.symm d4)).extBut s2.extBut (Ne.symm d13)).extBut s3.extBut (Ne.symm d11)) (((e2.extBut s1.extBut l2.1).extBut s2.extBut l2.2.2.1).extBut s3.extBut l2.2.1) hy fun g4 e s4 he=>?_);exact fin (s4 _ _ d4 z3) (fun c o hc q=>s4 _ _ (fun z=>hc (by rw[z];simp)) (K3 c o hc q)) he)
noncomputable abbrev itT (m:Addr):Obj:={ cls:=.type "tuple_iterator",data:=.fields #[.ref m,.int 0 0] }
noncomputable abbrev itL (m:Addr):Obj:={ cls:=.type "list_iterator",data:=.fields #[.ref m,.int 0 0] }
noncomputable abbrev z1i (h:Heap) (m1 m2:Addr):Heap:=((((h.push (itT m1)).push (itL m2)).push { cls:=.type "tuple",data:=.seq #[.ref h.objs.size,.ref (h.push (itT m1)).objs.size] }).push { cls:=.type "tuple",data:=.seq #[.none,.none] }).push
 { cls:=.type "zip",data:=.fields #[.none,.bool false,.bool false,.ref ((h.push (itT m1)).push (itL m2)).objs.size,.ref (((h.push (itT m1)).push (itL m2)).push { cls:=.type "tuple",data:=.seq #[.ref h.objs.size,.ref (h.push (itT m1)).objs.size] }).objs.size] }
theorem z3R (m1 m2:Addr) (us vs:Array Value) :
  Meets (Builtin.«zip.__new__» ⟨[.type "zip",.ref m1,.ref m2],[]⟩) (fun _ R s=>s.heap.IsTuple m1 us/\s.heap.IsList m2 vs/\
   R (.ok (.ret (.ref (s.heap.objs.size+4)))) { s with heap:=z1i s.heap m1 m2 }):=
 .of_wp fun prog w A R s h=>by
  obtain⟨hp,g,d,tk,os⟩:=s;obtain⟨e1,e2,h⟩:=h;have sz:=sub_zip;have L1:Heap.IsTuple (Shared.heap ⟨hp,g,d,tk,os⟩) m1 us:=e1;have L2:Heap.IsList (Shared.heap ⟨hp.push (itT m1),g,d,tk,os⟩) m2 vs:=Heap.IsList.push e2 _
  wp_walk using wpAny_pyIter_tuple L1,wpAny_pyIter_list L2
  refine⟨_,rfl,?_⟩;have e5:hp.objs.size+4=((((hp.push (itT m1)).push (itL m2)).push { cls:=.type "tuple",data:=.seq #[.ref hp.objs.size,.ref (hp.push (itT m1)).objs.size] }).push { cls:=.type "tuple",data:=.seq #[.none,.none] }).objs.size:=by simp only [Heap.size_push]
  rw[e5] at h;exact h
theorem z5k {m1 m2:Addr} {us vs:Array Value} {Q:Value->Shared->Prop} (e1:s.heap.IsTuple m1 us) (e2:s.heap.IsList m2 vs)
  (h:∀h',IsZip h' (s.heap.objs.size+4) (s.heap.objs.size+2) (s.heap.objs.size+3) .none->IsPair h' (s.heap.objs.size+2) (.ref s.heap.objs.size) (.ref (s.heap.objs.size+1))->
   IsPair h' (s.heap.objs.size+3) .none .none->h'.IsTupleIter s.heap.objs.size m1 0->h'.IsListIter (s.heap.objs.size+1) m2 0->
   (∀c o,s.heap.get? c=some o->h'.get? c=some o)->Q (.ref (s.heap.objs.size+4)) { s with heap:=h' }) :
  wpAny (model prog w) A (call (.type "zip") [.ref m1,.ref m2]) Q E s:=by
 refine callType_new F.called_zip (by decide) (F.typeCall_zip_2 _ _) (F.newCall_zip_2 _ _) (fun ob=>F.args_object_init_3 ob _ _) F.entry_zip_new (z3R m1 m2 us vs) ⟨e1,e2,?_⟩;have pk:∀ {h:Heap} {c:Addr} {o:Obj} (u:Obj),h.get? c=some o->(h.push u).get? c=some o:=fun u q=>Heap.get?_push_of_some _ q;have p1:(z1i s.heap m1 m2).get? s.heap.objs.size=some (itT m1):=pk _ (pk _ (pk _ (pk _ (Heap.get?_push_size _ rfl))));have p2:(z1i s.heap m1 m2).get? (s.heap.push (itT m1)).objs.size=some (itL m2):=pk _ (pk _ (pk _ (Heap.get?_push_size _ rfl)));have p4:(z1i s.heap m1 m2).get? ((s.heap.push (itT m1)).push (itL m2)).objs.size=some _:=pk _ (pk _ (Heap.get?_push_size _ rfl));have p5:(z1i s.heap m1 m2).get? (((s.heap.push (itT m1)).push (itL m2)).push { cls:=.type "tuple",data:=.seq #[.ref s.heap.objs.size,.ref (s.heap.push (itT m1)).objs.size] }).objs.size=some _:=pk _ (Heap.get?_push_size _ rfl);have p6:(z1i s.heap m1 m2).get? ((((s.heap.push (itT m1)).push (itL m2)).push { cls:=.type "tuple",data:=.seq #[.ref s.heap.objs.size,.ref (s.heap.push (itT m1)).objs.size] }).push { cls:=.type "tuple",data:=.seq #[.none,.none] }).objs.size=some _:=Heap.get?_push_size _ rfl;have kp:∀c o,s.heap.get? c=some o->(z1i s.heap m1 m2).get? c=some o:=fun c o q=>pk _ (pk _ (pk _ (pk _ (pk _ q))));generalize z1i s.heap m1 m2=h' at kp p1 p2 p4 p5 p6 ⊢;simp only [Heap.size_push,Nat.add_assoc,Nat.reduceAdd] at p2 p4 p5 p6;show _/\_;exact⟨⟨_,p6,rfl⟩,h _ p6 p4 p5 ⟨_,p1,rfl,rfl⟩ ⟨_,p2,rfl,rfl⟩ kp⟩
end
noncomputable def y3h (K:PySem.W.Frag) (a b:Addr) (n:Nat) (H:Hp):Prop:=∃xs ys,SqT K H a xs/\SqL K H b ys/\min xs.length ys.length=n
noncomputable def y0o (K:PySem.W.Frag) (a b:Addr) (n:Nat):It:=Itp n (y3h K a b n) fun i H u v=>(∀xs,SqT K H a xs->xs[i]?=some u)/\∀ys,SqL K H b ys->ys[i]?=some v
noncomputable def y3U (Z Ti To j1 j2 m1 m2:Addr) (i:Nat) (h:Heap):Prop:=IsZip h Z Ti To .none/\IsPair h Ti (.ref j1) (.ref j2)/\(∃a b,IsPair h To a b)/\h.IsTupleIter j1 m1 i/\h.IsListIter j2 m2 i
theorem z5r {P:Program} {w:World} {K:PySem.W.Frag} {es:List Expr} {k:Nat} {pos:Pos} {Z Ti To j1 j2 m1 m2:Addr} {n:Nat} (D:Apart2 Z Ti To j1 j2 m1 m2) :
  Turn P w K (.Tuple es k pos) (y0o K m1 m2 n) [Z,Ti,To,j1,j2] Z (y3U Z Ti To j1 j2 m1 m2) where
 mem:=by simp
 obj:=fun i h st b hb=>by
  obtain⟨h1,h2,⟨x,y,h3⟩,⟨o4,h4,_,d4⟩,⟨o5,h5,_,d5⟩⟩:=st;simp only [List.mem_cons,List.not_mem_nil,or_false] at hb;rcases hb with rfl|rfl|rfl|rfl|rfl
  ·exact⟨_,h1,fun v q=>nomatch q⟩
  ·exact⟨_,h2,fun v q=>nomatch q⟩
  ·exact⟨_,h3,fun v q=>nomatch q⟩
  ·exact⟨_,h4,fun v q=>by rw[d4] at q;cases q⟩
  ·exact⟨_,h5,fun v q=>by rw[d5] at q;cases q⟩
 keep:=fun i h h' st kk=>by
  obtain⟨h1,h2,⟨x,y,h3⟩,⟨o4,h4,r4⟩,h5⟩:=st;exact⟨kk _ (by simp) _ h1,kk _ (by simp) _ h2,⟨x,y,kk _ (by simp) _ h3⟩,⟨o4,kk _ (by simp) o4 h4,r4⟩,h5.at fun o e=>kk _ (by simp) o e⟩
 item:=by
  intro X hP hw hK hc i pins s σ H E I hf st hg;subst hP hw hK;obtain⟨hi,xs,ys,ha,hb,hn⟩:=hg;obtain⟨us,ru,pu,_⟩:=I.tuple ha;obtain⟨vs,rv,pv,_⟩:=I.list hb;have lu:=ru.length;have lv:=rv.length;obtain⟨h1,h2,⟨a,b,h3⟩,h4,h5⟩:=st;have gx:xs[i]?=some (xs[i]'(by omega)):=List.getElem?_eq_getElem (by omega);have gy:ys[i]?=some (ys[i]'(by omega)):=List.getElem?_eq_getElem (by omega);obtain⟨x,q1,rx⟩:=ru.get gx;obtain⟨y,q2,ry⟩:=rv.get gy;have nn:=D.nd;simp only [List.nodup_cons,List.mem_cons,List.not_mem_nil,or_false,not_or,not_false_eq_true,List.nodup_nil,and_true] at nn;have ty:s.TypeIs (.ref Z) "zip" :=⟨_,h1,rfl⟩
  unfold pyNext;refine wpAny_bind (wpAny_attempt (wpAny_callSpecial?_slot (name:=Str.ofString "__next__") ty F.slot_zip_next (wpAny_call_entry F.slot_zip_next ty F.entry_zip_next ?_ (F.args_zip_next_1 _))));refine z8W D h1 h2 h3 h4 h5 pu pv.isList (x:=x) (y:=y) (by simpa using q1) (by simpa using q2) fun h' a1 a2 a3 a4 a6 kk=>wpAny_pure ?_;refine⟨.ref s.heap.objs.size,rfl,wpAny_letOwnedTupleGo_zip a1 fun h2' zz2 sb=>?_⟩;have zlt:Z<s.heap.objs.size:=Heap.lt_size h1;have nT:H s.heap.objs.size=none:=I.hok.fresh (Nat.le_refl _);have K2:Kept2 Z To j1 j2 s.heap h2':=kk.but (by simp) sb;have tup2:IsTup h2' s.heap.objs.size #[x,y]:=⟨_,sb.extBut _ _ (Nat.ne_of_gt zlt) a6,rfl,_,rfl⟩
  have fpw:∀b∈[Z,To,j1,j2],b∈[Z,Ti,To,j1,j2]:=fun b hb=>by
   simp only [List.mem_cons,List.not_mem_nil,or_false] at hb ⊢;rcases hb with rfl|rfl|rfl|rfl <;> simp
  have I2:Inv X pins σ (upd H s.heap.objs.size (.tup [xs[i]'(by omega),ys[i]'(by omega)])) { s with heap:=h2',toks:=s.toks }:=
   I.turnedLaid (fun b u hb e=>K2 b u hb e) (fun b hb=>hf b (fpw b hb)) (Nat.le_refl _) ⟨show 2<=sizeLine by decide,[x,y],.cons rx (.cons ry .nil),tup2⟩
  refine⟨.ref s.heap.objs.size,_,I2,rfl,⟨s.heap.objs.size,_,_,nT,rfl,rfl,fun ws hz=>by rw[I.tuple_inj hz ha];exact gx,fun ws hz=>by rw[I.list_inj hz hb];exact gy⟩,?_,fun b hb=>?_⟩
  ·refine⟨zz2,K2 _ _ ?_ h2,⟨x,y,sb.extBut _ _ (Ne.symm nn.1.2.1) a2⟩,ja a3 sb.extBut (Ne.symm nn.1.2.2.1),a4.extBut sb.extBut (Ne.symm nn.1.2.2.2)⟩;simp only [List.mem_cons,List.not_mem_nil,or_false,not_or];exact⟨Ne.symm nn.1.1,nn.2.1.1,nn.2.1.2.1,nn.2.1.2.2⟩
  ·have lt:b<s.heap.objs.size:=by
    obtain⟨o4,h4,_⟩:=h4;obtain⟨o5,h5,_⟩:=h5;simp only [List.mem_cons,List.not_mem_nil,or_false] at hb;rcases hb with rfl|rfl|rfl|rfl|rfl
    ·exact Heap.lt_size h1
    ·exact Heap.lt_size h2
    ·exact Heap.lt_size h3
    ·exact Heap.lt_size h4
    ·exact Heap.lt_size h5
   rw[za (Nat.ne_of_lt lt)];exact (hf b hb).1
 done:=by
  intro X hP hw hK hc i pins s σ H E I hf st hg;subst hP hw hK;obtain⟨hi,xs,ys,ha,hb,hn⟩:=hg;obtain⟨us,ru,pu,_⟩:=I.tuple ha;obtain⟨vs,rv,pv,_⟩:=I.list hb;have lu:=ru.length;have lv:=rv.length;obtain⟨h1,h2,⟨a,b,h3⟩,h4,h5⟩:=st;have fpw:∀b∈[Z,To,j1,j2],b∈[Z,Ti,To,j1,j2]:=fun b hb=>by
   simp only [List.mem_cons,List.not_mem_nil,or_false] at hb ⊢;rcases hb with rfl|rfl|rfl|rfl <;> simp
  have hend:us.toArray[i]?=none∨vs.toArray[i]?=none:=by
   by_cases c1:us.length<=i
   ·exact .inl (by simpa using c1)
   ·exact .inr (by
     have:vs.length<=i:=by omega
     simpa using this)
  have ty:s.TypeIs (.ref Z) "zip" :=⟨_,h1,rfl⟩
  unfold pyNext;refine wpAny_bind (wpAny_attempt (wpAny_callSpecial?_slot (name:=Str.ofString "__next__") ty F.slot_zip_next (wpAny_call_entry F.slot_zip_next ty F.entry_zip_next ?_ (F.args_zip_next_1 _))));refine y0e (I.ok.hd hc) D h1 h2 h3 h4 h5 pu pv.isList hend fun h' e kk ⟨o,ho,hcl⟩=>?_;exact wpAny_bind (wpAny_isInstance (T:= "StopIteration") (b:=true) ⟨o,ho,hcl⟩ isSubtype_stop (wpAny_pure ⟨rfl,I.turnedL (t':=s.toks) (fun b u hb e=>kk b u hb e) fun b hb=>hf b (fpw b hb)⟩))
 self:=fun A i s Q E st h=>wpAny_pyIter_zip st.1 h
noncomputable def y1u (K:PySem.W.Frag) (ta tb:TE):TI:=fun σ H R=>ta σ H fun x H1=>tb σ H1 fun y H2=>∃a b xs ys,x=.ref a/\y=.ref b/\SqT K H2 a xs/\SqL K H2 b ys/\R (y0o K a b (min xs.length ys.length)) H2
theorem y2J {I m1 m2:Nat} (h1:m1<I) (h2:m2<I):Apart2 (I+4) (I+2) (I+3) I (I+1) m1 m2:=by
 refine⟨?_,fun m hm=>?_⟩
 ·simp only [List.nodup_cons,List.mem_cons,List.not_mem_nil,or_false,not_or,not_false_eq_true,List.nodup_nil,and_true];refine⟨⟨?_,?_,?_,?_⟩,⟨?_,?_,?_⟩,⟨?_,?_⟩,?_⟩ <;> (intro (z:(_:Nat)=_);omega)
 ·simp only [List.mem_cons,List.not_mem_nil,or_false,not_or] at hm ⊢;rcases hm with rfl|rfl <;> refine⟨?_,?_,?_,?_⟩ <;> (intro (z:(_:Nat)=_);omega)
section
variable {X:Cx} {es:List Expr} {k:Nat} {tpos:Pos}
theorem y0D {l m:Expr} {tl tm:TE} {p pos:Pos} (hg:Gl X "zip") (hm:X.mg "zip" = none) (hl:PE X l tl) (hq:PE X m tm) (hs:starEach [l,m] X.env=[(false,eval l X.env),(false,eval m X.env)]:=by rfl) (hs2:starEach [m] X.env=[(false,eval m X.env)]:=by rfl) :
  PI X (.Tuple es k tpos) (.Call (.Name "zip" p) [l,m] [] pos) (y1u X.K tl tm):=by
 intro pins s σ H R I h;refine Call_ (vC I hg hm PyProof.Rows.boot_zip (PyProof.Rows.callWith_type1 ?_ (by rw[hs,hs2]) (by rw[hs2];rfl)));refine thn ((zB hl (zB hq zE hs2) (by rw[hs,hs2])) pos pins s σ H (fun vs H2=>∃(x y:V),vs=[x,y]/\∃a b xs ys,x=.ref a/\y=.ref b/\SqT X.K H2 a xs/\SqL X.K H2 b ys/\R (y0o X.K a b (min xs.length ys.length)) H2) I ?_) fun us s1 ⟨vs,H1,I1,r,x,y,e,a,b,xs,ys,ea,eb,ha,hb,q⟩=>?_
 ·show tl σ H fun x H1=>tm σ H1 fun y H2=>∃x' y',[x,y]=[x',y']/\_;have e:(fun (x:V) (H1:Hp)=>tm σ H1 fun y H2=>∃x' y',[x,y]=[x',y']/\∃a b xs ys,x'=V.ref a/\y'=.ref b/\SqT X.K H2 a xs/\SqL X.K H2 b ys/\R (y0o X.K a b (min xs.length ys.length)) H2) =
    fun (x:V) (H1:Hp)=>tm σ H1 fun y H2=>∃a b xs ys,x=V.ref a/\y=.ref b/\SqT X.K H2 a xs/\SqL X.K H2 b ys/\R (y0o X.K a b (min xs.length ys.length)) H2:=by
   funext x H1;congr 1;funext y H2;refine propext ⟨fun⟨x',y',e,q⟩=>?_,fun q=>⟨x,y,rfl,q⟩⟩;cases e;exact q
  rw[e];exact h
 subst e ea eb;obtain⟨u,v,rfl,r1,r2⟩:=Vals.two r;cases r1;cases r2;obtain⟨us,ru,pu,_⟩:=I1.tuple ha;obtain⟨vs,rv,pv,_⟩:=I1.list hb;have la:a<s1.heap.objs.size:=by obtain⟨o,e,_⟩:=pu;exact Heap.lt_size e
 have lb:b<s1.heap.objs.size:=by obtain⟨o,e,_⟩:=pv.isList;exact Heap.lt_size e
 refine z5k pu pv.isList fun h' hz hTI hTO hi1 hi2 hk=>?_;refine wpAny_pyIter_zip hz ?_;have I2:Inv X pins σ H1 { s1 with heap:=h' }:=I1.kept (t':=s1.toks) hk;refine⟨_,_,_,_,H1,rfl,I2,z5r (y2J la lb),⟨hz,hTI,⟨_,_,hTO⟩,hi1,hi2⟩,fun c hc=>?_,q⟩;have hc':s1.heap.objs.size<=c:=by
  simp only [List.mem_cons,List.not_mem_nil,or_false] at hc;rcases hc with rfl|rfl|rfl|rfl|rfl <;> first|exact Nat.le_refl _|exact Nat.le_add_right _ _
 exact I1.fpOk hc' (I1.hok.fresh hc')
end
theorem z1L {K:PySem.W.Frag} {ta tb:TE} {σ:St} {H:Hp} {R:It->Hp->Prop}:y1u K ta tb σ H R=ta σ H fun x H1=>tb σ H1 fun y H2=>∃a b xs ys,x=.ref a/\y=.ref b/\SqT K H2 a xs/\SqL K H2 b ys/\R (y0o K a b (min xs.length ys.length)) H2:=rfl
theorem z7L {K:PySem.W.Frag} {a b:Addr} {xs ys:List V} {g:TG} {tb:TS} {D:Ends} {σ:St} {H:Hp} (Pv:Nat->St->Hp->Prop) (h0:Pv 0 σ H) (hl:∀i σ H,Pv i σ H->SqT K H a xs/\SqL K H b ys)
  (hs:∀i u v T σ H,xs[i]?=some u->ys[i]?=some v->H T=none->Pv i σ H->g (.ref T) σ (upd H T (.tup [u,v])) fun σ2 H2=>tb { D with nx:=Pv (i+1),ct:=Pv (i+1),bk:=D.nx } σ2 H2)
  (hd:∀σ H,Pv (min xs.length ys.length) σ H->D.nx σ H):y0p (y0o K a b (min xs.length ys.length)) g tb D σ H:=by
 refine⟨fun i m σ H=>m=min xs.length ys.length-i/\i<=min xs.length ys.length/\Pv i σ H,⟨_,rfl,Nat.zero_le _,h0⟩,?_⟩;rintro i m σ1 H1 ⟨rfl,hi,p⟩;obtain⟨qa,qb⟩:=hl i σ1 H1 p;by_cases hlt:i<min xs.length ys.length
 ·refine .inr ⟨⟨hlt,xs,ys,qa,qb,rfl⟩,Pv (i+1),fun σ' H' p'=>⟨min xs.length ys.length-(i+1),by omega,rfl,hlt,p'⟩,fun x H' y=>?_⟩;obtain⟨T,u,v,nT,rfl,rfl,f1,f2⟩:=y;exact hs i u v T σ1 H1 (f1 xs qa) (f2 ys qb) nT p
 ·have e:i=min xs.length ys.length:=by omega
  refine .inl ⟨⟨e,xs,ys,qa,qb,rfl⟩,hd σ1 H1 ?_⟩;rw[←e];exact p
section
variable {X:Cx} {k:Nat} {C:Addr} {ps:List Str} {sp:Sp} {m:Str} {pos apos:Pos} {e o:Expr} {es:List Expr} {ta:TE} {t:TA}
theorem z9w {pl:Sem Bool} (hx:X.ex=[]) (he:PE X.nox o ta) (c:Cls X.K C) (h:HasMX X.prog X.w X.K X.mg X.base k C m ps sp) (hr:Room k X.A) (ha:PA X.nox (e::es) t)
  (hst:starEach (e::es) X.env=(false,eval e X.env)::starEach es X.env:=by rfl) (hpl:(backTo pos (starEach es X.env)).any (·.1)=false:=by rfl)
  (ht:eval (.Call (.Attribute o m apos) (e::es) [] pos) X.env=(do
   let ov ←eval o X.env
   standAt apos.atName
   let (f,first) ←holding [ov] (getMethod ov m pl)
   callWith pos f first (backTo pos (starEach (e::es) X.env)) (backToKw pos (keywordEach [] X.env))):=by rfl) :
  PXe X (.Call (.Attribute o m apos) (e::es) [] pos) fun E=>z7u C m sp [] E ta t:=by
 intro pins s σ H Q E I hw;obtain⟨f,fd,F,hb,hm⟩:=h;refine PySem.W.methodCall_KW (pl:=pl) (wpAny_mono (he pins s σ H _ (I.wish _) hw) (fun u s1 ⟨x,H1,I1,rx,a,dx,fs,ex,ea,l,q⟩=>?_) fun _ _ z=>z.elim) ht;subst ex;obtain rfl:u=Value.ref a:=rx;refine vz I1.unwish ea c hm l ?_;refine PySem.W.callWith_K (first:=[.ref a]) (h₀:=X.base) I.ok.mod.kin hm.kp (wpAny_mono (ha pos pins s1 σ H1 _ I1 q) (fun us s2 ⟨vs,H2,I2,r,q2⟩=>⟨I2.kIn,?_⟩) fun _ _ z=>z.elim) hst hpl;have J:=I2.unwish;have q:sp (.ref a::vs) H2 Q E:=by have z:sp (.ref a::(vs++[])) H2 Q E:=q2;rwa [List.append_nil] at z
 have rr:Vals (.ref a::vs) (.ref a::us):=.cons rfl r;have hl:(Value.ref a::us).length=ps.length:=by rw[←rr.length];exact F.len _ _ _ _ q
 refine wpAny_call (codeAny_mono (F.run X.A X.stack s2 H2 ⟨.ref a::us,[]⟩ (.ref a::us) (.ref a::vs) Q E hr J.env0 (.of_eq (hb _ hl)) rr q) fun r s' hq=>?_);cases r with
 | error e=>exact J.afterXE hx hq
 | ok fl=>
  cases fl with
  | ret u=>exact J.after hq
  | next=>exact False.elim hq
  | brk=>exact False.elim hq
  | cont=>exact False.elim hq
end
theorem z5w {α:Type} {t:Sem α} {Q Q':α->Shared->Prop} {M:Model} {A:Around} {E:Value->Shared->Prop} {s:Shared} {n:Nat} (hn:n<=s.toks) (h:wpAny M A t Q E s) (hQ:∀a s',n<=s'.toks->Q a s'->Q' a s'):wpAny M A t Q' E s:=
 wpAny_mono (wpAny_toks_of hn h) (fun a s' ⟨k,q⟩=>hQ a s' k q) fun _ _ ⟨_,x⟩=>x
section
variable {X:Cx} {n:Nat} {e a b:Expr} {es:List Expr} {te ta tb:TE} {t u:TS} {st:Stmt} {rest:List Stmt} {pos:Pos}
noncomputable def PEN (X:Cx) (n:Nat) (e:Expr) (t:TE):Prop:=
 ∀(pins:List (Addr×Obj)) (s:Shared) (σ:St) (H:Hp) (Q:VK),n<=s.toks->Inv X pins σ H s->t σ H Q->wpAny (model X.prog X.w) X.A (eval e X.env) (EP X pins σ Q) X.xe s
noncomputable def PAN (X:Cx) (n:Nat) (es:List Expr) (t:TA):Prop:=
 ∀(pos:Pos) (pins:List (Addr×Obj)) (s:Shared) (σ:St) (H:Hp) (Q:List V->Hp->Prop),n<=s.toks->Inv X pins σ H s->t σ H Q->wpAny (model X.prog X.w) X.A (spliced (backTo pos (starEach es X.env))) (AP X pins σ Q) X.xe s
noncomputable def PSN (X:Cx) (n:Nat) (st:Stmt) (t:TS):Prop:=
 ∀(pins:List (Addr×Obj)) (s:Shared) (σ:St) (H:Hp) (D:Ends),n<=s.toks->Inv X pins σ H s->t D σ H->wpAny (model X.prog X.w) X.A (exec st X.env) (SP X pins D) X.xe s
noncomputable def PSsN (X:Cx) (n:Nat) (st:List Stmt) (t:TS):Prop:=
 ∀(pins:List (Addr×Obj)) (s:Shared) (σ:St) (H:Hp) (D:Ends),n<=s.toks->Inv X pins σ H s->t D σ H->wpAny (model X.prog X.w) X.A (execs st X.env) (SP X pins D) X.xe s
theorem PE.atN (h:PE X e te):PEN X n e te:=fun pins s σ H Q _ I z=>h pins s σ H Q I z
theorem PA.atN {t:TA} (h:PA X es t):PAN X n es t:=fun pos pins s σ H Q _ I z=>h pos pins s σ H Q I z
theorem PS.atN (h:PS X st t):PSN X n st t:=fun pins s σ H D _ I z=>h pins s σ H D I z
theorem PSs.atN (h:PSs X rest t):PSsN X n rest t:=fun pins s σ H D _ I z=>h pins s σ H D I z
theorem yG (h1:PSN X n st t) (h2:PSsN X n rest u):PSsN X n (st::rest) (y2L t u):=by
 intro pins s σ H D hn I h;refine wpAny_execs_cons (z5w hn (h1 pins s σ H { D with nx:=u D } hn I h) fun f s1 hn1 q=>?_);cases f with
 | next=>
  obtain⟨σ',H',I',q⟩:=q;exact h2 pins s1 σ' H' D hn1 I' q
 | ret v=>exact q
 | brk=>exact q
 | cont=>exact q
theorem jv (h1:PSN X n st t):PSsN X n [st] t:=by
 intro pins s σ H D hn I h;refine wpAny_execs_cons (thn (h1 pins s σ H D hn I h) fun f s1 q=>?_);cases f with
 | next=>exact wpAny_execs_nil q
 | ret v=>exact q
 | brk=>exact q
 | cont=>exact q
theorem y1X {c:Expr} {a b:List Stmt} {tc:TT} (hc:PT X c tc) (ha:PSsN X n a t) (hb:PSsN X n b u):PSN X n (.If c a b pos) (y1D tc t u):=by
 intro pins s σ H D hn I h;refine wpAny_If (z5w hn (hc pins s σ H _ I h) fun d s1 hn1 ⟨H1,I1,q1⟩=>?_);cases d with
 | true=>exact ha pins s1 σ H1 D hn1 I1 q1
 | false=>exact hb pins s1 σ H1 D hn1 I1 q1
theorem z9y (he:PEN X n e te):PSN X n (.Return (some e) pos) (y2T te):=by
 intro pins s σ H D hn I h;exact wpAny_Return_some (thn (he pins s σ H _ hn I h) fun v s1 ⟨x,H1,I1,r1,q1⟩=>⟨x,σ,H1,I1,r1,q1⟩)
theorem z9x {i:Nat} {x:Str} {pos':Pos} (hN:X.N.Nodup) (hi:X.N[i]?=some x) (hx:Loc X.env.scope x) (he:PEN X n e te) (hs:swapsWith e (some (.Name x pos')) pos.line X.env=pure false:=by rfl) (hf:X.fn x=true∨X.env.scope.names.lookup x=some .local:=by first|exact .inl rfl|exact .inr rfl|assumption) :
  PSN X n (.Assign [.Name x pos'] e pos) (z9k te (qH i)):=by
 intro pins s σ H D hn I h;refine wpAny_Assign_Name (thn (he pins s σ H _ hn I h) fun v s1 ⟨y,H1,I1,r1,q1⟩=>?_) hs;exact yu I1 hN hi hx r1 (fun s2 I2=>⟨_,H1,I2,q1⟩) hf
theorem z4S {t:TA} (ha:PEN X n e te) (hr:PAN X n es t) (hs:starEach (e::es) X.env=(false,eval e X.env)::starEach es X.env:=by rfl):PAN X n (e::es) (z0Y te t):=by
 intro pos pins s σ H Q hn I h;rw[hs];show wpAny _ _ (spliced ((false,eval e X.env)::backTo pos (starEach es X.env))) _ _ s;refine Calls.spliced_cons (z5w hn (ha pins s σ H _ hn I h) fun u s1 hn1 ⟨x,H1,I1,r1,q1⟩=>?_);exact thn (hr pos pins s1 σ H1 _ hn1 I1 q1) fun us s2 ⟨xs,H2,I2,r2,q2⟩=>⟨x::xs,H2,I2,.cons r1 r2,q2⟩
theorem z8R {op:CmpOp} {r:R2} (ho:OpR X (compareOp op) r) (ha:PEN X n a ta) (hb:PE X b tb) (hm:behindInMarks op b=false):PEN X n (.Compare a [op] [b] pos) (tOp r ta tb):=by
 intro pins s σ H Q hn I h;refine wpAny_Compare1 (thn (ha pins s σ H _ hn I h) fun v s1 ⟨x,H1,I1,r1,q1⟩=>thn (hb pins s1 σ H1 _ I1 q1) fun u s2 ⟨y,H2,I2,r2,q2⟩=>ho pins s2 σ H2 x y v u Q I2 r1 r2 q2) hm
theorem z9z {iter:Expr} {body:List Stmt} {wi:TI} {g:TG} {tb:TS} {tg:Expr} (hp:PassesOwn (model X.prog X.w) X.A X.env X.xe) (hc:X.calm=true) (hi:PI X tg iter wi) (hg:PG X tg g) (hb:PSsN X n body tb)
  (hs:∀x,foldedSetIterable iter X.env x=pure x:=by intro _;rfl):PSN X n (.For tg iter body [] pos) (y2X wi g tb):=by
 intro pins s σ H D hn I h;refine wpAny_For (z5w hn (hi pins s σ H _ I h) fun v s1 hn1 h1=>z5w hn1 h1 fun itv s2 hn2 h2=>?_) hs;obtain⟨it,fp,tn,J,H2,e,I2,T,st2,f2,W,⟨m0,w0⟩,turn⟩:=h2;subst e;have stat:∀ {H':Hp},(∀b∈fp,H' b=none)->∀b∈fp,z3j X pins H' b:=fun hn b hb=>⟨hn b hb,(f2 b hb).2⟩
 refine codeAny_forLoop_any (fun k s'=>n<=s'.toks/\∃i σ' H',Inv X pins σ' H' s'/\tn i s'.heap/\(∀b∈fp,H' b=none)/\W i k σ' H') ?_ m0 ⟨hn2,0,σ,H2,I2,st2,fun b hb=>(f2 b hb).1,w0⟩;rintro k s3 ⟨hn3,i,σ3,H3,I3,st3,fr3,w3⟩;rcases turn i k σ3 H3 w3 with⟨stop,qn⟩|⟨go,N,hN,step⟩
 ·refine wpAny_passesOwn hp (thn (T.done X rfl rfl rfl hc i pins s3 σ3 H3 X.xe I3 (stat fr3) st3 stop) fun r s4 ⟨hr,I4⟩=>?_);subst hr;exact wpAny_execs_nil ⟨σ3,H3,I4,qn⟩
 ·refine wpAny_passesOwn hp (z5w hn3 (T.item X rfl rfl rfl hc i pins s3 σ3 H3 X.xe I3 (stat fr3) st3 go) fun r s4 hn4 ⟨u,hr,h4⟩=>?_);subst hr;refine wpAny_passesOwn hp (z5w hn4 h4 fun _ s5 hn5 ⟨x,H5,I5,r5,y5,st5,fr5⟩=>?_);have I5':=I5.pinned (stat fr5) (T.obj _ _ st5);refine wpAny_passesOwn hp (z5w hn5 (hg _ s5 σ3 H5 x u _ I5' r5 (step x H5 y5)) fun _ s6 hn6 ⟨σ6,H6,I6,q6⟩=>?_);refine wpAny_passesOwn hp (z5w hn6 (hb _ s6 σ6 H6 _ hn6 I6 q6) fun f s7 hn7 q7=>?_);have again:∀ {σ7:St} {H7:Hp},Inv X (pins++vk fp s5.heap) σ7 H7 s7->N σ7 H7->∃m,m<k/\n<=s7.toks/\∃i σ' H',Inv X pins σ' H' s7/\tn i s7.heap/\(∀b∈fp,H' b=none)/\W i m σ' H':=fun {σ7 H7} I7 n7=>by
   obtain⟨m',hm,w7⟩:=hN σ7 H7 n7;refine⟨m',hm,hn7,i+1,σ7,H7,I7.unpinned,T.keep _ _ _ st5 fun b hb o e=>(I7.pin (b,o) (List.mem_append_right _ (List.mem_append_right _ (yx hb e)))).1,fun b hb=>?_,w7⟩;obtain⟨o,e,d⟩:=T.obj _ _ st5 b hb;exact (I7.pin (b,o) (List.mem_append_right _ (List.mem_append_right _ (yx hb e)))).2.1
  cases f with
  | next=>obtain⟨σ7,H7,I7,n7⟩:=q7;exact again I7 n7
  | cont=>obtain⟨σ7,H7,I7,n7⟩:=q7;exact again I7 n7
  | brk=>obtain⟨σ7,H7,I7,q7⟩:=q7;exact⟨σ7,H7,I7.unpinned,q7⟩
  | ret v=>obtain⟨x7,σ7,H7,I7,r7,q7⟩:=q7;exact⟨x7,σ7,H7,I7.unpinned,r7,q7⟩
noncomputable def y2M (to:TE) (y:Str) (i n:Nat):TE:=fun σ H Q=>to σ H fun x H1=>∃(z w:Str) (v:Nat),x=.str z/\σ[i]?=some (some (.stk w v))/\0<v/\v<n/\y≠w/\z.length+(z.length+1)*w.length<=16777216/\(Builtin.Str.glued w (Builtin.Str.partsBetween z (Builtin.Str.occurrences z y 0 z.length (z.length+1)) y.length)).length<=sizeLine/\
 Q (.str (if (Builtin.Str.occurrences z y 0 z.length (z.length+1)).isEmpty=true then z else Builtin.Str.glued w (Builtin.Str.partsBetween z (Builtin.Str.occurrences z y 0 z.length (z.length+1)) y.length))) H1
theorem z9W {pins:List (Addr×Obj)} {s:Shared} {σ:St} {H:Hp} {i:Nat} {x:Str} {w:Str} {v:Tok} {R:Value->Shared->Prop} (I:Inv X pins σ H s) (hN:X.N[i]?=some x) (hv:Vis X.env.scope x) (e:σ[i]?=some (some (.stk w v))) (q:R (Value.str w v) s)
  (hd:(x == ("__debug__" : Str))=false:=by decide) (hcd:(x == ("__classdict__" : Str))=false:=by decide):wpAny (model X.prog X.w) X.A (eval (.Name x pos) X.env) R X.xe s:=by
 obtain⟨m,hn,hl⟩:=I.loc;obtain⟨u,r,l⟩:=hl i x _ hN e hv;cases (show u=Value.str w v from r);rcases l with⟨hk,hm⟩|⟨hk,c,hc,hcell⟩
 ·exact wpAny_Name (wpAny_loadName_local I.ok.kind hk hn hm q) hd
 ·rcases hk with hk|hk
  ·exact wpAny_Name (wpAny_loadName_cell I.ok.kind hk hc hcell q) hd
  ·exact wpAny_Name (wpAny_loadName_free I.ok.kind hk hc hcell q hcd) hd
theorem z3M {o:Expr} {to:TE} {y x:Str} {i j:Nat} {apos cpos p1 p2:Pos} (n0:0<n) (ho:PEN X n o to) (hN:X.N[i]?=some x) (hv:Vis X.env.scope x)
  (hd:(x == ("__debug__" : Str))=false:=by decide) (hcd:(x == ("__classdict__" : Str))=false:=by decide)
  (hbase:attributeBase o "replace" X.env (eval o X.env)=eval o X.env:=by rfl)
  (hfew:((backTo cpos (starEach [.Constant (.str y) j p1,.Name x p2] X.env)).all (fun x=>!x.1) && (backToKw cpos (keywordEach [] X.env)).all (fun x=>x.1.isSome)
   && decide (([.Constant (.str y) j p1,.Name x p2]:List Expr).length+([]:List Keyword).length+(if ([]:List Keyword).isEmpty then 0 else 1)<30))=true:=by rfl)
  (hline:(apos.endLine == cpos.line)=true:=by rfl) (hs:starEach [.Constant (.str y) j p1,.Name x p2] X.env=[(false,eval (.Constant (.str y) j p1) X.env),(false,eval (.Name x p2) X.env)]:=by rfl) :
  PEN X n (.Call (.Attribute o "replace" apos) [.Constant (.str y) j p1,.Name x p2] [] cpos) (y2M to y i n):=by
 intro pins s σ H Q hn I h;refine wpAny_Call_method_late hbase hfew hline rfl (z5w hn (ho pins s σ H _ hn I h) fun v s1 hn1 ⟨xv,H1,I1,r1,z,w,tv,ex,ei,tv0,tvn,ne,ln,gl,q1⟩=>?_);subst ex;obtain⟨t0,rfl⟩:=r1;obtain⟨h1,h2⟩:=z9L (T:= "str") I1 (x:=.str z) ⟨t0,rfl⟩ rfl;refine⟨"str", "str.replace",PySem.F.plainAttrs_str,PySem.F.slot_str_replace,PySem.F.type_str_replace,h1,h2,?_⟩;rw[hs];refine Calls.callWith_builtin rfl (Calls.evalArgs_plain ?_);show wpAny _ _ (spliced [(false,eval (.Constant (.str y) j p1) X.env),(false,eval (.Name x p2) X.env)]) _ _ _;refine Calls.spliced_cons (Calls.Constant_str (Calls.spliced_cons (z9W (I1.tok _) hN hv ei (Calls.spliced_nil ?_) hd hcd)));have hyp:((Builtin.Str.occurrences z y 0 z.length (z.length+1)).isEmpty || y.length == 0 && w.length == 0)=false->(s1.toks == 0 || tv == 0)=false/\(s1.toks == tv)=false/\(y == w)=false/\Builtin.Str.tooLong (z.length+(Builtin.Str.occurrences z y 0 z.length (z.length+1)).length*w.length)=false:=fun _=>by
  refine⟨?_,?_,?_,?_⟩
  ·rw[Bool.or_eq_false_iff,beq_eq_false_iff_ne,beq_eq_false_iff_ne];exact⟨by omega,by omega⟩
  ·rw[beq_eq_false_iff_ne];omega
  ·rw[beq_eq_false_iff_ne];exact ne
  ·have lo:=PySem.StrLaws.occ_length_le z y 0 z.length (z.length+1);have:=Nat.mul_le_mul_right w.length lo;unfold Builtin.Str.tooLong;refine decide_eq_false ?_;show ¬(_ > 16777216);omega
 refine call_gives PySem.F.slot_str_replace (typeIs_str _ _ _) PySem.F.entry_str_replace (PySem.F.args_str_replace_3 _ _ _) (gives_str_replace z y w t0 s1.toks tv hyp) ?_;have y0:(y.length == 0 && w.length == 0)=false:=by
  rw[Bool.and_eq_false_iff,beq_eq_false_iff_ne,beq_eq_false_iff_ne];by_cases k:y.length=0
  ·refine .inr fun k2=>ne ?_;have e1:y.cps = #[]:=Array.eq_empty_of_size_eq_zero k;have e2:w.cps = #[]:=Array.eq_empty_of_size_eq_zero k2;cases y;cases w;simp only at e1 e2;rw[e1,e2]
  ·exact .inl k
 rw[y0,Bool.or_false];cases c:(Builtin.Str.occurrences z y 0 z.length (z.length+1)).isEmpty with
 | true=>
  rw[c,if_pos rfl] at q1;rw[if_pos rfl];exact⟨.str z,H1,(I1.tok _),⟨t0,rfl⟩,q1⟩
 | false=>
  rw[c,if_neg (by decide)] at q1;rw[if_neg (by decide)];exact⟨gl,.str _,H1,(I1.tok _).tok _,⟨_,rfl⟩,q1⟩
end
noncomputable def ValsL (vs:List V) (us:List Value):Prop:=vs.length=us.length/\∀(i:Nat) (v:V),vs[i]?=some v->∃u,us[i]?=some u/\RelL v u
theorem ValsL.nil:ValsL [] []:=⟨rfl,fun i v e=>by simp at e⟩
theorem ValsL.cons {v:V} {u:Value} {vs:List V} {us:List Value} (r:RelL v u) (h:ValsL vs us):ValsL (v::vs) (u::us):=by
 refine⟨by simp [h.1],fun i y e=>?_⟩;cases i with
 | zero=>simp at e;subst e;exact⟨u,rfl,r⟩
 | succ i=>simpa using h.2 i y (by simpa using e)
structure FnOkT (P:Program) (w:World) (K:PySem.W.Frag) (mg:Str->Option Value) (base:Heap) (k:Nat) (f:Addr) (fd:FuncData) (ps:List Str) (sp:Nat->Sp):Prop where
 len:∀n vs H Q E,sp n vs H Q E->vs.length=ps.length
 run:∀(n:Nat) (A:Around) (outer:List Env) (s:Shared) (H:Hp) (args:Args) (us:List Value) (vs:List V) (Q:VK) (E:XK),Room k A->Env0 P w K mg base A outer s H->BindsTo s fd args (ps.zip us)->ValsL vs us->n<=s.toks->sp n vs H Q E->
  codeAny (model P w) A (.call (.ref f) args) (CR CX0 outer P w H s Q E) s
theorem y2B {P:Program} {w:World} {K:PySem.W.Frag} {mg:Str->Option Value} {base:Heap} {k:Nat} {f:Addr} {name qual:Str} {params:Arguments} {body:List Stmt} {scope:Scope} {dV kV doc pm cdv ct oc:Value} {an od:Option Addr}
  {osl:Array (Option Value)} {N ps:List Str} {sp:Nat->Sp} (lk:K.lookup f=some ⟨oc,od,.func (PySem.W.fnOf name qual params body scope dV kV doc pm an cdv ct),osl⟩) (hcd:PySem.W.codeIn K cdv qual=true) (S:FnScope N ps scope)
  (len:∀n vs H Q E,sp n vs H Q E->vs.length=ps.length)
  (hbody:∀(n:Nat) (A:Around) (outer:List Env) (s:Shared) (H:Hp) (vs:List V) (Q:VK) (E:XK),Room k (A.deeper (envOfC qual scope s.heap.objs.size f cdv))->sp n vs H Q E->
   ∃t,PSsN (qN CX0 P w K mg base N qual scope f cdv A outer s H E) n body t/\t { nx:=fun _ H'=>Q .non H',rt:=Q } (yo N vs) H) :
  FnOkT P w K mg base (k+1) f (PySem.W.fnOf name qual params body scope dV kV doc pm an cdv ct) ps sp:=by
 refine⟨len,fun n A outer s H args us vs Q E hr e0 hb r hn hsp=>?_⟩;have hl:=len _ _ _ _ _ hsp;have KX:K.In s.heap:=e0.mod.kin.keeps fun b o e=>(e0.bs b o e).1;have lim:s.heap.NoLimit:=e0.mod.nolimit.keeps fun b o e=>(e0.bs b o e).1;have hkind:∀y∈ps.zip us,scope.names.lookup y.1=some .local∨(scope.names.lookup y.1=some .cell/\((cellsFrom (s.heap.objs.size+1) scope.names []).lookup y.1).isSome=true):=fun⟨n,v⟩ hy=>by
  rcases S.par n (List.of_mem_zip hy).1 with q|q
  ·exact .inl q
  ·exact .inr ⟨q,PySem.W.cellsFrom_some _ _ _ (.inl q)⟩
 refine codeAny_call_function hr.depth (KX _ _ lk) rfl S.co S.gen rfl (PySem.W.codeRec_of KX hcd) (hb _ _ _ _ ?_);refine wpAny_with_toks hn (wpAny_newFunctionEnv_cells S.kind hkind fun env he s1 x hn1=>?_);subst he;refine⟨lim.keeps x.toInCall.keep,codeAny_func ?_⟩;obtain⟨t,ht,hq⟩:=hbody n A outer s H vs Q E (hr.deeper _) hsp;have I:Inv (qN CX0 P w K mg base N qual scope f cdv A outer s H E) [] (yo N vs) H s1:=vG S hr.hd e0 hl r.2 x;refine wpAny_mono (ht [] s1 (yo N vs) H _ hn1 I hq) (fun fl s' hs=>?_) fun e s' hs=>hs;have fin:∀ {σ':St} {H':Hp} {v:V} {u:Value},Inv (qN CX0 P w K mg base N qual scope f cdv A outer s H E) [] σ' H' s'->RelV v u->Q v H'->CE outer P w H s Q u s':=
  fun {σ' H' v u} J rv q=>⟨v,H',J.os,J.bare,J.base,J.hok,rv,q⟩
 cases fl with
 | ret u=>
  obtain⟨v,σ',H',J,rv,q⟩:=hs;exact fin J rv q
 | next=>
  obtain⟨σ',H',J,q⟩:=hs;exact fin (v:=V.non) (u:=Value.none) J rfl q
 | brk=>
  obtain⟨_,_,_,q⟩:=hs;exact False.elim q
 | cont=>
  obtain⟨_,_,_,q⟩:=hs;exact False.elim q
section
variable {X:Cx}
theorem PSsN.nox {n:Nat} {st:List Stmt} {t:TS} (h:PSsN X.nox n st t):PSsN X n st t:=fun pins s σ H D hn I hw=>
 wpAny_mono (h pins s σ H D hn (I.wish _) hw) (fun _ _ q=>q.unwish) fun _ _ z=>False.elim z
end
noncomputable def HasT (P:Program) (w:World) (K:PySem.W.Frag) (mg:Str->Option Value) (base:Heap) (k:Nat) (x:Str) (ps:List Str) (sp:Nat->Sp):Prop:=
 ∃f fd,FnOkT P w K mg base k f fd ps sp/\(∀us:List Value,us.length=ps.length->bindArgs fd ⟨us,[]⟩=pure (ps.zip us))/\PySem.W.keepIn K (.ref f)=true/\mg x=some (.ref f)
theorem TF.hasT {P:Program} {w:World} {K:PySem.W.Frag} {mg:Str->Option Value} {base:Heap} {x:Str} {st:Stmt} {N ps:List Str} {k:Nat} {sp:Nat->Sp} (T:TF K mg x st) (S:FnScope N ps (zK st))
  (hb:∀(kV doc pm:Value) (an:Option Addr) (cdv ct:Value) (us:List Value),us.length=ps.length->bindArgs (PySem.W.fnOf x x (yg st) (yD st) (zK st) .none kV doc pm an cdv ct) ⟨us,[]⟩=pure (ps.zip us))
  (len:∀n vs H Q E,sp n vs H Q E->vs.length=ps.length)
  (hbody:∀(n:Nat) (f:Addr) (cdv:Value) (A:Around) (outer:List Env) (s:Shared) (H:Hp) (vs:List V) (Q:VK) (E:XK),Room k (A.deeper (envOfC x (zK st) s.heap.objs.size f cdv))->sp n vs H Q E->
   ∃t,PSsN (qN CX0 P w K mg base N x (zK st) f cdv A outer s H E).nox n (yD st) t/\t { nx:=fun _ H'=>Q .non H',rt:=Q } (yo N vs) H):HasT P w K mg base (k+1) x ps sp:=by
 obtain⟨f,fd,F,m⟩:=T;obtain⟨oc,od,kV,doc,pm,an,cdv,ct,osl,rfl,lk,hcd⟩:=F.ex;exact⟨f,_,y2B lk hcd S len fun n A outer s H vs Q E hr hsp=>let ⟨t,h,q⟩:=hbody n f cdv A outer s H vs Q E hr hsp;⟨t,h.nox,q⟩,hb kV doc pm an cdv ct,F.kp,m⟩
section
variable {X:Cx} {n i:Nat} {e:Expr} {es:List Expr} {te:TE} {t:TA}
noncomputable def APL (X:Cx) (pins:List (Addr×Obj)) (σ:St) (Q:List V->Hp->Prop) (us:List Value) (s:Shared):Prop:=∃vs H,Inv X pins σ H s/\ValsL vs us/\Q vs H
noncomputable def PAL (X:Cx) (n:Nat) (es:List Expr) (t:TA):Prop:=
 ∀(pos:Pos) (pins:List (Addr×Obj)) (s:Shared) (σ:St) (H:Hp) (Q:List V->Hp->Prop),n<=s.toks->Inv X pins σ H s->t σ H Q->wpAny (model X.prog X.w) X.A (spliced (backTo pos (starEach es X.env))) (fun us s'=>n<=s'.toks/\APL X pins σ Q us s') X.xe s
theorem y0L:PAL X n [] z9N:=fun _ _ _ _ H Q hn I h=>Calls.spliced_nil ⟨hn,[],H,I,.nil,h⟩
theorem z0z (ha:PE X e te) (hr:PAL X n es t) (hs:starEach (e::es) X.env=(false,eval e X.env)::starEach es X.env:=by rfl):PAL X n (e::es) (z0Y te t):=by
 intro pos pins s σ H Q hn I h;rw[hs];show wpAny _ _ (spliced ((false,eval e X.env)::backTo pos (starEach es X.env))) _ _ s;refine Calls.spliced_cons (z5w hn (ha pins s σ H _ I h) fun u s1 hn1 ⟨x,H1,I1,r1,q1⟩=>?_);exact thn (hr pos pins s1 σ H1 _ hn1 I1 q1) fun us s2 ⟨hn2,xs,H2,I2,r2,q2⟩=>⟨hn2,x::xs,H2,I2,.cons r1.toL r2,q2⟩
noncomputable def y2R (i:Nat) (t:TA):TA:=fun σ H Q=>∃w v,σ[i]?=some (some (.stk w v))/\t σ H fun vs H1=>Q (.stk w v::vs) H1
theorem y0K {x:Str} {p:Pos} (hN:X.N[i]?=some x) (hv:Vis X.env.scope x) (hr:PAL X n es t)
  (hd:(x == ("__debug__" : Str))=false:=by decide) (hcd:(x == ("__classdict__" : Str))=false:=by decide) (hs:starEach (.Name x p::es) X.env=(false,eval (.Name x p) X.env)::starEach es X.env:=by rfl):PAL X n (.Name x p::es) (y2R i t):=by
 intro pos pins s σ H Q hn I h;obtain⟨w,v,e,h⟩:=h;rw[hs];show wpAny _ _ (spliced ((false,eval (.Name x p) X.env)::backTo pos (starEach es X.env))) _ _ s;refine Calls.spliced_cons (z9W I hN hv e ?_ hd hcd);exact thn (hr pos pins s σ H _ hn I h) fun us s2 ⟨hn2,xs,H2,I2,r2,q2⟩=>⟨hn2,V.stk w v::xs,H2,I2,.cons (show RelL (V.stk w v) (Value.str w v) from rfl) r2,q2⟩
noncomputable def z9Q (sp:Nat->Sp) (n:Nat) (t:TA):TE:=fun σ H Q=>t σ H fun vs H1=>sp n vs H1 Q E0
theorem z8Q {k:Nat} {x:Str} {ps:List Str} {sp:Nat->Sp} {p pos:Pos} (h:HasT X.prog X.w X.K X.mg X.base k x ps sp) (hr:Room k X.A) (ha:PAL X n (e::es) t) (hg:Gl X x:=by rfl)
  (hdb:(x == ("__debug__" : Str))=false:=by decide) (he:starEach (e::es) X.env=(false,eval e X.env)::starEach es X.env:=by rfl) (hpl:(backTo pos (starEach es X.env)).any (·.1)=false:=by rfl) :
  PEN X n (.Call (.Name x p) (e::es) [] pos) (z9Q sp n t):=by
 obtain⟨f,fd,F,hb,hk,hm⟩:=h;intro pins s σ H Q hn I h;refine wpAny_Call_Name_kw (jI I hg hm ?_ hdb);refine PySem.W.callWith_K (h₀:=X.base) I.ok.mod.kin hk (thn (ha pos pins s σ H _ hn I h) fun us s1 ⟨hn1,vs,H1,I1,r,q⟩=>⟨I1.kIn,?_⟩) he hpl;have hl:us.length=ps.length:=by rw[←r.1];exact F.len _ _ _ _ _ q
 refine wpAny_call (codeAny_mono (F.run n X.A X.stack s1 H1 ⟨us,[]⟩ us vs Q E0 hr I1.env0 (.of_eq (hb us hl)) r hn1 q) fun r s' hq=>?_);cases r with
 | error e=>exact z8S pins σ H1 s1 e s' I1 hq
 | ok fl=>
  cases fl with
  | ret u=>exact I1.after hq
  | next=>exact False.elim hq
  | brk=>exact False.elim hq
  | cont=>exact False.elim hq
theorem y0I {k:Nat} {x:Str} {ps:List Str} {sp:Sp} {p pos:Pos} (h:Has X.prog X.w X.K X.mg X.base k x ps sp) (hr:Room k X.A) (ha:PAN X n (e::es) t) (hg:Gl X x:=by rfl)
  (hdb:(x == ("__debug__" : Str))=false:=by decide) (he:starEach (e::es) X.env=(false,eval e X.env)::starEach es X.env:=by rfl) (hpl:(backTo pos (starEach es X.env)).any (·.1)=false:=by rfl) :
  PEN X n (.Call (.Name x p) (e::es) [] pos) (z2z sp [] E0 t):=by
 obtain⟨f,fd,F,hb,hk,hm,_⟩:=h;intro pins s σ H Q hn I h;refine wpAny_Call_Name_kw (jI I hg hm ?_ hdb);refine PySem.W.callWith_K (h₀:=X.base) I.ok.mod.kin hk (thn (ha pos pins s σ H _ hn I h) fun us s1 ⟨vs,H1,I1,r,q⟩=>⟨I1.kIn,?_⟩) he hpl;exact z6P F hr (.all hb) .nil z8S I1 r q
end
section
variable {X:Cx} {pins:List (Addr×Obj)} {σ:St} {H:Hp} {s:Shared} {a C dx:Addr} {fs:List (Str×V)} {f:Str} {A:Around} {E:Value->Shared->Prop}
theorem z3C {y:V} {u:Value} {Q:Unit->Shared->Prop} (I:Inv X pins σ H s) (e:H a=some (.ins C dx fs)) (c:Cls X.K C) (n:NoAttr X.K C f) (hl:fs.length<1000) (ry:RelV y u)
  (h:∀s',1<=s'.toks->Inv X pins σ (upd H a (.ins C dx (z0v f y fs))) s'->Q () s'):wpAny (model X.prog X.w) A (setAttr (.ref a) f u) Q E s:=by
 obtain⟨mA,O,r,wi,_,ho⟩:=z1J I.hok e;have hz:(fs.map (·.1)).length<=sizeLine:=by rw[List.length_map,sizeLine_eq];omega
 refine z9p I.kIn O c.sa c.po n.taker c.hd wi hz fun h' O' sb=>h _ (by show 1<=s.toks+2;omega) ?_;have hd:∃o,h'.get? dx=some o:=let ⟨o,_,_,e',_⟩:=O'.ns;⟨o,e'⟩;refine I.write (x:=a) (e:=dx) (by rw[e];exact True.intro) (.inr ho) (fun b q hb z=>(sb.2 b hb).trans z) hd ?_;refine⟨by rw[za O.ne];exact ho,?_,O.ne,O'.obj,_,O'.ns,fun g=>?_,fun g hg=>?_⟩
 ·have:=vB f y fs;omega
 ·show RelO ((z0v f y fs).lookup g) (if g=f then some u else mA g);rw[wy];by_cases q:g=f
  ·rw[if_pos q,if_pos q];exact ry
  ·rw[if_neg q,if_neg q];exact r g
 ·by_cases q:g=f
  ·rw[q];exact (vD f y fs).1
  ·refine (vD f y fs).2 g (wi g fun z=>hg ?_);show (if g=f then some u else mA g)=none;rw[if_neg q];exact z
end
noncomputable def PSs1 (X:Cx) (st:List Stmt) (t:TS):Prop:=
 ∀(pins:List (Addr×Obj)) (s:Shared) (σ:St) (H:Hp) (D:Ends),Inv X pins σ H s->t D σ H->wpAny (model X.prog X.w) X.A (execs st X.env) (fun fl s'=>SP X pins D fl s'/\1<=s'.toks) X.xe s
section
variable {X:Cx} {o value:Expr} {f:Str} {pos pos':Pos} {ta tv:TE}
theorem z8L (ha:PE X o ta) (hv:PE X value tv) (hs:swapsWith value (some (.Attribute o f pos')) pos.line X.env=pure false):PSs1 X [.Assign [.Attribute o f pos'] value pos] (y3E X.K ta tv f):=by
 intro pins s σ H D I h;refine wpAny_execs_cons (plainObj_wpAny_Assign_Attribute (thn (hv pins s σ H _ I h) fun u s1 ⟨y,H1,I1,ry,q⟩=>thn (ha pins s1 σ H1 _ I1 q) fun ov s2 ⟨x,H2,I2,rx,a,C,dx,fs,ex,ea,c,n,l,q2⟩=>?_) hs);subst ex;obtain rfl:ov=Value.ref a:=rx;exact z3C I2 ea c n l ry fun s3 h3 I3=>wpAny_execs_nil ⟨⟨σ,_,I3,q2⟩,h3⟩
theorem PSs1.nox {st:List Stmt} {t:TS} (h:PSs1 X.nox st t):PSs1 X st t:=fun pins s σ H D I hw=>
 wpAny_mono (h pins s σ H D (I.wish _) hw) (fun _ _ q=>⟨q.1.unwish,q.2⟩) fun _ _ z=>False.elim z
end
structure FnOk1 (P:Program) (w:World) (K:PySem.W.Frag) (mg:Str->Option Value) (base:Heap) (k:Nat) (f:Addr) (fd:FuncData) (ps:List Str) (sp:Sp):Prop where
 len:∀vs H Q E,sp vs H Q E->vs.length=ps.length
 run:∀(A:Around) (outer:List Env) (s:Shared) (H:Hp) (args:Args) (us:List Value) (vs:List V) (Q:VK) (E:XK),Room k A->Env0 P w K mg base A outer s H->BindsTo s fd args (ps.zip us)->Vals vs us->sp vs H Q E->
  codeAny (model P w) A (.call (.ref f) args) (fun r s'=>CR CX0 outer P w H s Q E r s'/\∀u,r=.ok (.ret u)->1<=s'.toks) s
theorem y2C {P:Program} {w:World} {K:PySem.W.Frag} {mg:Str->Option Value} {base:Heap} {k:Nat} {f:Addr} {name qual:Str} {params:Arguments} {body:List Stmt} {scope:Scope} {dV kV doc pm cdv ct oc:Value} {an od:Option Addr}
  {osl:Array (Option Value)} {N ps:List Str} {sp:Sp} (lk:K.lookup f=some ⟨oc,od,.func (PySem.W.fnOf name qual params body scope dV kV doc pm an cdv ct),osl⟩) (hcd:PySem.W.codeIn K cdv qual=true) (S:FnScope N ps scope)
  (len:∀vs H Q E,sp vs H Q E->vs.length=ps.length)
  (hbody:∀(A:Around) (outer:List Env) (s:Shared) (H:Hp) (vs:List V) (Q:VK) (E:XK),Room k (A.deeper (envOfC qual scope s.heap.objs.size f cdv))->sp vs H Q E->
   ∃t,PSs1 (qN CX0 P w K mg base N qual scope f cdv A outer s H E) body t/\t { nx:=fun _ H'=>Q .non H',rt:=Q } (yo N vs) H) :
  FnOk1 P w K mg base (k+1) f (PySem.W.fnOf name qual params body scope dV kV doc pm an cdv ct) ps sp:=by
 refine⟨len,fun A outer s H args us vs Q E hr e0 hb r hsp=>?_⟩;have hl:=len _ _ _ _ hsp;have KX:K.In s.heap:=e0.mod.kin.keeps fun b o e=>(e0.bs b o e).1;have lim:s.heap.NoLimit:=e0.mod.nolimit.keeps fun b o e=>(e0.bs b o e).1;have hkind:∀y∈ps.zip us,scope.names.lookup y.1=some .local∨(scope.names.lookup y.1=some .cell/\((cellsFrom (s.heap.objs.size+1) scope.names []).lookup y.1).isSome=true):=fun⟨n,v⟩ hy=>by
  rcases S.par n (List.of_mem_zip hy).1 with q|q
  ·exact .inl q
  ·exact .inr ⟨q,PySem.W.cellsFrom_some _ _ _ (.inl q)⟩
 refine codeAny_call_function hr.depth (KX _ _ lk) rfl S.co S.gen rfl (PySem.W.codeRec_of KX hcd) (hb _ _ _ _ ?_);refine wpAny_newFunctionEnv_cells S.kind hkind fun env he s1 x=>?_;subst he;refine⟨lim.keeps x.toInCall.keep,codeAny_func ?_⟩;obtain⟨t,ht,hq⟩:=hbody A outer s H vs Q E (hr.deeper _) hsp;have I:Inv (qN CX0 P w K mg base N qual scope f cdv A outer s H E) [] (yo N vs) H s1:=vG S hr.hd e0 hl (fun i v e=>let ⟨u,a,b⟩:=r.get e;⟨u,a,b.toL⟩) x;refine wpAny_mono (ht [] s1 (yo N vs) H _ I hq) (fun fl s' hs=>?_) fun e s' hs=>wpAny_mono hs (fun _ _ q=>⟨q,fun u z=>nomatch z⟩) fun _ _ q=>⟨q,fun u z=>nomatch z⟩
 obtain⟨hs,h1⟩:=hs;have fin:∀ {σ':St} {H':Hp} {v:V} {u:Value},Inv (qN CX0 P w K mg base N qual scope f cdv A outer s H E) [] σ' H' s'->RelV v u->Q v H'->CE outer P w H s Q u s':=
  fun {σ' H' v u} J rv q=>⟨v,H',J.os,J.bare,J.base,J.hok,rv,q⟩
 cases fl with
 | ret u=>
  obtain⟨v,σ',H',J,rv,q⟩:=hs;exact⟨fin J rv q,fun _ _=>h1⟩
 | next=>
  obtain⟨σ',H',J,q⟩:=hs;exact⟨fin (v:=V.non) (u:=Value.none) J rfl q,fun _ _=>h1⟩
 | brk=>
  obtain⟨_,_,_,q⟩:=hs;exact False.elim q
 | cont=>
  obtain⟨_,_,_,q⟩:=hs;exact False.elim q
noncomputable def z9I (P:Program) (w:World) (K:PySem.W.Frag) (mg:Str->Option Value) (base:Heap) (k:Nat) (C:Addr) (x:Str) (ps:List Str) (sp:Sp):Prop:=
 ∃f fd,FnOk1 P w K mg base k f fd ps sp/\(∀us:List Value,us.length=ps.length->bindArgs fd ⟨us,[]⟩=pure (ps.zip us))/\Meth K C x f
theorem TM.has1 {P:Program} {w:World} {K:PySem.W.Frag} {mg:Str->Option Value} {base:Heap} {C:Addr} {x qual:Str} {st:Stmt} {N ps:List Str} {k:Nat} {sp:Sp} (T:TM K C x qual st) (S:FnScope N ps (zK st))
  (hb:∀(kV doc pm:Value) (an:Option Addr) (cdv ct:Value) (us:List Value),us.length=ps.length->bindArgs (PySem.W.fnOf x qual (yg st) (yD st) (zK st) .none kV doc pm an cdv ct) ⟨us,[]⟩=pure (ps.zip us))
  (len:∀vs H Q E,sp vs H Q E->vs.length=ps.length)
  (hbody:∀(f:Addr) (cdv:Value) (A:Around) (outer:List Env) (s:Shared) (H:Hp) (vs:List V) (Q:VK) (E:XK),Room k (A.deeper (envOfC qual (zK st) s.heap.objs.size f cdv))->sp vs H Q E->
   ∃t,PSs1 (qN CX0 P w K mg base N qual (zK st) f cdv A outer s H E).nox (yD st) t/\t { nx:=fun _ H'=>Q .non H',rt:=Q } (yo N vs) H):z9I P w K mg base (k+1) C x ps sp:=by
 obtain⟨f,fd,F,m⟩:=T;obtain⟨oc,od,kV,doc,pm,an,cdv,ct,osl,rfl,lk,hcd⟩:=F.ex;exact⟨f,_,y2C lk hcd S len fun A outer s H vs Q E hr hsp=>let ⟨t,h,q⟩:=hbody f cdv A outer s H vs Q E hr hsp;⟨t,h.nox,q⟩,hb kV doc pm an cdv ct,m⟩
section
variable {X:Cx} {k:Nat} {C:Addr} {ps:List Str} {sp:Sp} {pos:Pos} {st:Stmt} {rest:List Stmt} {t u:TS}
noncomputable def PS1 (X:Cx) (st:Stmt) (t:TS):Prop:=
 ∀(pins:List (Addr×Obj)) (s:Shared) (σ:St) (H:Hp) (D:Ends),Inv X pins σ H s->t D σ H->wpAny (model X.prog X.w) X.A (exec st X.env) (fun fl s'=>SP X pins D fl s'/\1<=s'.toks) X.xe s
theorem y0B {c x:Str} {p p2:Pos} {i:Nat} (hN:X.N.Nodup) (hi:X.N[i]?=some x) (hx:Loc X.env.scope x) (h:z9I X.prog X.w X.K X.mg X.base k C "__init__" ps sp) (mk:PySem.W.makesIn X.K C=true) (kc:PySem.W.keepIn X.K (.ref C)=true) (hr:Room (k+1) X.A) (hg:Gl X c) (hm:X.mg c=some (.ref C))
  (hdb:(c == ("__debug__" : Str))=false:=by decide) (hs:swapsWith (.Call (.Name c p) [] [] pos) (some (.Name x p2)) pos.line X.env=pure false:=by rfl) (hf:X.fn x=true∨X.env.scope.names.lookup x=some .local:=by first|exact .inl rfl|exact .inr rfl|assumption) :
  PS1 X (.Assign [.Name x p2] (.Call (.Name c p) [] [] pos) pos) (z9k (y1B C sp [] E0 z9N) (qH i)):=by
 obtain⟨f,fd,F,hb,hM⟩:=h;intro pins s σ H D I h;refine wpAny_Assign_Name (Q:=_) (wpAny_Call_Name_kw (jI I hg hm ?_ hdb)) hs;refine PySem.W.callWith_K0 I.kIn kc ?_;have hq:=h (s.heap.objs.size+1) s.heap.objs.size (I.hok.fresh (Nat.le_succ _)) (I.hok.fresh (Nat.le_refl _)) (Nat.ne_of_lt (Nat.lt_succ_self _));have I2:=Inv.made (C:=C) I;have r2:Vals [V.ref (s.heap.objs.size+1)] [Value.ref (s.heap.objs.size+1)]:=.cons rfl .nil;have hl:[Value.ref (s.heap.objs.size+1)].length=ps.length:=F.len _ _ _ _ hq;refine wpAny_call (z8a (f:=f) I.kIn mk hM.at_ (beq_iff_eq.mp hM.fn) (codeAny_mono (F.run _ X.stack _ _ ⟨[Value.ref (s.heap.objs.size+1)],[]⟩ [Value.ref (s.heap.objs.size+1)] _ _ E0 (hr.make C [] [])
  (I2.env0.make C [] []) (.of_eq (hb _ hl)) r2 hq) fun r s' hq'=>?_))
 obtain⟨hq',h1⟩:=hq';cases r with
 | error e=>exact z8S pins σ _ _ e s' I2 hq'
 | ok fl=>
  cases fl with
  | ret u=>
   obtain⟨v,H',I3,rv,ev,q3⟩:=I2.after hq';subst ev;refine⟨rv,?_⟩;show wpAny _ _ (storeName X.env x (Value.ref (s.heap.objs.size+1))) _ _ s';exact wpAny_with_toks (h1 u rfl) (yu (v:=V.ref (s.heap.objs.size+1)) I3 hN hi hx (show RelV (V.ref (s.heap.objs.size+1)) (Value.ref (s.heap.objs.size+1)) from rfl) (fun s2 J hn=>⟨⟨_,H',J,q3⟩,hn⟩) hf)
  | next=>exact False.elim hq'
  | brk=>exact False.elim hq'
  | cont=>exact False.elim hq'
theorem z6S (h1:PS1 X st t) (h2:PSsN X 1 rest u):PSs X (st::rest) (y2L t u):=by
 intro pins s σ H D I h;refine wpAny_execs_cons (thn (h1 pins s σ H { D with nx:=u D } I h) fun f s1 ⟨q,hn⟩=>?_);cases f with
 | next=>
  obtain⟨σ',H',I',q⟩:=q;exact h2 pins s1 σ' H' D hn I' q
 | ret v=>exact q
 | brk=>exact q
 | cont=>exact q
end
noncomputable def kA:List Str->Nat->List Value
 | [],_=>[]
 | c::cs,t=>Value.str c t::kA cs (t+1)
theorem vo:∀ {cs:List Str} {t k:Nat} {c:Str},cs[k]?=some c->(kA cs t)[k]?=some (Value.str c (t+k))
 | [],_,_,_,h=>by simp at h
 | c::cs,t,0,d,h=>by
  simp at h;subst h;rfl
 | c::cs,t,k+1,d,h=>by
  have:=vo (cs:=cs) (t:=t+1) (k:=k) (c:=d) (by simpa using h);rw[show t+(k+1)=t+1+k by omega];simpa [kA] using this
theorem vn:∀ {cs:List Str} {t:Nat},Vals (cs.map V.str) (kA cs t)
 | [],_=>.nil
 | c::cs,t=>.cons ⟨t,rfl⟩ vn
noncomputable def y0n (o:Obj) (cs:List Str) (t:Nat):Prop:=o.cls=.type "list" /\∃k,o.data=.seq (kA cs t).toArray k
section
variable {X:Cx} {n i j:Nat}
noncomputable def y0z (i:Nat) (cs:List Str) (u:Nat->TS):TS:=fun D σ H=>∀(NL:Addr) (o:Obj) (t m:Nat),H NL=none->1<=t->t+cs.length<=m->y0n o cs t->u m D (σ.set i (some (.ref NL))) (upd H NL (.frz o (.lst (cs.map V.str))))
theorem z5J {x:Str} {p p' lp pos:Pos} {c0 c1 c2 c3:Str} {k0 k1 k2 k3:Nat} {p0 p1 p2 p3:Pos} {rest:List Stmt} {u:Nat->TS} (n1:1<=n) (hN:X.N.Nodup) (hi:X.N[i]?=some x) (hx:Loc X.env.scope x)
  (h2:∀m,PSsN X m rest (u m))
  (hst:starEach [.Constant (.str c0) k0 p0,.Constant (.str c1) k1 p1,.Constant (.str c2) k2 p2,.Constant (.str c3) k3 p3] X.env=[(false,eval (.Constant (.str c0) k0 p0) X.env),(false,eval (.Constant (.str c1) k1 p1) X.env),(false,eval (.Constant (.str c2) k2 p2) X.env),(false,eval (.Constant (.str c3) k3 p3) X.env)]:=by rfl)
  (hs:swapsWith (.List [.Constant (.str c0) k0 p0,.Constant (.str c1) k1 p1,.Constant (.str c2) k2 p2,.Constant (.str c3) k3 p3] lp) (some (.Name x p')) pos.line X.env=pure false:=by rfl) (hf:X.fn x=true∨X.env.scope.names.lookup x=some .local:=by first|exact .inl rfl|exact .inr rfl|assumption) :
  PSsN X n (.Assign [.Name x p'] (.List [.Constant (.str c0) k0 p0,.Constant (.str c1) k1 p1,.Constant (.str c2) k2 p2,.Constant (.str c3) k3 p3] lp) pos::rest) (y0z i [c0,c1,c2,c3] u):=by
 intro pins s σ H D hn I h;obtain⟨hp,g,d,t,os⟩:=s;refine wpAny_execs_cons (wpAny_Assign_Name (wpAny_List_spliced ?_) hs);rw[hst];have I4:Inv X pins σ H ⟨hp,g,d,t+4,os⟩:=I.tok (t+4);have z:([c0,c1,c2,c3].map V.str).length<=sizeLine:=by rw[sizeLine_eq];show 4<=_;omega
 refine Calls.spliced_cons (Calls.Constant_str (k:=k0) (pos:=p0) (Calls.spliced_cons (Calls.Constant_str (k:=k1) (pos:=p1) (Calls.spliced_cons (Calls.Constant_str (k:=k2) (pos:=p2) (Calls.spliced_cons (Calls.Constant_str (k:=k3) (pos:=p3) (Calls.spliced_nil ⟨z,?_⟩))))))));have I5:=I4.laid (a:=hp.objs.size) (o:=.frz { cls:=.type "list",data:=.seq (kA [c0,c1,c2,c3] t).toArray } (.lst ([c0,c1,c2,c3].map V.str))) (h':=hp.push { cls:=.type "list",data:=.seq (kA [c0,c1,c2,c3] t).toArray }) (t':=t+4) (fun b u e=>Heap.get?_push_of_some _ e) (Nat.le_refl _) ⟨Heap.get?_push_size _ rfl,z,_,0,vn,Heap.get?_push_size _ rfl⟩;exact wpAny_with_toks (n:=t+4) (Nat.le_refl _) (yu (v:=V.ref hp.objs.size) I5 hN hi hx (show RelV (V.ref hp.objs.size) (Value.ref hp.objs.size) from rfl) (fun s2 I2 hn2=>h2 (t+4) pins s2 _ _ D hn2 I2 (h _ _ t (t+4) I.fresh (Nat.le_trans n1 hn) (Nat.le_refl _) ⟨rfl,0,rfl⟩)) hf)
noncomputable def nmB (D:Ends) (σ:St) (i:Nat):V->V->Hp->Prop
 | .ref a,y,H1=>∃(o:Obj) (cs:List Str) (t k:Nat) (c:Str),y=.int (k:Int)/\H1 a=some (.frz o (.lst (cs.map V.str)))/\y0n o cs t/\cs[k]?=some c/\k<1000/\D.nx (σ.set i (some (.stk c (t+k)))) H1
 | _,_,_=>False
noncomputable def y2V (i j:Nat) (ti:TE):TS:=fun D σ H=>∃NL:Addr,σ[j]?=some (some (.ref NL))/\ti σ H fun y H1=>nmB D σ i (.ref NL) y H1
theorem z8M {x y:Str} {p' p1 p2 pos:Pos} {b:Expr} {tb:TE} (hN:X.N.Nodup) (hi:X.N[i]?=some x) (hx:Loc X.env.scope x) (ha:PE X (.Name y p1) (z3q j)) (hb:PE X b tb) (hp:z7n b)
  (hs:swapsWith (.Subscript (.Name y p1) b p2) (some (.Name x p')) pos.line X.env=pure false:=by rfl) (hf:X.fn x=true∨X.env.scope.names.lookup x=some .local:=by first|exact .inl rfl|exact .inr rfl|assumption) :
  PSN X n (.Assign [.Name x p'] (.Subscript (.Name y p1) b p2) pos) (y2V i j tb):=by
 intro pins s σ H D hn I h;obtain⟨NL,hj,h⟩:=h;have h':z3q j σ H fun x H1=>tb σ H1 fun y H2=>nmB D σ i x y H2:=⟨.ref NL,hj,h⟩
 refine wpAny_Assign_Name (Subscript_ (y2O ha hb I h' fun v u s2 x y H2 I2 rx ry q=>?_)) hs;cases x with
 | ref a=>
  obtain rfl:v=Value.ref a:=rx;obtain⟨o,cs,t,k,c,rfl,ho,⟨hc,m,hd⟩,hk,k1,q⟩:=q;obtain⟨t',rfl⟩:=ry;have hg:=(show ObjOk X.prog X.w H2 s2.heap a (.frz o (.lst (cs.map V.str))) from I2.hok a _ ho).1;have hl:s2.heap.IsList a (kA cs t).toArray:=⟨o,hg,hc,m,hd⟩
  refine item_listR hl (by omega) (by omega) (by rw[Int.toNat_natCast];simpa using vo hk) ?_ (hp _ _);exact wN I2 hN hi hx (v:=.stk c (t+k)) rfl (fun s3 I3 _=>⟨_,H2,I3,q⟩) hf
 | _=>exact (show False from q).elim
end
end L2
set_option maxHeartbeats 4000000
open PySem L2 SM
local macro_rules | `(tactic| walk_at "wp")=>`(tactic| try simp only [z0L,z0T,z0c,wD,z0N,kK,kN,jr,kU,kT,z7x,z3p,z3o,z0J,z0F,z0H,z3l,z0I,z0G,z3u,z3r,z4I,z8J,z8I,z0t,z0s,kJ,z7y,z9B,z4o,z4p,z0d,z3t,z0Q,kZ,z0P,kM,z3v,z0R,kW,z0K,z0S,kY,z3w,jq,z0O,z4n,z0b,z4h,z3s,jL,kL,z3x,z0a,kI,z1V,wE,z1W,z0U,kx,ko,km,kn,kl,ky,z0M,wA,z1M,z1O,z1K,kj,wC,qG,z1N,z0V,z1H,ki,kS,z0W,z0p,jS,kP,kR,x8,kO,kQ,kX,z1I,L2.yo,z4r,wH,qO,List.map_cons,List.map_nil,List.length_cons,List.length_nil,List.replicate,List.cons_append,List.nil_append,List.append_nil,List.set_cons_zero,List.set_cons_succ,decide_eq_true_eq,Bool.not_eq_true',decide_eq_false_iff_not,Bool.not_eq_eq_eq_not,Bool.not_true,Bool.not_false,sizeLine_eq,oV,reduceCtorEq,z4e,z4f,z4d,z4g,Nat.reduceAdd,Nat.reduceSub,Nat.reduceLeDiff,Nat.zero_add,true_and,and_true,forall_const,Bool.false_eq_true,if_true,if_false,false_implies,true_implies,not_false_eq_true,not_true_eq_false,implies_true])
seal L2.PSs L2.PS L2.PE L2.PT L2.PA L2.PI L2.PG L2.PTs L2.PW L2.OpR
theorem L2.pA {p:Prop} (h:∀G:Prop,(p->G)->G):p:=h p id
theorem L2.bndC {P:List PySem.Value->Prop} {n:Nat} (h:∀(a:PySem.Value) (us:List PySem.Value),us.length=n->P (a::us)):∀us:List PySem.Value,us.length=n+1->P us
 | a::us,e=>h a us (Nat.succ.inj e)
theorem L2.bnd1 {P:List PySem.Value->Prop} (h:∀a:PySem.Value,P [a]):∀us:List PySem.Value,us.length=1->P us:=bndC fun a us e=>by rw[List.eq_nil_of_length_eq_zero e];exact h a
theorem L2.bnd2 {P:List PySem.Value->Prop} (h:∀a b:PySem.Value,P [a,b]):∀us:List PySem.Value,us.length=2->P us:=bndC fun a=>bnd1 (P:=fun us=>P (a::us)) (h a)
theorem L2.bnd3 {P:List PySem.Value->Prop} (h:∀a b c:PySem.Value,P [a,b,c]):∀us:List PySem.Value,us.length=3->P us:=bndC fun a=>bnd2 (P:=fun us=>P (a::us)) (h a)
theorem L2.bnd4 {P:List PySem.Value->Prop} (h:∀a b c d:PySem.Value,P [a,b,c,d]):∀us:List PySem.Value,us.length=4->P us:=bndC fun a=>bnd3 (P:=fun us=>P (a::us)) (h a)
namespace SMk84
open PySem L2 SM
noncomputable def top (i:Nat):Stmt:=PySem.Challenge.pw_shiftmeet_k84_worst_pair_grid.main.body.getD i (.Pass ⟨0,0,0,0⟩)
noncomputable abbrev wa:Stmt:=top 10
noncomputable abbrev xf:Stmt:=top 11
noncomputable abbrev jD:Stmt:=top 12
noncomputable abbrev jd:Stmt:=top 14
noncomputable abbrev qe:Stmt:=top 15
noncomputable abbrev ji:Stmt:=top 16
noncomputable abbrev w5:Stmt:=top 22
noncomputable abbrev jg:Stmt:=top 23
noncomputable abbrev z3F:Stmt:=top 24
noncomputable abbrev jC:Stmt:=top 25
noncomputable abbrev jB:Stmt:=top 27
noncomputable abbrev z6N:Stmt:=top 41
noncomputable abbrev xC:Stmt:=top 47
noncomputable abbrev z0o:Stmt:=top 48
noncomputable abbrev xR:Stmt:=top 52
noncomputable abbrev z0n:Stmt:=top 57
noncomputable abbrev xQ:Stmt:=top 58
noncomputable abbrev jA:Stmt:=top 64
noncomputable abbrev xP:Stmt:=top 65
noncomputable abbrev jc:Stmt:=top 66
noncomputable abbrev xb:Stmt:=top 67
noncomputable abbrev xc:Stmt:=top 68
noncomputable abbrev jF:Stmt:=top 69
noncomputable abbrev qW:Stmt:=top 80
noncomputable abbrev z6O:Stmt:=top 81
noncomputable abbrev w9:Stmt:=top 82
noncomputable abbrev w8:Stmt:=top 83
noncomputable abbrev jb:Stmt:=top 84
noncomputable abbrev xa:Stmt:=top 85
noncomputable abbrev xO:Stmt:=top 87
noncomputable abbrev w6:Stmt:=top 90
noncomputable abbrev jR:Stmt:=top 91
noncomputable abbrev qX:Stmt:=top 92
noncomputable abbrev qY:Stmt:=top 93
noncomputable abbrev qZ:Stmt:=top 94
noncomputable abbrev qc:Stmt:=top 95
noncomputable abbrev qd:Stmt:=top 96
noncomputable abbrev je:Stmt:=top 97
noncomputable abbrev jf:Stmt:=top 98
noncomputable abbrev jE:Stmt:=top 99
noncomputable abbrev z9r:Stmt:=top 100
noncomputable abbrev xD:Stmt:=z3U (top 79) 0
noncomputable abbrev jk:Stmt:=z3U (top 79) 1
noncomputable abbrev xS:Stmt:=z3U (top 79) 2
theorem jQ:FnScope ["one", "other", "rest"] ["one", "other"] (zK wa):=⟨rfl,rfl,rfl,by decide +kernel,rfl,by decide +kernel,by decide +kernel⟩
theorem yh:FnScope ["numbers", "whole", "number"] ["numbers"] (zK xf):=⟨rfl,rfl,rfl,by decide +kernel,rfl,by decide +kernel,by decide +kernel⟩
theorem yv:FnScope ["number", "small", "part"] ["number"] (zK jD):=⟨rfl,rfl,rfl,by decide +kernel,rfl,by decide +kernel,by decide +kernel⟩
theorem z1y:FnScope ["one", "other"] ["one", "other"] (zK jd):=⟨rfl,rfl,rfl,by decide +kernel,rfl,by decide +kernel,by decide +kernel⟩
theorem z3D:FnScope ["number"] ["number"] (zK qe):=⟨rfl,rfl,rfl,by decide +kernel,rfl,by decide +kernel,by decide +kernel⟩
theorem z2A:FnScope ["number"] ["number"] (zK ji):=⟨rfl,rfl,rfl,by decide +kernel,rfl,by decide +kernel,by decide +kernel⟩
theorem jP:FnScope ["rows", "period", "first", "length"] ["rows"] (zK w5):=⟨rfl,rfl,rfl,by decide +kernel,rfl,by decide +kernel,by decide +kernel⟩
theorem z1z:FnScope ["period", "first", "length"] ["period", "first", "length"] (zK jg):=⟨rfl,rfl,rfl,by decide +kernel,rfl,by decide +kernel,by decide +kernel⟩
theorem kh:FnScope ["plan", "turn", "period", "first", "length"] ["plan", "turn"] (zK z3F):=⟨rfl,rfl,rfl,by decide +kernel,rfl,by decide +kernel,by decide +kernel⟩
theorem yR:FnScope ["plan", "turn", "turns", "period", "first", "length", "rest"] ["plan", "turn"] (zK jC):=⟨rfl,rfl,rfl,by decide +kernel,rfl,by decide +kernel,by decide +kernel⟩
theorem z0l:FnScope ["plan"] ["plan"] (zK jB):=⟨rfl,rfl,rfl,by decide +kernel,rfl,by decide +kernel,by decide +kernel⟩
theorem z3E:FnScope ["plan", "whole", "turn"] ["plan"] (zK z6N):=⟨rfl,rfl,rfl,by decide +kernel,rfl,by decide +kernel,by decide +kernel⟩
theorem yp:FnScope ["one", "other", "common", "first"] ["one", "other"] (zK xC):=⟨rfl,rfl,rfl,by decide +kernel,rfl,by decide +kernel,by decide +kernel⟩
theorem wV:FnScope ["one", "other", "plan", "waking"] ["one", "other"] (zK z0o):=⟨rfl,rfl,rfl,by decide +kernel,rfl,by decide +kernel,by decide +kernel⟩
theorem wW:FnScope ["one", "other"] ["one", "other"] (zK xR):=⟨rfl,rfl,rfl,by decide +kernel,rfl,by decide +kernel,by decide +kernel⟩
theorem yQ:FnScope ["one", "other", "turns", "ways", "ones", "others", "found", "shift", "both", "longest"] ["one", "other"] (zK z0n):=⟨rfl,rfl,rfl,by decide +kernel,rfl,by decide +kernel,by decide +kernel⟩
theorem yF:FnScope ["both", "wait", "found", "turn"] ["both"] (zK xQ):=⟨rfl,rfl,rfl,by decide +kernel,rfl,by decide +kernel,by decide +kernel⟩
theorem z0k:FnScope ["plan"] ["plan"] (zK jA):=⟨rfl,rfl,rfl,by decide +kernel,rfl,by decide +kernel,by decide +kernel⟩
theorem xz:FnScope ["waking", "numbers"] ["waking"] (zK xP):=⟨rfl,rfl,rfl,by decide +kernel,rfl,by decide +kernel,by decide +kernel⟩
theorem qv:FnScope ["text", "words"] ["text"] (zK jc):=⟨rfl,rfl,rfl,by decide +kernel,rfl,by decide +kernel,by decide +kernel⟩
theorem j6:FnScope ["word", "numbers"] ["word"] (zK xb):=⟨rfl,rfl,rfl,by decide +kernel,rfl,by decide +kernel,by decide +kernel⟩
theorem vS:FnScope ["text"] ["text"] (zK xc):=⟨rfl,rfl,rfl,by decide +kernel,rfl,by decide +kernel,by decide +kernel⟩
theorem z0m:FnScope ["text", "most"] ["text", "most"] (zK jF):=⟨rfl,rfl,rfl,by decide +kernel,rfl,by decide +kernel,by decide +kernel⟩
theorem xA:FnScope ["row", "form", "words", "place", "word"] ["row"] (zK qW):=⟨rfl,rfl,rfl,by decide +kernel,rfl,by decide +kernel,by decide +kernel⟩
theorem z9q:FnScope ["place", "word"] ["place", "word"] (zK z6O):=⟨rfl,rfl,rfl,by decide +kernel,rfl,by decide +kernel,by decide +kernel⟩
theorem z5I:FnScope ["word"] ["word"] (zK w9):=⟨rfl,rfl,rfl,by decide +kernel,rfl,by decide +kernel,by decide +kernel⟩
theorem z5H:FnScope ["word"] ["word"] (zK w8):=⟨rfl,rfl,rfl,by decide +kernel,rfl,by decide +kernel,by decide +kernel⟩
theorem z1x:FnScope ["words"] ["words"] (zK jb):=⟨rfl,rfl,rfl,by decide +kernel,rfl,by decide +kernel,by decide +kernel⟩
theorem vR:FnScope ["turn"] ["turn"] (zK xa):=⟨rfl,rfl,rfl,by decide +kernel,rfl,by decide +kernel,by decide +kernel⟩
theorem yO:FnScope ["one", "other", "found", "wait", "shift", "turn"] ["one", "other"] (zK xO):=⟨rfl,rfl,rfl,by decide +kernel,rfl,by decide +kernel,by decide +kernel⟩
theorem z5G:FnScope ["cell"] ["cell"] (zK w6):=⟨rfl,rfl,rfl,by decide +kernel,rfl,by decide +kernel,by decide +kernel⟩
theorem wY:FnScope ["e", "some"] ["e"] (zK jR):=⟨rfl,rfl,rfl,by decide +kernel,rfl,by decide +kernel,by decide +kernel⟩
theorem zo:FnScope ["desk", "row", "caught", "found", "e"] ["desk", "row"] (zK qX):=⟨rfl,rfl,rfl,by decide +kernel,rfl,by decide +kernel,by decide +kernel⟩
theorem xB:FnScope ["number", "plan", "k", "period"] ["number"] (zK qY):=⟨rfl,rfl,rfl,by decide +kernel,rfl,by decide +kernel,by decide +kernel⟩
theorem wX:FnScope ["number", "primes"] ["number"] (zK qZ):=⟨rfl,rfl,rfl,by decide +kernel,rfl,by decide +kernel,by decide +kernel⟩
theorem zc:FnScope ["number", "caught", "plan", "one", "other", "words", "e", "many"] ["number"] (zK qc):=⟨rfl,rfl,rfl,by decide +kernel,rfl,by decide +kernel,by decide +kernel⟩
theorem yf:FnScope ["desk", "plans", "name", "number", "words", "plan", "kind", "due"] ["desk", "plans", "name", "number"] (zK qd):=⟨rfl,rfl,rfl,by decide +kernel,rfl,by decide +kernel,by decide +kernel⟩
theorem yH:FnScope ["desk", "plans", "one", "other", "due", "turns", "many", "found"] ["desk", "plans", "one", "other"] (zK je):=⟨rfl,rfl,rfl,by decide +kernel,rfl,by decide +kernel,by decide +kernel⟩
theorem yj:FnScope ["desk", "plans", "name", "turn", "due", "found"] ["desk", "plans", "name", "turn"] (zK jf):=⟨rfl,rfl,rfl,by decide +kernel,rfl,by decide +kernel,by decide +kernel⟩
theorem yC:FnScope ["desk", "plans", "names", "number", "one", "other", "name", "wait", "shift", "turn", "due"] ["desk", "plans", "names", "number"] (zK jE):=⟨rfl,rfl,rfl,by decide +kernel,rfl,by decide +kernel,by decide +kernel⟩
theorem xm:FnScope ["script", "desk", "names", "plans", "cell", "number", "name", "good"] ["script"] (zK z9r):=⟨rfl,rfl,rfl,by decide +kernel,rfl,by decide +kernel,by decide +kernel⟩
theorem kD:FnScope ["self", "text"] ["self"] (zK xD):=⟨rfl,rfl,rfl,by decide +kernel,rfl,by decide +kernel,by decide +kernel⟩
theorem yk:FnScope ["self", "row", "words", "paper", "one", "other"] ["self", "row"] (zK jk):=⟨rfl,rfl,rfl,by decide +kernel,rfl,by decide +kernel,by decide +kernel⟩
theorem w4:FnScope ["self", "name"] ["self", "name"] (zK xS):=⟨rfl,rfl,rfl,by decide +kernel,rfl,by decide +kernel,by decide +kernel⟩
section
variable {P:Program} {w:World} {K:PySem.W.Frag} {mg:Str->Option Value} {base:Heap}
noncomputable def qU:Sp:=fun vs H Q _=>∃a b:Int,vs=[.int a,.int b]/\0<=a/\0<=b/\Q (.int (zx a b)) H
theorem z7G (T:TF K mg "divisor" wa):Has P w K mg base 1 "divisor" ["one", "other"] qU:=by
 refine T.has jQ (fun _ _ _ _ _ _=>L2.bnd2 fun _ _=>rfl) (fun vs H Q E h=>?_) (fun f cdv A outer s H vs Q E hr h=>?_)
 ·refine pA fun Ga hU=>?_;obtain⟨a,b,rfl,_⟩:=h;refine hU ?_;rfl
 refine pA fun Gb hV=>?_;obtain⟨a,b,rfl,ha,hb,q⟩:=h;refine hV ?_;refine⟨_,(zC (z4N PassesOwn.never (zN z6b (pv 1) zF (zW _)) (zC (zP (i:=2) jQ.nd rfl (Or.inl rfl) (zM zr (pv 0) (pv 1))) (zC (zP (i:=0) jQ.nd rfl (Or.inl rfl) (pv 1)) (zJ (zP (i:=1) jQ.nd rfl (Or.inl rfl) (pv 2)))))) (zJ (zR (pv 0)))),?_⟩;walk_at "wp";obtain⟨W,hW⟩:∃W:Nat->St->Hp->Prop,W=fun m σ H'=>∃(x y:Int) (r:Option V),σ=[some (.int x),some (.int y),r]/\H'=H/\0<=x/\0<=y/\zx x y=zx a b/\m=y.toNat:=⟨_,rfl⟩
 refine⟨W,⟨b.toNat,by rw[hW];exact⟨a,b,none,rfl,rfl,ha,hb,rfl,rfl⟩⟩,fun m σ H' h=>?_⟩;rw[hW] at h;refine pA fun Gc gB=>?_;obtain⟨x,y,r,rfl,rfl,hx,hy,e,rfl⟩:=h;refine gB ?_;walk_at "wp";refine⟨fun c=>?_,fun c=>?_⟩
 ·have m1:=Int.emod_nonneg x c;have m2:=Int.emod_lt_of_pos x (show 0<y by omega);refine⟨_,fun _ _ h=>h,?_⟩;walk_at "wp";refine⟨by omega,(x%y).toNat,by omega,?_⟩;rw[hW];exact⟨y,x%y,_,rfl,rfl,hy,m1,by rw[z2c,e],rfl⟩
 ·have c':y=0:=by omega
  subst c';rw[z2b hx] at e;rw[e];exact q
theorem z8N {x:Int} {n k:Nat} (h0:0<=x) (h:x<=(2^n)^k):x.natAbs<2^(n*k+1):=by
 rw[←Int.pow_mul] at h;have e:((2^(n*k):Nat):Int)=2^(n*k):=by rw[Int.natCast_pow];rfl
 rw[←e] at h;rw[Nat.pow_succ];have:0<2^(n*k):=Nat.pow_pos (by decide);omega
noncomputable def xN (K:PySem.W.Frag):Sp:=fun vs H Q _=>∃(L:Addr) (zs:List Int),vs=[.ref L]/\SqL K H L (zs.map V.int)/\zs.length<=200/\(∀z∈zs,1<=z/\z<=2^1000)/\Q (.int (yV zs)) H
theorem z8c {zs:List Int} {z:Int} (hl:zs.length<=200) (h:∀z∈zs,1<=z/\z<=2^1000) (z0:0<=z) (z1:z<=2^1000):IntMulOk (yV zs) z:=by
 have p1:=yL (xs:=zs) fun x hx=>(h x hx).1;have p2:=z6p (B:=2^1000) (by decide) h;exact mok (1000*zs.length+1) 1001 (z8N (by omega) p2) (by omega) (by omega)
theorem z1R (T:TF K mg "least_round" xf) (G_divisor:Has P w K mg base 1 "divisor" ["one", "other"] qU):Has P w K mg base 2 "least_round" ["numbers"] (xN K):=by
 refine T.has yh (fun _ _ _ _ _ _=>L2.bnd1 fun _=>rfl) (fun vs H Q E h=>?_) (fun f cdv A outer s H vs Q E hr h=>?_)
 ·refine pA fun Ge gC=>?_;obtain⟨a,b,rfl,_⟩:=h;refine gC ?_;rfl
 refine pA fun Gf gG=>?_;obtain⟨L,zs,rfl,hS,hl,hz,q⟩:=h;refine gG ?_;refine⟨_,(zC (zP (i:=1) yh.nd rfl (Or.inl rfl) zF) (zC (xZ PassesOwn.never rfl (y7 (pv 0)) (zY (i:=2) yh.nd rfl (Or.inl rfl)) (zJ (zP (i:=1) yh.nd rfl (Or.inl rfl) (zM jH (pv 1) (zM zm (pv 2) (zV (G_divisor.mono (by first|decide|omega)) hr (zB (pv 1) (zB (pv 2) zE)))))))) (zJ (zR (pv 1))))),?_⟩;walk_at "wp";refine⟨⟨_,hS⟩,?_⟩;obtain⟨W,hW⟩:∃W:Nat->St->Hp->Prop,W=fun i σ H'=>∃o,σ=[some (.ref L),some (.int (yV (zs.take i))),o]/\H'=H:=⟨_,rfl⟩
 refine ym (xs:=zs.map V.int) W ?_ (fun j σ H2 _ z=>?_) (fun j x σ H2 hx z=>?_) (fun σ H2 z=>?_)
 ·rw[hW];exact⟨_,rfl,rfl⟩
 ·rw[hW] at z;refine pA fun Gg gH=>?_;obtain⟨_,_,rfl⟩:=z;refine gH ?_;exact hS
 ·rw[hW] at z;refine pA fun Gh gI=>?_;obtain⟨o,rfl,rfl⟩:=z;refine gI ?_;rw[List.getElem?_map] at hx;refine pA fun Gi gJ=>?_;obtain⟨x,hy,rfl⟩:=Option.map_eq_some_iff.mp hx;refine gJ ?_;have hx1:=hz x (List.mem_of_getElem? hy);have ht:∀z∈zs.take j,1<=z/\z<=2^1000:=fun z hz'=>hz z (List.mem_of_mem_take hz');have p1:=yL (xs:=zs.take j) fun x hx=>(ht x hx).1;have lt:(zs.take j).length<=200:=by rw[List.length_take];omega
  have gp:=y8 (a:=yV (zs.take j)) (b:=x) (by omega);have gl:zx (yV (zs.take j)) x<=x:=by rw[vK];exact jJ _ (by omega)
  walk_at "wp";refine⟨_,_,rfl,by omega,by omega,?_⟩;walk_at "wp";refine⟨y3M 1001 gp (by omega) (by decide),z8c lt ht (Int.ediv_nonneg (by omega) (by omega)) (Int.le_trans (Int.ediv_le_self _ (by omega)) hx1.2),?_⟩;rw[hW];refine⟨some (.int x),?_,rfl⟩;rw[List.take_add_one,hy];show _=[_,some (V.int (yV (zs.take j++[x]))),_]
  rw[z6o];rfl
 ·rw[hW] at z;refine pA fun Gj gK=>?_;obtain⟨o,rfl,rfl⟩:=z;refine gK ?_;rw[List.length_map,List.take_length];walk_at "wp";exact q
noncomputable def jt:Sp:=fun vs H Q _=>∃n:Int,vs=[.int n]/\2<=n/\n<2^60/\∀d H',IsPart n d->Same H H'->Q (.int d) H'
theorem z8A {q n:Int} (h0:0<=q) (h:q*q<=n) (hn:n<2^60):q<2^30:=by
 by_cases c:q<2^30
 ·exact c
 ·exfalso;have:=Int.mul_le_mul (show (2:Int)^30<=q by omega) (show (2:Int)^30<=q by omega) (by decide) h0;omega
theorem y2Z {q:Int} (h0:1<=q):q<=q*q:=by
 have:=Int.mul_le_mul_of_nonneg_left h0 (show 0<=q by omega);omega
theorem z2Z (T:TF K mg "least_part" jD):Has P w K mg base 1 "least_part" ["number"] jt:=by
 refine T.has yv (fun _ _ _ _ _ _=>L2.bnd1 fun _=>rfl) (fun vs H Q E h=>?_) (fun f cdv A outer s H vs Q E hr h=>?_)
 ·refine pA fun Gk gL=>?_;obtain⟨a,rfl,_⟩:=h;refine gL ?_;rfl
 refine pA fun Gm gM=>?_;obtain⟨n,rfl,h2,h60,q⟩:=h;refine gM ?_;refine⟨_,(zC (xZ PassesOwn.never rfl (z9T (yl (zB zF (zB zF zE)))) (zY (i:=1) yv.nd rfl (Or.inl rfl)) (zJ (zl (zN yt (zM zr (pv 0) (pv 1)) zF (zW _)) (zJ (zR (pv 1))) zL))) (zC (zP (i:=2) yv.nd rfl (Or.inl rfl) zF) (zC (z4N PassesOwn.never (zN z2J (zM jH (pv 2) (pv 2)) (pv 0) (zW _)) (zC (zl (zN yt (zM zr (pv 0) (pv 2)) zF (zW _)) (zJ (zR (pv 2))) zL) (zC (zl (zN yt (zM zr (pv 0) (zM j8 (pv 2) zF)) zF (zW _)) (zJ (zR (zM j8 (pv 2) zF))) zL) (zJ (y1W (i:=2) yv.nd rfl (Or.inl rfl) zF y1t))))) (zJ (zR (pv 0)))))),?_⟩;walk_at "wp";intro p hp;have g:Same H (upd H p (.tup [.int 2,.int 3])):=zH hp _;refine⟨⟨_,SqT.of zG⟩,?_⟩;obtain⟨W,hW⟩:∃W:Nat->St->Hp->Prop,W=fun i σ H'=>∃o,σ=[some (.int n),o,none]/\H'=upd H p (.tup [.int 2,.int 3])/\(1<=i->n%2≠0)/\(2<=i->n%3≠0):=⟨_,rfl⟩
 refine z8u (xs:=[.int 2,.int 3]) W (by rw[hW];exact⟨none,rfl,rfl,by omega,by omega⟩) (fun i σ H' _ h=>?_) (fun i x σ H' hx h=>?_) (fun σ H' h=>?_)
 ·rw[hW] at h;refine pA fun Gn gO=>?_;obtain⟨_,_,rfl,_⟩:=h;refine gO ?_;exact SqT.of zG
 ·rw[hW] at h;refine pA fun Go gP=>?_;obtain⟨o,rfl,rfl,k2,k3⟩:=h;refine gP ?_
  match i,hx with
  | 0,hx=>
   cases hx;walk_at "wp";refine⟨by decide,fun c=>q 2 _ ⟨by decide,Int.dvd_of_emod_eq_zero c,fun d d1 d2=>by omega⟩ g,fun c=>?_⟩;rw[hW];exact⟨_,rfl,rfl,fun _=>c,by omega⟩
  | 1,hx=>
   cases hx;walk_at "wp";refine⟨by decide,fun c=>q 3 _ ⟨by decide,Int.dvd_of_emod_eq_zero c,fun d d1 d2=>?_⟩ g,fun c=>?_⟩
   ·have:d=2:=by omega
    subst this;exact yB (k2 (by omega))
   ·rw[hW];exact⟨_,rfl,rfl,fun _=>k2 (by omega),fun _=>c⟩
  | i+2,hx=>simp at hx
 ·rw[hW] at h;refine pA fun Gp gQ=>?_;obtain⟨o,rfl,rfl,k2,k3⟩:=h;refine gQ ?_;have k2:=k2 (by decide);have k3:=k3 (by decide);walk_at "wp";obtain⟨Z,hZ⟩:∃Z:Nat->St->Hp->Prop,Z=fun m σ H'=>∃(q:Int),σ=[some (.int n),o,some (.int q)]/\H'=upd H p (.tup [.int 2,.int 3])/\NoPart n q/\q%6=5/\5<=q/\q<2^31/\m=(n+6-q).toNat:=⟨_,rfl⟩
  refine⟨Z,⟨(n+6-5).toNat,by rw[hZ];exact⟨5,rfl,rfl,NoPart.five k2 k3,by decide,by decide,by decide,rfl⟩⟩,fun m σ H' h=>?_⟩;rw[hZ] at h;refine pA fun Gq gR=>?_;obtain⟨t,rfl,rfl,np,t6,t5,t31,rfl⟩:=h;refine gR ?_;walk_at "wp";refine⟨y3k (by omega) (by omega),fun c=>?_,fun c=>?_⟩
  ·have tl:=z8A (by omega) c h60;have tg:=y2Z (show 1<=t by omega);refine⟨_,fun _ _ h=>h,?_⟩;walk_at "wp";refine⟨by omega,fun c1=>q t _ ⟨by omega,Int.dvd_of_emod_eq_zero c1,np⟩ g,fun c1=>⟨by omega,fun c2=>q (t+2) _ ⟨by omega,Int.dvd_of_emod_eq_zero c2,np.two_on k2 t6 c1⟩ g,fun c2=>?_⟩⟩;refine⟨(n+6-(t+6)).toNat,by omega,?_⟩;rw[hZ];exact⟨t+6,rfl,rfl,np.six k2 k3 t6 c1 c2,by omega,by omega,by omega,rfl⟩
  ·exact q n _ (vF h2 np (by omega) (by omega)) g
noncomputable def awk (w:T3) (t:Int):Bool:=decide ((t-w.2.1)%w.1<w.2.2)
noncomputable def zu (ws:List T3) (t:Int):Bool:=ws.any fun w=>awk w t
noncomputable def z0g (K:PySem.W.Frag):Sp:=fun vs H Q _=>∃(a:Addr) (t:Int) (xs:List V) (ws:List T3),vs=[.ref a,.int t]/\SqL K H a xs/\Pl H xs ws/\(∀u∈ws,1<=u.1)/\Q (.bl (zu ws t)) H
theorem z9H {α:Type} {f:α->Bool} {l:List α} {i:Nat} {x:α} (e:l[i]?=some x):(l.take (i+1)).any f=((l.take i).any f || f x):=by
 rw[List.take_add_one,e,List.any_append];simp
theorem z9G {α:Type} {f:α->Bool} {l:List α} {i:Nat} {x:α} (e:l[i]?=some x) (h:f x=true):l.any f=true:=List.any_eq_true.mpr ⟨x,List.mem_of_getElem? e,h⟩
theorem y0Z (T:TF K mg "awake" z3F):Has P w K mg base 1 "awake" ["plan", "turn"] (z0g K):=by
 refine T.has kh (fun _ _ _ _ _ _=>L2.bnd2 fun _ _=>rfl) (fun vs H Q E h=>?_) (fun f cdv A outer s H vs Q E hr h=>?_)
 ·refine pA fun Gu gU=>?_;obtain⟨a,t,xs,ws,rfl,_⟩:=h;refine gU ?_;rfl
 refine pA fun Gv gW=>?_;obtain⟨a,t,xs,ws,rfl,hS,hP,hw,q⟩:=h;refine gW ?_;refine⟨_,(zC (xZ PassesOwn.never rfl (y7 (pv 0)) (we rfl (zj (zY (i:=2) kh.nd rfl (Or.inl rfl)) (zj (zY (i:=3) kh.nd rfl (Or.inl rfl)) (zj (zY (i:=4) kh.nd rfl (Or.inl rfl)) xg)))) (zJ (zl (zN z2I (zM zr (zM j7 (pv 1) (pv 3)) (pv 2)) (pv 4) (zW _)) (zJ (zR jx)) zL))) (zJ (zR jx))),?_⟩;walk_at "wp";refine⟨⟨_,hS⟩,?_⟩;obtain⟨W,hW⟩:∃W:Nat->St->Hp->Prop,W=fun i σ H'=>∃o1 o2 o3:Option V,σ=[some (.ref a),some (.int t),o1,o2,o3]/\H'=H/\(ws.take i).any (fun w=>awk w t)=false:=⟨_,rfl⟩
 refine ym (xs:=xs) W ?_ (fun i σ H' _ z=>?_) (fun i x σ H' hx z=>?_) (fun σ H' z=>?_)
 ·rw[hW];exact⟨none,none,none,rfl,rfl,rfl⟩
 ·rw[hW] at z;refine pA fun Gw fA=>?_;obtain⟨_,_,_,_,rfl,_⟩:=z;refine fA ?_;exact hS
 ·rw[hW] at z;refine pA fun Gx fB=>?_;obtain⟨o1,o2,o3,rfl,rfl,ha⟩:=z;refine fB ?_;refine pA fun Gy fE=>?_;obtain⟨p,u,e1,rfl,e3⟩:=hP.at hx;refine fE ?_;refine⟨p,_,rfl,SqT.of e3,rfl,?_⟩;have u1:=hw u (List.mem_of_getElem? e1);walk_at "wp";refine⟨by omega,fun c=>?_,fun c=>?_⟩
  ·have e:zu ws t=true:=z9G e1 (decide_eq_true c);rw[e] at q;exact q
  ·rw[hW];exact⟨_,_,_,rfl,rfl,by rw[z9H e1,ha];exact decide_eq_false c⟩
 ·rw[hW] at z;refine pA fun Gz fF=>?_;obtain⟨o1,o2,o3,rfl,rfl,ha⟩:=z;refine fF ?_;rw[hP.1,List.take_length] at ha;walk_at "wp";have e:zu ws t=false:=ha;rw[e] at q;exact q
noncomputable def y6 (K:PySem.W.Frag):Sp:=fun vs H Q _=>∃(a:Addr) (xs:List V) (ws:List T3),vs=[.ref a]/\SqL K H a xs/\Pl H xs ws/\(∀u∈ws,1<=u.1/\u.1<=2^1000)/\ws.length<=200/\∀H',Same H H'->Q (.int (yV (ws.map (·.1)))) H'
theorem z2X (T:TF K mg "plan_round" jB) (G_least_round:Has P w K mg base 2 "least_round" ["numbers"] (xN K)):Has P w K mg base 3 "plan_round" ["plan"] (y6 K):=by
 refine T.has z0l (fun _ _ _ _ _ _=>L2.bnd1 fun _=>rfl) (fun vs H Q E h=>?_) (fun f cdv A outer s H vs Q E hr h=>?_)
 ·refine pA fun G0 fG=>?_;obtain⟨a,xs,ws,rfl,_⟩:=h;refine fG ?_;rfl
 refine pA fun Fa fH=>?_;obtain⟨a,xs,ws,rfl,hS,hP,hw,hlen,q⟩:=h;refine fH ?_;refine⟨_,(zJ (zR (zV (G_least_round.mono (by first|decide|omega)) hr (zB (xV (CompSc.none (own:=["period", "first", "length"]) (by decide +kernel) (by decide +kernel) rfl (by decide +kernel)) rfl (y7 (pv 0)) (fun _ _ _=>(show PG _ _ (y3L K 3 (z7I (qH 0) (z7I (qH 1) (z7I (qH 2) y2o)))) from we (n:=3) rfl (zj (zY (i:=0) (show (["period", "first", "length"]:List Str).Nodup from by decide +kernel) rfl (Or.inl rfl) (Or.inr rfl)) (zj (zY (i:=1) (show (["period", "first", "length"]:List Str).Nodup from by decide +kernel) rfl (Or.inl rfl) (Or.inr rfl)) (zj (zY (i:=2) (show (["period", "first", "length"]:List Str).Nodup from by decide +kernel) rfl (Or.inl rfl) (Or.inr rfl)) xg))))) (fun _ _ _=>yq) (fun _ _ _=>(pv 0))) zE)))),?_⟩;walk_at "wp";refine⟨⟨_,hS⟩,?_⟩;obtain⟨Sv,hSv⟩:∃Sv:St->Prop,Sv=fun σ=>∃o1 o2 o3,σ=[o1,o2,o3]:=⟨_,rfl⟩
 obtain⟨Pv,hPv⟩:∃Pv:Addr->Nat->List V->Hp->Prop,Pv=fun D i ys H2=>H D=none/\Same H H2/\ys=((ws.take i).map (·.1)).map V.int:=⟨_,rfl⟩
 refine yz (xs:=xs) Sv Pv (by rw[hSv];exact⟨none,none,none,rfl⟩) (fun D hD=>?_) (fun D i ys H2 hD h=>?_) (fun D i x ys σ H2 hx hi hs hD hy h=>?_) (fun D ys H2 hD h=>?_)
 ·rw[hPv];exact⟨hD,zH hD _,rfl⟩
 ·rw[hPv] at h;exact h.2.1.seq hS
 ·rw[hSv] at hs;rw[hPv] at h;refine pA fun Fb fI=>?_;obtain⟨o1,o2,o3,rfl⟩:=hs;refine fI ?_;refine pA fun Ga hU=>?_;obtain⟨nD,g,rfl⟩:=h;refine hU ?_;refine pA fun Gb hV=>?_;obtain⟨p,u,e1,rfl,e3⟩:=hP.at hx;refine hV ?_;rw[hP.1] at hi;refine⟨p,_,rfl,SqT.of (g _ _ e3),rfl,?_⟩;walk_at "wp";refine CompP.mk hD hy (by rw[sizeLine_eq];omega) (by rw[hSv];exact⟨_,_,_,rfl⟩) (by
   rw[hPv];refine⟨nD,g.write nD _,?_⟩;rw[List.take_add_one,e1];simp)
 ·rw[hPv] at h;refine pA fun Gc gB=>?_;obtain⟨nD,g,rfl⟩:=h;refine gB ?_;rw[hP.1,List.take_length] at hD;walk_at "wp";refine⟨D,ws.map (·.1),rfl,SqL.of hD,by simpa using hlen,fun z hz=>?_,q _ g⟩;refine pA fun Ge gC=>?_;obtain⟨u,hu,rfl⟩:=List.mem_map.mp hz;refine gC ?_;exact hw u hu
theorem jm {ws:List T3} {L:Int} (h:∀u∈ws,u.1∣L) (t:Int):zu ws (t+L)=zu ws t:=by
 unfold zu;refine Bool.eq_iff_iff.mpr ?_;rw[List.any_eq_true,List.any_eq_true];have e:∀u∈ws,awk u (t+L)=awk u t:=fun u hu=>by
  obtain⟨k,hk⟩:=h u hu;have e1:t+L-u.2.1=(t-u.2.1)+u.1*k:=by omega
  unfold awk;rw[e1,Int.add_mul_emod_self_left]
 exact⟨fun⟨u,hu,z⟩=>⟨u,hu,by rw[e u hu] at z;exact z⟩,fun⟨u,hu,z⟩=>⟨u,hu,by rw[e u hu];exact z⟩⟩
noncomputable def xY (ws:List T3) (n:Nat):Option Int:=((List.range n).find? fun i:Nat=>!zu ws (i:Int)).map fun i:Nat=>(i:Int)
theorem z5S {ws:List T3} {n i:Nat} (hi:i<n) (h:zu ws (i:Int)=false) (hb:∀j:Nat,j<i->zu ws (j:Int)=true):xY ws n=some (i:Int):=by
 unfold xY;rw[List.find?_range_eq_some.mpr ⟨by simp [h],List.mem_range.mpr hi,fun j hj=>by simp [hb j hj]⟩];rfl
theorem z5T {ws:List T3} {n:Nat} (h:∀i:Nat,i<n->zu ws (i:Int)=true):xY ws n=none:=by
 unfold xY;rw[List.find?_range_eq_none.mpr fun i hi=>by simp [h i hi]];rfl
theorem z5R {ws:List T3} {n:Nat}:(∃i:Nat,xY ws n=some (i:Int)/\i<n/\zu ws (i:Int)=false/\∀j:Nat,j<i->zu ws (j:Int)=true)∨(xY ws n=none/\∀i:Nat,i<n->zu ws (i:Int)=true):=by
 cases e:(List.range n).find? fun i:Nat=>!zu ws (i:Int) with
 | none=>
  right;refine⟨by unfold xY;rw[e];rfl,fun i hi=>?_⟩;have:=List.find?_range_eq_none.mp e i hi;simpa using this
 | some i=>
  left;refine pA fun Gf gG=>?_;obtain⟨h1,h2,h3⟩:=List.find?_range_eq_some.mp e;refine gG ?_;refine⟨i,by unfold xY;rw[e];rfl,List.mem_range.mp h2,by simpa using h1,fun j hj=>by simpa using h3 j hj⟩
noncomputable def z6J (K:PySem.W.Frag):Sp:=fun vs H Q _=>∃(a:Addr) (xs:List V) (ws:List T3),vs=[.ref a]/\SqL K H a xs/\Pl H xs ws/\(∀u∈ws,1<=u.1/\u.1<=2^1000)/\ws.length<=200/\yV (ws.map (·.1))<=5000/\∀H',Same H H'->Q (oV (xY ws (yV (ws.map (·.1))).toNat)) H'
theorem y1z (T:TF K mg "hole" z6N) (m_range:mg "range" = none) (c_LONGEST_ROUND:CI mg "LONGEST_ROUND" 5000) (G_plan_round:Has P w K mg base 3 "plan_round" ["plan"] (y6 K)) (G_awake:Has P w K mg base 1 "awake" ["plan", "turn"] (z0g K)):Has P w K mg base 4 "hole" ["plan"] (z6J K):=by
 refine T.has z3E (fun _ _ _ _ _ _=>L2.bnd1 fun _=>rfl) (fun vs H Q E h=>?_) (fun f cdv A outer s H vs Q E hr h=>?_)
 ·refine pA fun Gg gH=>?_;obtain⟨a,xs,ws,rfl,_⟩:=h;refine gH ?_;rfl
 refine pA fun Gh gI=>?_;obtain⟨a,xs,ws,rfl,hS,hP,hw,hlen,hL,q⟩:=h;refine gI ?_;refine⟨_,(zC (zP (i:=1) z3E.nd rfl (Or.inl rfl) (zV (G_plan_round.mono (by first|decide|omega)) hr (zB (pv 0) zE))) (zC (zl (zN z3N (pv 1) (vV rfl c_LONGEST_ROUND) (zW _)) (zJ yJ) zL) (zC (xZ PassesOwn.never rfl (x5 rfl m_range (zB (pv 1) zE)) (zY (i:=2) z3E.nd rfl (Or.inl rfl)) (zJ (zl (xn (yd (zV (G_awake.mono (by first|decide|omega)) hr (zB (pv 0) (zB (pv 2) zE))) (fun _=>rfl))) (zJ (zR (pv 2))) zL))) (zJ (zR ye))))),?_⟩;walk_at "wp";refine⟨a,xs,ws,rfl,hS,hP,hw,hlen,fun H1 g1=>?_⟩;have L1:=yL (xs:=ws.map (·.1)) fun z hz=>by
  refine pA fun Gi gJ=>?_;obtain⟨u,hu,rfl⟩:=List.mem_map.mp hz;refine gJ ?_;exact (hw u hu).1
 generalize yV (ws.map (·.1))=L at hL L1 q;walk_at "wp";refine⟨fun c=>by omega,fun _=>⟨_,rfl,by omega,by omega,?_⟩⟩;obtain⟨W,hW⟩:∃W:Nat->St->Hp->Prop,W=fun i σ H'=>∃o:Option V,σ=[some (.ref a),some (.int L),o]/\H'=H1/\∀j:Nat,j<i->zu ws (j:Int)=true:=⟨_,rfl⟩
 refine qo W ?_ (fun i σ H' hi z=>?_) (fun σ H' z=>?_)
 ·rw[hW];exact⟨none,rfl,rfl,fun j hj=>absurd hj (Nat.not_lt_zero _)⟩
 ·rw[hW] at z;refine pA fun Gj gK=>?_;obtain⟨o,rfl,rfl,hj⟩:=z;refine gK ?_;have e0:(0:Int)+(i:Int)=i:=by omega
  walk_at "wp";rw[e0];refine⟨_,_,xs,ws,rfl,g1.seq hS,hP.same g1,fun u hu=>(hw u hu).1,?_⟩;cases c:zu ws (i:Int) with
  | true=>
   walk_at "wp";rw[hW];refine⟨_,rfl,rfl,fun j hj2=>?_⟩;rcases Nat.lt_succ_iff_lt_or_eq.mp hj2 with z|z
   ·exact hj j z
   ·rw[z];exact c
  | false=>
   walk_at "wp";have q1:=q H' g1;rw[z5S hi c hj] at q1;exact q1
 ·rw[hW] at z;refine pA fun Gk gL=>?_;obtain⟨o,rfl,rfl,hj⟩:=z;refine gL ?_;walk_at "wp";have q1:=q H' g1;rw[z5T hj] at q1;exact q1
noncomputable def z6H (K:PySem.W.Frag):Sp:=fun vs H Q _=>∃(p p2:Addr) (u v:T3),vs=[.ref p,.ref p2]/\SqT K H p [.int u.1,.int u.2.1,.int u.2.2]/\SqT K H p2 [.int v.1,.int v.2.1,.int v.2.2]/\1<=u.1/\1<=v.1/\∀(t:Addr) (H':Hp),Same H H'->H t=none->H' t=some (z2t (sh2 u v))->Q (.ref t) H'
theorem vJ (T:TF K mg "shifts_of_two" xC) (m_min:mg "min" = none) (G_divisor:Has P w K mg base 1 "divisor" ["one", "other"] qU):Has P w K mg base 2 "shifts_of_two" ["one", "other"] (z6H K):=by
 refine T.has yp (fun _ _ _ _ _ _=>L2.bnd2 fun _ _=>rfl) (fun vs H Q E h=>?_) (fun f cdv A outer s H vs Q E hr h=>?_)
 ·refine pA fun Gm gM=>?_;obtain⟨p,p2,u,v,rfl,_⟩:=h;refine gM ?_;rfl
 refine pA fun Gn gO=>?_;obtain⟨p,p2,u,v,rfl,hT,hT2,u1,v1,q⟩:=h;refine gO ?_;refine⟨_,(zC (zP (i:=2) yp.nd rfl (Or.inl rfl) (zV (G_divisor.mono (by first|decide|omega)) hr (zB (zn yW (pv 0) zF (fun _ _=>rfl)) (zB (zn yW (pv 1) zF (fun _ _=>rfl)) zE)))) (zC (zP (i:=3) yp.nd rfl (Or.inl rfl) (zM zr (zM j7 (zM j7 (zn yW (pv 0) zF (fun _ _=>rfl)) (zn yW (pv 1) zF (fun _ _=>rfl))) (zM j7 (zn yW (pv 1) zF (fun _ _=>rfl)) zF)) (pv 2))) (zJ (zR (yl (zB (pv 2) (zB (pv 3) (zB (ze (z7f rfl) rfl m_min (by decide +kernel) (zB (pv 2) (zB (zM j7 (zM j8 (zn yW (pv 0) zF (fun _ _=>rfl)) (zn yW (pv 1) zF (fun _ _=>rfl))) zF) zE))) zE)))))))),?_⟩;have gp:=y8 (a:=u.1) (b:=v.1) (by omega);walk_at "wp";refine⟨_,_,_,.int u.1,rfl,rfl,hT,rfl,?_⟩;refine⟨_,_,_,.int v.1,rfl,rfl,hT2,rfl,?_⟩;refine⟨_,_,rfl,by omega,by omega,?_⟩;refine⟨_,_,_,.int u.2.1,rfl,rfl,hT,rfl,?_⟩;refine⟨_,_,_,.int v.2.1,rfl,rfl,hT2,rfl,?_⟩;walk_at "wp";refine⟨_,_,_,.int v.2.2,rfl,rfl,hT2,rfl,?_⟩;walk_at "wp";refine⟨gp,?_⟩;refine⟨_,_,_,.int u.2.2,rfl,rfl,hT,rfl,?_⟩;refine⟨_,_,_,.int v.2.2,rfl,rfl,hT2,rfl,?_⟩;walk_at "wp";refine⟨_,_,rfl,?_⟩;walk_at "wp";intro t nt;exact q t _ (zH nt _) nt zG
noncomputable def shs (ws vs:List T3):List T3:=ws.flatMap fun u=>vs.map (sh2 u)
theorem z8C {ws vs:List T3} {i:Nat} {u:T3} (e:ws[i]?=some u):shs (ws.take (i+1)) vs=shs (ws.take i) vs++vs.map (sh2 u):=by
 unfold shs;rw[List.take_add_one,e,List.flatMap_append];simp
theorem qV:∀ws vs:List T3,(shs ws vs).length=ws.length*vs.length
 | [],vs=>by simp [shs]
 | u::ws,vs=>by
  have:=qV ws vs;unfold shs at *
  rw[List.flatMap_cons,List.length_append,this,List.length_map,List.length_cons,Nat.succ_mul];omega
theorem qj {ws vs:List T3} {x:T3}:x∈shs ws vs ↔ ∃u∈ws,∃v∈vs,sh2 u v=x:=by
 unfold shs;simp only [List.mem_flatMap,List.mem_map]
noncomputable def xy (K:PySem.W.Frag):Sp:=fun vs H Q _=>∃(a b:Addr) (xs ys:List V) (ws us:List T3),vs=[.ref a,.ref b]/\SqL K H a xs/\Pl H xs ws/\SqL K H b ys/\Pl H ys us/\(∀u∈ws,1<=u.1)/\(∀u∈us,1<=u.1)/\ws.length<=100/\us.length<=100/\
 ∀(D:Addr) (zs:List V) (H':Hp),Same H H'->H D=none->H' D=some (.lst zs)->Pl H' zs (shs ws us)->Q (.ref D) H'
theorem z9F {K:PySem.W.Frag} {a b:Addr} {p:Addr} {u:T3} {ys:List V} {us:List T3} {nm:Str} {fr:List Nat} {σ:St} {H:Hp} {Q:VK} (hS:SqL K H b ys) (hP:Pl H ys us) (hu:∀v∈us,1<=v.1) (hl:us.length<=100) (hp:H p=some (z2t u)) (u1:1<=u.1) (hst:st0 [nm] fr σ=[none,some (.ref p)])
  (hq:∀(D:Addr) (zs:List V) (H':Hp),Same H H'->H D=none->H' D=some (.lst zs)->Pl H' zs (us.map (sh2 u))->Q (.ref D) H') :
  z1g (Itl K b) (qH 0) z5E (z2z (z6H K) [] E0 (z0Y (z3q 1) (z0Y (z3q 0) z9N))) [nm] fr σ H Q:=by
 obtain⟨Sv,hSv⟩:∃Sv:St->Prop,Sv=fun σ=>∃o,σ=[o,some (.ref p)]:=⟨_,rfl⟩
 obtain⟨Pv,hPv⟩:∃Pv:Addr->Nat->List V->Hp->Prop,Pv=fun D i ys H2=>H D=none/\Same H H2/\Pl H2 ys ((us.take i).map (sh2 u)):=⟨_,rfl⟩
 refine yz (xs:=ys) Sv Pv (by rw[hSv,hst];exact⟨none,rfl⟩) (fun D hD=>?_) (fun D i ys H2 hD h=>?_) (fun D i x ys σ H2 hx hi hs hD hy h=>?_) (fun D ys H2 hD h=>?_)
 ·rw[hPv];exact⟨hD,zH hD _,.nil⟩
 ·rw[hPv] at h;exact h.2.1.seq hS
 ·rw[hSv] at hs;rw[hPv] at h;obtain⟨o,rfl⟩:=hs;refine pA fun Go gP=>?_;obtain⟨nD,g,hQ⟩:=h;refine gP ?_;refine pA fun Gp gQ=>?_;obtain⟨p2,v,e1,rfl,e3⟩:=hP.at hx;refine gQ ?_;have v1:=hu v (List.mem_of_getElem? e1);rw[hP.1] at hi;walk_at "wp";refine⟨p,p2,u,v,rfl,SqT.of (g _ _ hp),SqT.of (g _ _ e3),u1,v1,fun t H3 g3 nt ht=>?_⟩;have hD3:=g3 _ _ hD;refine CompP.mk hD3 hy (by rw[sizeLine_eq];omega) (by rw[hSv];exact⟨_,rfl⟩) (by
   rw[hPv];refine⟨nD,(g.trans g3).write nD _,?_⟩;rw[List.take_add_one,e1,List.map_append];exact ((hQ.same g3).snoc ht).upd hD3)
 ·rw[hPv] at h;refine pA fun Gq gR=>?_;obtain⟨nD,g,hQ⟩:=h;refine gR ?_;rw[hP.1,List.take_length] at hQ;exact hq D ys H2 g nD hD hQ
theorem z8m (T:TF K mg "shifts" z0o) (G_shifts_of_two:Has P w K mg base 2 "shifts_of_two" ["one", "other"] (z6H K)):Has P w K mg base 3 "shifts" ["one", "other"] (xy K):=by
 refine T.has wV (fun _ _ _ _ _ _=>L2.bnd2 fun _ _=>rfl) (fun vs H Q E h=>?_) (fun f cdv A outer s H vs Q E hr h=>?_)
 ·refine pA fun Gu gU=>?_;obtain⟨a,b,xs,ys,ws,us,rfl,_⟩:=h;refine gU ?_;rfl
 refine pA fun Gv gW=>?_;obtain⟨a,b,xs,ys,ws,us,rfl,hS,hP,hS2,hP2,hw,hu,lw,lu,q⟩:=h;refine gW ?_;refine⟨_,(zC (zP (i:=2) wV.nd rfl (Or.inl rfl) (zq zE)) (zC (xZ PassesOwn.never rfl (y7 (pv 0)) (zY (i:=3) wV.nd rfl (Or.inr rfl)) (zJ (z0w (qh PySem.F.plainAttrs_list PySem.F.slot_list_extend PySem.F.type_list_extend z6j (pv 2) (zB (xV (CompSc.capt (own:=["beside"]) (capt:=["waking"]) (fr:=[3]) rfl ⟨rfl,rfl,rfl,rfl,rfl,trivial⟩ (by decide +kernel) (by decide +kernel) rfl (by decide +kernel)) rfl (y7 (pv 1)) (fun _ _ _=>(zY (i:=0) (show (["beside", "waking"]:List Str).Nodup from by decide +kernel) rfl (Or.inl rfl) (Or.inr rfl))) (fun _ _ _=>yq) (fun _ _ _=>(zV (G_shifts_of_two.mono (by first|decide|omega)) hr (zB (pv 1) (zB (pv 0) zE))))) zE))))) (zJ (zR (pv 2))))),?_⟩;walk_at "wp";intro L hL;have g0:=zH hL (.lst []);refine⟨⟨_,g0.seq hS⟩,?_⟩;obtain⟨W,hW⟩:∃W:Nat->St->Hp->Prop,W=fun i σ H'=>∃(o:Option V) (zs:List V),σ=[some (.ref a),some (.ref b),some (.ref L),o]/\Same H H'/\H' L=some (.lst zs)/\Pl H' zs (shs (ws.take i) us):=⟨_,rfl⟩
 refine ym (xs:=xs) W ?_ (fun i σ H' _ z=>?_) (fun i x σ H' hx z=>?_) (fun σ H' z=>?_)
 ·rw[hW];exact⟨none,[],rfl,g0,zG,.nil⟩
 ·rw[hW] at z;refine pA fun Gw fA=>?_;obtain⟨_,_,_,g,_⟩:=z;refine fA ?_;exact g.seq hS
 ·rw[hW] at z;refine pA fun Gx fB=>?_;obtain⟨o,zs,rfl,g,hL2,hZ⟩:=z;refine fB ?_;refine pA fun Gy fE=>?_;obtain⟨p,u,e1,rfl,e3⟩:=hP.at hx;refine fE ?_;have u1:=hw u (List.mem_of_getElem? e1);have hi:=(List.getElem?_eq_some_iff.mp e1).1;walk_at "wp";refine⟨.inl ⟨rfl,_,SqL.of hL2⟩,⟨_,g.seq hS2⟩,?_⟩;refine z9F (a:=a) (g.seq hS2) (hP2.same g) hu lu (g _ _ e3) u1 rfl fun D ds H2 g2 nD hD hQ=>?_;have lz:=hZ.1;have ld:=hQ.1;rw[qV] at lz;rw[List.length_map] at ld;have lt:(ws.take i).length<=100:=by rw[List.length_take];omega
  have lm:=Nat.mul_le_mul lt lu;refine⟨L,D,zs,ds,rfl,rfl,g2 _ _ hL2,hD,by rw[sizeLine_eq];omega,?_⟩;rw[hW];refine⟨_,_,rfl,(g.trans g2).write hL _,zG,?_⟩;rw[z8C e1];exact ((hZ.same g2).append hQ).upd (g2 _ _ hL2)
 ·rw[hW] at z;refine pA fun Gz fF=>?_;obtain⟨o,zs,rfl,g,hL2,hZ⟩:=z;refine fF ?_;rw[hP.1,List.take_length] at hZ;walk_at "wp";exact q L zs _ g hL hL2 hZ
noncomputable def z1u (K:PySem.W.Frag):Sp:=fun vs H Q _=>∃(a b:Addr) (xs ys:List V) (ws us:List T3),vs=[.ref a,.ref b]/\SqL K H a xs/\Pl H xs ws/\SqL K H b ys/\Pl H ys us/\(∀u∈ws,Wk u)/\(∀u∈us,Wk u)/\(∀u∈ws,u.1<=2^1000)/\ws.length<=14/\us.length<=14/\yV ((shs ws us).map (·.1))<=5000/\
 ∀H',Same H H'->Q (oV (xY (shs ws us) (yV ((shs ws us).map (·.1))).toNat)) H'
theorem z0i {ws us:List T3} {B:Int} (hw:∀u∈ws,Wk u) (hB:∀u∈ws,u.1<=B):∀x∈shs ws us,1<=x.1/\x.1<=B:=fun x hx=>by
 refine pA fun G0 fG=>?_;obtain⟨u,mu,v,mv,rfl⟩:=qj.mp hx;refine fG ?_;have h1:=z0j (v:=v) (hw u mu).1;have h2:zx u.1 v.1<=u.1:=jJ _ (by have:=(hw u mu).1;omega);exact⟨h1,Int.le_trans h2 (hB u mu)⟩
theorem v0 (T:TF K mg "lonely_shift" xR) (G_shifts:Has P w K mg base 3 "shifts" ["one", "other"] (xy K)) (G_hole:Has P w K mg base 4 "hole" ["plan"] (z6J K)):Has P w K mg base 5 "lonely_shift" ["one", "other"] (z1u K):=by
 refine T.has wW (fun _ _ _ _ _ _=>L2.bnd2 fun _ _=>rfl) (fun vs H Q E h=>?_) (fun f cdv A outer s H vs Q E hr h=>?_)
 ·refine pA fun Fa fH=>?_;obtain⟨a,b,xs,ys,ws,us,rfl,_⟩:=h;refine fH ?_;rfl
 refine pA fun Fb fI=>?_;obtain⟨a,b,xs,ys,ws,us,rfl,hS,hP,hS2,hP2,hw,hu,wB,lw,lu,hL,q⟩:=h;refine fI ?_;refine⟨_,(zJ (zR (zV (G_hole.mono (by first|decide|omega)) hr (zB (zV (G_shifts.mono (by first|decide|omega)) hr (zB (pv 0) (zB (pv 1) zE))) zE)))),?_⟩;walk_at "wp";refine⟨a,b,xs,ys,ws,us,rfl,hS,hP,hS2,hP2,fun u h=>(hw u h).1,fun u h=>(hu u h).1,by omega,by omega,fun D zs H1 g1 nD hD hZ=>?_⟩;have lm:=Nat.mul_le_mul lw lu;exact⟨D,zs,_,rfl,SqL.of hD,hZ,z0i hw wB,by rw[qV];omega,hL,fun H' g'=>q H' (g1.trans g')⟩
theorem z1h (x:Int) {m:Int} (h:0<m):0<=x%m/\x%m<m:=⟨Int.emod_nonneg _ (by omega),Int.emod_lt_of_pos _ h⟩
theorem z7h {c d:Int} {n:Nat} (h:Builtin.Int.intBits c<=n) (hd:Builtin.Int.intBits d<=n):Builtin.Int.intBits (c+d)<=n+1:=by
 refine intBits_le_iff.mpr ?_;have h1:=intBits_le_iff.mp h;have h2:=intBits_le_iff.mp hd;have h3:=Int.natAbs_add_le c d;rw[Nat.pow_succ];omega
theorem z0D {ws:List T3} {t:Int}:zu ws t=true ↔ ∃u∈ws,awP u t:=by
 unfold zu;rw[List.any_eq_true];refine⟨fun⟨u,h,e⟩=>⟨u,h,by unfold awk at e;exact (of_decide_eq_true e:(t-u.2.1)%u.1<u.2.2)⟩,fun⟨u,h,e⟩=>⟨u,h,by unfold awk;exact decide_eq_true (show (t-u.2.1)%u.1<u.2.2 from e)⟩⟩
noncomputable def z7t (ws us:List T3) (d t:Int):Bool:=zu ws t && zu us (t-d)
theorem z3n {ws us:List T3} {d t:Int}:z7t ws us d t=true ↔ z0E ws us d t:=by
 unfold z7t z0E;rw[Bool.and_eq_true,z0D,z0D]
theorem y0i {ws:List T3} {t:Int}:zu ws t=true ↔ ∃u∈ws,awP u t:=by
 unfold zu;rw[List.any_eq_true];refine⟨fun⟨u,h,e⟩=>⟨u,h,by unfold awk at e;exact (of_decide_eq_true e:(t-u.2.1)%u.1<u.2.2)⟩,fun⟨u,h,e⟩=>⟨u,h,by unfold awk;exact decide_eq_true (show (t-u.2.1)%u.1<u.2.2 from e)⟩⟩
theorem y1N {ws us:List T3} {d:Int} (hw:∀u∈ws,Wk u) (hu:∀u∈us,Wk u):zu (shs ws us) d=true ↔ ∃x,z0E ws us d x:=by
 rw[y0i];constructor
 ·rintro⟨x,hx,a⟩;refine pA fun Ga hU=>?_;obtain⟨u,mu,v,mv,rfl⟩:=qj.mp hx;refine hU ?_;refine pA fun Gb hV=>?_;obtain⟨t,h1,h2⟩:=(z6M (hw u mu) (hu v mv) d).mp a;refine hV ?_;exact⟨t,⟨u,mu,h1⟩,v,mv,h2⟩
 ·rintro⟨t,⟨u,mu,h1⟩,v,mv,h2⟩;exact⟨sh2 u v,qj.mpr ⟨u,mu,v,mv,rfl⟩,(z6M (hw u mu) (hu v mv) d).mpr ⟨t,h1,h2⟩⟩
theorem z4i {ws:List T3} {L:Int} (L1:1<=L) (hd:∀u∈ws,u.1∣L):xY ws L.toNat=none ↔ ∀d,zu ws d=true:=by
 rcases z5R (ws:=ws) (n:=L.toNat) with⟨i,e,h1,h2,h3⟩|⟨e,h⟩
 ·rw[e];refine⟨fun c=>(nomatch c),fun c=>?_⟩;rw[c] at h2;cases h2
 ·rw[e];refine⟨fun _ d=>?_,fun _=>rfl⟩;have b:=wu d L1;obtain⟨k,hk⟩:=xi d L;have e2:d=d%L+L*k:=by omega
  rw[e2,jm (L:=L*k) fun u hu=>Int.dvd_trans (hd u hu) (Int.dvd_mul_right _ _)];have:=h (d%L).toNat (by omega);rw[Int.toNat_of_nonneg b.1] at this;exact this
theorem z9o {ws us:List T3} {m n:Int} (hw:∀u∈ws,u.1∣m) (hu:∀u∈us,u.1∣n):∀x∈shs ws us,x.1∣zx m n:=fun x hx=>by
 refine pA fun Gc gB=>?_;obtain⟨u,mu,v,mv,rfl⟩:=qj.mp hx;refine gB ?_;exact wG (Int.dvd_trans (yN _ _) (hw u mu)) (Int.dvd_trans (yA _ _) (hu v mv))
theorem z8b {ws us:List T3} {m n:Int} (hw1:∀u∈ws,Wk u) (hw:∀u∈ws,u.1∣m) (hu:∀u∈us,u.1∣n) (m0:1<=m):1<=yV ((shs ws us).map (·.1))/\yV ((shs ws us).map (·.1))∣zx m n/\yV ((shs ws us).map (·.1))<=m/\∀x∈shs ws us,x.1∣yV ((shs ws us).map (·.1)):=by
 have h1:∀x∈(shs ws us).map (·.1),1<=x:=fun x hx=>by
  refine pA fun Ge gC=>?_;obtain⟨y,hy,rfl⟩:=List.mem_map.mp hx;refine gC ?_;refine pA fun Gf gG=>?_;obtain⟨u,mu,v,mv,rfl⟩:=qj.mp hy;refine gG ?_;exact z0j (hw1 u mu).1
 have h2:yV ((shs ws us).map (·.1))∣zx m n:=(zy h1).mpr fun x hx=>by
  refine pA fun Gg gH=>?_;obtain⟨y,hy,rfl⟩:=List.mem_map.mp hx;refine gH ?_;exact z9o hw hu y hy
 have gp:=y8 (a:=m) (b:=n) (by omega);have h3:=Int.le_of_dvd gp h2;have h4:=jJ n (show 0<m by omega);exact⟨yL h1,h2,by omega,fun x hx=>yT h1 _ (List.mem_map_of_mem hx)⟩
theorem z7j {u:T3} {x k:Int}:awP u (x+u.1*k) ↔ awP u x:=by
 unfold awP;rw[qD (x:=x+u.1*k-u.2.1) (y:=x-u.2.1) ⟨k,by omega⟩]
theorem z5t {ws us:List T3} {d x:Int} (hw:∀u∈ws,1<=u.1) (hu:∀u∈us,1<=u.1) (h:z0E ws us d x) (t:Int):∃y,t<=y/\z0E ws us d y:=by
 refine pA fun Gh gI=>?_;obtain⟨⟨u,mu,au⟩,v,mv,av⟩:=h;refine gI ?_;have m:=Int.mul_pos (show 0<u.1 by have:=hw u mu;omega) (show 0<v.1 by have:=hu v mv;omega);refine⟨x+u.1*v.1*(t-x).natAbs,?_,⟨u,mu,?_⟩,v,mv,?_⟩
 ·have:1*((t-x).natAbs:Int)<=u.1*v.1*(t-x).natAbs:=Int.mul_le_mul_of_nonneg_right (by omega) (by omega);omega
 ·rw[Int.mul_assoc];exact z7j.mpr au
 ·have:x+u.1*v.1*((t-x).natAbs:Int)-d=x-d+v.1*(u.1*(t-x).natAbs):=by
   rw[←Int.mul_assoc,Int.mul_comm v.1 u.1];omega
  rw[this];exact z7j.mpr av
theorem qp {n:Nat} {te:TE} {own:List Str} {fr:List Nat} {σ:St} {H:Hp} {Q:VK} {rest:St} (f:Nat->Bool) (hst:st0 own fr σ=none::rest) (hn:n<=1000000)
  (hte:∀(j:Nat) (H2:Hp) (R:VK),j<n->Same H H2->R (.bl (f j)) H2->te (some (.int (0+(j:Int)))::rest) H2 R)
  (hq:∀(D:Addr) (H':Hp),Same H H'->H D=none->H' D=some (.lst (((List.range n).map f).map V.bl))->Q (.ref D) H'):z1g (Itr 0 n) (qH 0) z5E te own fr σ H Q:=by
 obtain⟨Sv,hSv⟩:∃Sv:St->Prop,Sv=fun σ=>∃o,σ=o::rest:=⟨_,rfl⟩
 obtain⟨Pv,hPv⟩:∃Pv:Addr->Nat->List V->Hp->Prop,Pv=fun D i ys H2=>H D=none/\Same H H2/\ys=((List.range i).map f).map V.bl:=⟨_,rfl⟩
 refine z3d Sv Pv (by rw[hSv,hst];exact⟨none,rfl⟩) (fun D hD=>?_) (fun D j ys σ H2 hj hs hD hy h=>?_) (fun D ys H2 hD h=>?_)
 ·rw[hPv];exact⟨hD,zH hD _,rfl⟩
 ·rw[hSv] at hs;rw[hPv] at h;obtain⟨o,rfl⟩:=hs;refine pA fun Gi gJ=>?_;obtain⟨nD,g,rfl⟩:=h;refine gJ ?_;walk_at "wp";refine hte j H2 _ hj g ?_;refine CompP.mk hD hy (by rw[sizeLine_eq];omega) (by rw[hSv];exact⟨_,rfl⟩) (by
   rw[hPv];refine⟨nD,g.write nD _,?_⟩;rw[List.range_succ,List.map_append,List.map_append];rfl)
 ·rw[hPv] at h;refine pA fun Gj gK=>?_;obtain⟨nD,g,rfl⟩:=h;refine gK ?_;exact hq D H2 g nD hD
noncomputable def vd (K:PySem.W.Frag):Sp:=fun vs H Q _=>∃(a:Addr) (f:Int->Bool) (n:Nat),vs=[.ref a]/\H a=some (.lst (((List.range n).map fun i:Nat=>f (i:Int)).map V.bl))/\1<=n/\n<=100000/\(∀x,f (x+n)=f x)/\(∃x,f x=true)/\
 ∀(t:Addr) (W T:Int) (H':Hp),Same H H'->H' t=some (.tup [.int W,.int T])->LW (fun x=>f x=true) n W T->0<=W->Q (.ref t) H'
theorem z4w {f:Int->Bool} {n i:Nat} (h:i<n):(((List.range n).map fun i:Nat=>f (i:Int)))[i]?=some (f (i:Int)):=by
 rw[List.getElem?_map,List.getElem?_range h];rfl
theorem y2d {f:Int->Bool} {n:Int} (per:∀x,f (x+n)=f x):∀(k x:Int),f (x+n*k)=f x:=by
 have perk:∀(k:Nat) x,f (x+n*k)=f x:=fun k=>by
  induction k with
  | zero=>intro x;simp
  | succ k ih=>
   intro x;have e:x+n*((k+1:Nat):Int)=(x+n*k)+n:=by rw[Int.natCast_add,Int.mul_add];simp;omega
   rw[e,per,ih]
 intro k x;rcases Int.le_total 0 k with z|z
 ·have e:n*k=n*((k.toNat:Nat):Int):=by rw[Int.toNat_of_nonneg z]
  rw[e,perk]
 ·have e:x=x+n*k+n*(((-k).toNat:Nat):Int):=by rw[Int.toNat_of_nonneg (by omega),Int.mul_neg];omega
  conv=>rhs;rw[e]
  exact (perk _ _).symm
theorem vZ (T:TF K mg "longest_wait" xQ) (m_range:mg "range" = none) (m_len:mg "len" = none):Has P w K mg base 1 "longest_wait" ["both"] (vd K):=by
 refine T.has yF (fun _ _ _ _ _ _=>L2.bnd1 fun _=>rfl) (fun vs H Q E h=>?_) (fun f cdv A outer s H vs Q E hr h=>?_)
 ·refine pA fun Gk gL=>?_;obtain⟨a,f,n,rfl,_⟩:=h;refine gL ?_;rfl
 refine pA fun Gm gM=>?_;obtain⟨a,f,n,rfl,hA,n1,n2,per,⟨x0,hx0⟩,q⟩:=h;refine gM ?_;refine⟨_,(zC (zP (i:=1) yF.nd rfl (Or.inl rfl) (qh PySem.F.plainAttrs_list PySem.F.slot_list_index PySem.F.type_list_index z2N (pv 0) (zB jx zE))) (zC (zP (i:=2) yF.nd rfl (Or.inl rfl) (yl (zB zF (zB zF zE)))) (zC (xZ PassesOwn.never rfl (z6U rfl m_range (zB (zM j7 (ze yI rfl m_len PySem.boot_len (zB (pv 0) zE)) zF) (zB (y1b z9K zF) (zB (y1b z9K zF) zE)))) (zY (i:=3) yF.nd rfl (Or.inl rfl)) (zC (x4 (zP (i:=1) yF.nd rfl (Or.inl rfl) (jw (yd (zn zk (pv 0) (pv 3) (fun _ _=>rfl)) (fun _=>rfl)) zF (zM j8 (pv 1) zF)))) (zJ (zl (zN y0M (pv 1) (zn yW (pv 2) zF (fun _ _=>rfl)) (zW _)) (zJ (zP (i:=2) yF.nd rfl (Or.inl rfl) (yl (zB (pv 1) (zB (pv 3) zE))))) zL)))) (zJ (zR (pv 2)))))),?_⟩;have pz:=y2d per;have ln:(((List.range n).map fun i:Nat=>f (i:Int)).map V.bl).length=n:=by simp
 obtain⟨j,j0,j1,j2,j3⟩:∃j:Nat,j<n/\f (j:Int)=true/\(∀i:Nat,i<j->f (i:Int)=false)/\True:=by
  have b:=wu x0 (show (1:Int)<=n by omega);obtain⟨k,hk⟩:=xi x0 (n:Int);have e:f (x0%n)=true:=by
   rw[←hx0];have:x0=x0%n+n*k:=by omega
   conv=>rhs;rw[this]
   exact (pz k _).symm
  refine pA fun Gn gO=>?_;obtain⟨y,y1,y2,y3,y4⟩:=vt (p:=fun x=>f x=true) (t:=0) b.1 e;refine gO ?_;refine⟨y.toNat,by omega,by rw[Int.toNat_of_nonneg y1];exact y3,fun i hi=>?_,trivial⟩;have:=y4 i (by omega) (by omega);simpa using this
 walk_at "wp";refine⟨.inl ⟨rfl,_,SqL.of hA⟩,a,_,j,rfl,rfl,hA,by rw[z4w j0,j1],fun i hi=>by rw[z4w (by omega),j2 i hi],fun p np=>?_⟩;have g0:=zH np (.tup [V.int 0,V.int 0]);refine⟨_,_,rfl,.inl (SqL.of (g0 _ _ hA)),_,_,rfl,?_⟩;rw[ln];obtain⟨W,hW⟩:∃W:Nat->St->Hp->Prop,W=fun (k:Nat) σ H'=>∃(wait W T:Int) (p:Addr) (o:Option V),σ=[some (.ref a),some (.int wait),some (.ref p),o]/\Same H H'/\H' p=some (.tup [.int W,.int T])/\LWi (fun x=>f x=true) n (n-(k:Int)) wait W T/\0<=wait/\0<=W:=⟨_,rfl⟩
 have en:((n:Int)-1 - -1).toNat=n:=by omega
 rw[en];refine z8v W ?_ (fun k σ H' hk z=>?_) (fun σ H' z=>?_)
 ·rw[hW];refine⟨j,0,0,p,none,rfl,g0,zG,⟨?_,fun _=>⟨rfl,rfl⟩,fun z=>by omega⟩,by omega,by omega⟩;have e:(n:Int)-((0:Nat):Int)=n:=by omega
  rw[e];refine⟨by omega,?_,fun y y1 y2 hy=>?_⟩
  ·have:(n:Int)+j=j+n:=by omega
   show f (n+j)=true;rw[this,per];exact j1
  ·have e2:f (y-n)=f y:=by
    have:=per (y-n);have e3:y-n+n=y:=by omega
    rw[e3] at this;exact this.symm
   have:=j2 (y-n).toNat (by omega);rw[Int.toNat_of_nonneg (by omega),e2] at this;have hy':f y=true:=hy;rw[this] at hy';cases hy'
 ·rw[hW] at z;refine pA fun Go gP=>?_;obtain⟨wait,WW,TT,p,o,rfl,g,hp,L,w0,W0⟩:=z;refine gP ?_;have et:(n:Int)-1+(k:Int) * -1=n-(k:Int)-1:=by omega
  rw[et];have hit:atI (((List.range n).map fun i:Nat=>f (i:Int)).map V.bl) ((n:Int)-k-1)=some (.bl (f ((n:Int)-k-1))):=by
   have e:(n:Int)-k-1=(((n-k-1:Nat):Nat):Int):=by omega
   rw[e];exact zZ (by rw[List.getElem?_map,z4w (by omega)];rfl)
  obtain⟨M,hM⟩:∃M:St->Hp->Prop,M=fun σ H2=>∃w':Int,σ=[some (.ref a),some (.int w'),some (.ref p),some (.int ((n:Int)-k-1))]/\H2=H'/\(f ((n:Int)-k-1)=true->w'=0)/\(¬f ((n:Int)-k-1)=true->w'=wait+1):=⟨_,rfl⟩
  refine⟨M,?_,fun σ H2 h=>?_⟩
  ·walk_at "wp";refine zX (SqL.of (g _ _ hA)) hit ?_;walk_at "wp";refine⟨fun c=>?_,fun c=>?_⟩
   ·rw[hM];exact⟨0,rfl,rfl,fun _=>rfl,fun z=>absurd c z⟩
   ·rw[hM];exact⟨wait+1,rfl,rfl,fun z=>absurd z c,fun _=>rfl⟩
  rw[hM] at h;refine pA fun Gp gQ=>?_;obtain⟨w',rfl,rfl,c1,c2⟩:=h;refine gQ ?_;have wp':0<=w':=by
   by_cases c:f ((n:Int)-k-1)=true
   ·rw[c1 c];omega
   ·rw[c2 c];omega
  have S:=L.step (w':=w') (by omega) (by omega) c1 c2 w0;have ek:(n:Int)-((k+1:Nat):Int)=n-k-1:=by omega
  walk_at "wp";refine⟨_,_,_,.int WW,rfl,rfl,SqT.of hp,rfl,?_⟩;walk_at "wp";refine⟨fun c=>?_,fun c=>?_⟩
  ·intro p2 np2;have g2:=zH np2 (.tup [V.int w',V.int ((n:Int)-k-1)]);rw[hW];refine⟨w',w',(n:Int)-k-1,p2,_,rfl,g.trans g2,zG,?_,wp',wp'⟩;rw[ek];exact S.1 c
  ·rw[hW];refine⟨w',WW,TT,p,_,rfl,g,hp,?_,wp',W0⟩;rw[ek];exact S.2 c
 ·rw[hW] at z;refine pA fun Gq gR=>?_;obtain⟨wait,WW,TT,p,o,rfl,g,hp,L,w0,W0⟩:=z;refine gR ?_;have e:(n:Int)-(n:Int)=0:=by omega
  rw[e] at L;walk_at "wp";exact q p WW TT _ g hp (L.full (by omega) fun x=>by rw[per]) W0
noncomputable def Gr (ws us:List T3):Int:=yV ((shs ws us).map (·.1))
noncomputable def Nr (ws us:List T3):Int:=yV ((ws++us).map (·.1))
noncomputable def WorstP (ws us:List T3) (W D T:Int):Prop:=0<=W/\0<=D/\LW (z0E ws us D) (Nr ws us) W T/\(∀d t x,NextOf (z0E ws us d) t (some x)->x-t<=W)/\∀d,0<=d->∀t,NextOf (z0E ws us d) t (some (t+W))->D<=d
theorem z1f {ws us:List T3} (hw:∀u∈ws,Wk u) (hu:∀u∈us,Wk u):∀x∈(ws++us).map (·.1),1<=x:=fun x hx=>by
 refine pA fun Gu gU=>?_;obtain⟨u,mu,rfl⟩:=List.mem_map.mp hx;refine gU ?_;rcases List.mem_append.mp mu with z|z
 ·exact (hw u z).1
 ·exact (hu u z).1
theorem z7p {ws us:List T3} (hw:∀u∈ws,Wk u) (hu:∀u∈us,Wk u):1<=Nr ws us/\(∀u∈ws,u.1∣Nr ws us)/\∀u∈us,u.1∣Nr ws us:=
 ⟨yL (z1f hw hu),fun u mu=>yT (z1f hw hu) _ (List.mem_map_of_mem (List.mem_append_left _ mu)),fun u mu=>yT (z1f hw hu) _ (List.mem_map_of_mem (List.mem_append_right _ mu))⟩
theorem xL {ws us:List T3} (hw:∀u∈ws,Wk u) (hu:∀u∈us,Wk u):1<=Gr ws us/\Gr ws us∣Nr ws us/\Gr ws us<=Nr ws us/\(∀x∈shs ws us,x.1∣Gr ws us)/\∀u∈ws,∀v∈us,zx u.1 v.1∣Gr ws us:=by
 refine pA fun Gv gW=>?_;obtain⟨N1,N2,N3⟩:=z7p hw hu;refine gW ?_;refine pA fun Gw fA=>?_;obtain⟨a,b,c,d⟩:=z8b hw N2 N3 N1;refine fA ?_;exact⟨a,Int.dvd_trans b (yN _ _),c,d,fun u mu v mv=>d (sh2 u v) (qj.mpr ⟨u,mu,v,mv,rfl⟩)⟩
theorem v6 {ws us:List T3} (hw:∀u∈ws,Wk u) (hu:∀u∈us,Wk u) {d t x:Int} (h:NextOf (z0E ws us d) t (some x)):∃y z,NextOf (z0E ws us (d%Gr ws us)) y (some z)/\z-y=x-t:=by
 refine pA fun Gx fB=>?_;obtain⟨G1,G2,G3,G4,G5⟩:=xL hw hu;refine fB ?_;obtain⟨m,hm⟩:=z5u (ws:=ws) (us:=us) (d:=d) (e:=d%Gr ws us) (fun u mu=>(hw u mu).1) (fun u mu=>(hu u mu).1) G5 (xi d _);exact⟨t+m,x+m,h.shift m hm,by omega⟩
noncomputable def kf (K:PySem.W.Frag):Sp:=fun vs H Q _=>∃(a b:Addr) (xs ys:List V) (ws us:List T3),vs=[.ref a,.ref b]/\SqL K H a xs/\Pl H xs ws/\SqL K H b ys/\Pl H ys us/\(∀u∈ws,Wk u)/\(∀u∈us,Wk u)/\(∀u∈ws,u.1<=2^1000)/\(∀u∈us,u.1<=2^1000)/\ws.length<=14/\us.length<=14/\Gr ws us*Nr ws us<=20000/\
 (xY (shs ws us) (Gr ws us).toNat≠none->∀H',Same H H'->Q .non H')/\
 (xY (shs ws us) (Gr ws us).toNat=none->∀(t:Addr) (W D T:Int) (H':Hp),Same H H'->H' t=some (.tup [.int W,.int D,.int T])->WorstP ws us W D T->Q (.ref t) H')
theorem y0Y (T:TF K mg "worst" z0n) (m_range:mg "range" = none) (c_MOST_TRIED:CI mg "MOST_TRIED" 20000) (G_awake:Has P w K mg base 1 "awake" ["plan", "turn"] (z0g K)) (G_plan_round:Has P w K mg base 3 "plan_round" ["plan"] (y6 K)) (G_shifts:Has P w K mg base 3 "shifts" ["one", "other"] (xy K)) (G_lonely_shift:Has P w K mg base 5 "lonely_shift" ["one", "other"] (z1u K)) (G_longest_wait:Has P w K mg base 1 "longest_wait" ["both"] (vd K)) :
  Has P w K mg base 6 "worst" ["one", "other"] (kf K):=by
 refine T.has yQ (fun _ _ _ _ _ _=>L2.bnd2 fun _ _=>rfl) (fun vs H Q E h=>?_) (fun f cdv A outer s H vs Q E hr h=>?_)
 ·refine pA fun Gy fE=>?_;obtain⟨a,b,xs,ys,ws,us,rfl,_⟩:=h;refine fE ?_;rfl
 refine pA fun Gz fF=>?_;obtain⟨a,b,xs,ys,ws,us,rfl,hS,hP,hS2,hP2,hw,hu,wB,uB,lw,lu,hGN,q0,q1⟩:=h;refine fF ?_;refine⟨_,(zC (zP (i:=2) yQ.nd rfl (Or.inr rfl) (zV (G_plan_round.mono (by first|decide|omega)) hr (zB (zM z6c (pv 0) (pv 1)) zE))) (zC (zP (i:=3) yQ.nd rfl (Or.inl rfl) (zV (G_plan_round.mono (by first|decide|omega)) hr (zB (zV (G_shifts.mono (by first|decide|omega)) hr (zB (pv 0) (zB (pv 1) zE))) zE))) (zC (zl (zN z3N (zM jH (pv 3) (pv 2)) (vV rfl c_MOST_TRIED) (zW _)) (zJ yJ) zL) (zC (x4 (zl (zN wg (zV (G_lonely_shift.mono (by first|decide|omega)) hr (zB (pv 0) (zB (pv 1) zE))) ye (zW _)) (zJ (zR ye)) zL)) (zC (zP (i:=4) yQ.nd rfl (Or.inr rfl) (xV (CompSc.capt (own:=["turn"]) (capt:=["one"]) (fr:=[0]) rfl ⟨rfl,rfl,rfl,rfl,rfl,trivial⟩ (by decide +kernel) (by decide +kernel) rfl (by decide +kernel)) rfl (x5 rfl m_range (zB (pv 2) zE)) (fun _ _ _=>(zY (i:=0) (show (["turn", "one"]:List Str).Nodup from by decide +kernel) rfl (Or.inl rfl) (Or.inr rfl))) (fun _ _ _=>yq) (fun _ _ _=>(zV (G_awake.mono (by first|decide|omega)) hr (zB (pv 1) (zB (pv 0) zE)))))) (zC (zP (i:=5) yQ.nd rfl (Or.inr rfl) (xV (CompSc.capt (own:=["turn"]) (capt:=["other"]) (fr:=[1]) rfl ⟨rfl,rfl,rfl,rfl,rfl,trivial⟩ (by decide +kernel) (by decide +kernel) rfl (by decide +kernel)) rfl (x5 rfl m_range (zB (pv 2) zE)) (fun _ _ _=>(zY (i:=0) (show (["turn", "other"]:List Str).Nodup from by decide +kernel) rfl (Or.inl rfl) (Or.inr rfl))) (fun _ _ _=>yq) (fun _ _ _=>(zV (G_awake.mono (by first|decide|omega)) hr (zB (pv 1) (zB (pv 0) zE)))))) (zC (zP (i:=6) yQ.nd rfl (Or.inl rfl) (yl (zB zF (zB zF (zB zF zE))))) (zC (xZ PassesOwn.never rfl (x5 rfl m_range (zB (pv 3) zE)) (zY (i:=7) yQ.nd rfl (Or.inr rfl)) (zC (vj (i:=8) yQ.nd rfl (Or.inl rfl) (CompSc.capt (own:=["turn"]) (capt:=["turns", "shift", "others", "ones"]) (fr:=[2,7,5,4]) rfl ⟨rfl,rfl,rfl,rfl,rfl,⟨rfl,rfl,rfl,rfl,rfl,⟨rfl,rfl,rfl,rfl,rfl,⟨rfl,rfl,rfl,rfl,rfl,trivial⟩⟩⟩⟩ (by decide +kernel) (by decide +kernel) rfl (by decide +kernel)) rfl (x5 rfl m_range (zB (pv 2) zE)) (fun _ _ _=>(zY (i:=0) (show (["turn", "turns", "shift", "others", "ones"]:List Str).Nodup from by decide +kernel) rfl (Or.inl rfl) (Or.inr rfl))) (fun _ _ _=>yq) (fun _ _ _=>(vm (zn (z4c (K:=K) rfl) (pv 4) (pv 0) (fun _ _=>rfl)) (z2F (zn (z4c (K:=K) rfl) (pv 3) (zM zr (zM j7 (pv 0) (pv 2)) (pv 1)) (fun _ _=>rfl)))))) (zC (zP (i:=9) yQ.nd rfl (Or.inl rfl) (zV (G_longest_wait.mono (by first|decide|omega)) hr (zB (pv 8) zE))) (zJ (zl (zN z3N (zn yW (pv 9) zF (fun _ _=>rfl)) (zn yW (pv 6) zF (fun _ _=>rfl)) (zW _)) (zJ (zP (i:=6) yQ.nd rfl (Or.inl rfl) (yl (zB (zn yW (pv 9) zF (fun _ _=>rfl)) (zB (pv 7) (zB (zn yW (pv 9) zF (fun _ _=>rfl)) zE)))))) zL))))) (zJ (zR (pv 6))))))))))),?_⟩;refine pA fun G0 fG=>?_;obtain⟨N1,N2,N3⟩:=z7p hw hu;refine fG ?_;refine pA fun Fa fH=>?_;obtain⟨G1,G2,G3,G4,G5⟩:=xL hw hu;refine fH ?_;have w1:∀u∈ws,1<=u.1:=fun u h=>(hw u h).1;have u1:∀u∈us,1<=u.1:=fun u h=>(hu u h).1;have lx:=hP.1;have ly:=hP2.1;walk_at "wp";refine⟨a,b,xs,ys,rfl,rfl,hS,hS2,by rw[sizeLine_eq];omega,fun p np=>?_⟩;have g1:=zH np (.lst (xs++ys));refine⟨p,xs++ys,ws++us,rfl,SqL.of zG,(hP.append hP2).same g1,fun u mu=>?_,by rw[List.length_append];omega,fun H2 g2=>?_⟩
 ·rcases List.mem_append.mp mu with z|z
  ·exact⟨w1 u z,wB u z⟩
  ·exact⟨u1 u z,uB u z⟩
 have g12:=g1.trans g2;walk_at "wp";refine⟨a,b,xs,ys,ws,us,rfl,g12.seq hS,hP.same g12,g12.seq hS2,hP2.same g12,w1,u1,by omega,by omega,fun S zs H3 g3 nS hSh hZ=>?_⟩;have lm:=Nat.mul_le_mul lw lu;refine⟨S,zs,_,rfl,SqL.of hSh,hZ,z0i hw wB,by rw[qV];omega,fun H4 g4=>?_⟩;have eN:yV ((ws++us).map (·.1))=Nr ws us:=rfl;have eG:yV ((shs ws us).map (·.1))=Gr ws us:=rfl;rw[eN,eG];have gX:=(g12.trans g3).trans g4;have Gs:Gr ws us<=200:=by
  by_cases c:Gr ws us<=200
  ·exact c
  ·have:200*200<=Gr ws us*Nr ws us:=Int.mul_le_mul (by omega) (by omega) (by decide) (by omega);omega
 have Ns:Nr ws us<=20000:=by
  have:1*Nr ws us<=Gr ws us*Nr ws us:=Int.mul_le_mul_of_nonneg_right G1 (by omega);omega
 have q0':=q0;have q1':=q1;clear q0 q1;generalize hN:Nr ws us=N at *
 generalize hG:Gr ws us=G at *
 walk_at "wp";refine⟨mok 40 40 (by omega) (by omega) (by decide),fun c=>by omega,fun _=>?_⟩;obtain⟨M,hM⟩:∃M:St->Hp->Prop,M=fun σ H'=>σ=[some (.ref a),some (.ref b),some (.int N),some (.int G),none,none,none,none,none,none]/\Same H H'/\xY (shs ws us) G.toNat=none:=⟨_,rfl⟩
 refine⟨M,?_,fun σ H5 h=>?_⟩
 ·walk_at "wp";refine⟨a,b,xs,ys,ws,us,rfl,gX.seq hS,hP.same gX,gX.seq hS2,hP2.same gX,hw,hu,wB,lw,lu,by rw[eG];omega,fun H' g'=>?_⟩;rw[eG];cases e:xY (shs ws us) G.toNat with
  | none=>
   walk_at "wp";rw[hM];exact⟨rfl,gX.trans g',e⟩
  | some i=>
   walk_at "wp";exact q0' (by rw[e];simp) _ (gX.trans g')
 rw[hM] at h;refine pA fun Fb fI=>?_;obtain⟨rfl,g5,hole⟩:=h;refine fI ?_;have sure:∀d,∃x,z0E ws us d x:=fun d=>(y1N hw hu).mp ((z4i G1 G4).mp hole d);have q:=q1' hole;have eNn:((N.toNat:Nat):Int)=N:=by omega
 have awPer:∀(vs:List T3),(∀u∈vs,u.1∣N)->∀x,zu vs (x+N)=zu vs x:=fun vs h x=>jm h x;have modAw:∀(vs:List T3),(∀u∈vs,u.1∣N)->∀x,zu vs (x%N)=zu vs x:=fun vs h x=>by
  obtain⟨k,hk⟩:=xi x N;have e2:x=x%N+N*k:=by omega
  conv=>rhs;rw[e2]
  exact (jm (L:=N*k) (fun u mu=>Int.dvd_trans (h u mu) (Int.dvd_mul_right _ _)) _).symm
 have perT:∀d x,z7t ws us d (x+((N.toNat:Nat):Int))=z7t ws us d x:=fun d x=>by
  rw[eNn];unfold z7t;have e:x+N-d=x-d+N:=by omega
  rw[e,awPer ws N2,awPer us N3]
 walk_at "wp";refine⟨_,rfl,by omega,by omega,?_⟩;refine qp (fun j:Nat=>zu ws (j:Int)) (rest:=[some (.ref a)]) rfl (by omega) (fun j H2 R hj gj hR=>?_) fun O1 H6 g6 nO1 hO1=>?_
 ·walk_at "wp";have e0:(0:Int)+(j:Int)=j:=by omega
  rw[e0];exact⟨a,_,xs,ws,rfl,(g5.trans gj).seq hS,hP.same (g5.trans gj),w1,hR⟩
 have g56:=g5.trans g6;walk_at "wp";refine⟨_,rfl,by omega,by omega,?_⟩;refine qp (fun j:Nat=>zu us (j:Int)) (rest:=[some (.ref b)]) rfl (by omega) (fun j H2 R hj gj hR=>?_) fun O2 H7 g7 nO2 hO2=>?_
 ·walk_at "wp";have e0:(0:Int)+(j:Int)=j:=by omega
  rw[e0];exact⟨b,_,ys,us,rfl,(g56.trans gj).seq hS2,hP2.same (g56.trans gj),u1,hR⟩
 have hO1':=g7 _ _ hO1;have g57:=g56.trans g7;walk_at "wp";intro p0 np0;have g8:=zH np0 (.tup [V.int 0,V.int 0,V.int 0]);refine⟨_,rfl,by omega,by omega,?_⟩;obtain⟨W,hW⟩:∃W:Nat->St->Hp->Prop,W=fun (i:Nat) σ H'=>∃(WW DD TT:Int) (p:Addr) (o1 o2 o3:Option V),σ=[some (.ref a),some (.ref b),some (.int N),some (.int G),some (.ref O1),some (.ref O2),some (.ref p),o1,o2,o3]/\Same H7 H'/\H' p=some (.tup [.int WW,.int DD,.int TT])/\0<=WW/\
   (∀d:Nat,d<i->∀t x,NextOf (z0E ws us d) t (some x)->x-t<=WW)/\((WW=0/\DD=0/\TT=0)∨(0<WW/\0<=DD/\DD<i/\LW (z0E ws us DD) N WW TT/\∀d:Nat,(d:Int)<DD->∀t,¬NextOf (z0E ws us d) t (some (t+WW)))):=⟨_,rfl⟩
 refine qo W ?_ (fun i σ H' hi z=>?_) (fun σ H' z=>?_)
 ·rw[hW];exact⟨0,0,0,p0,none,none,none,rfl,g8,zG,by omega,fun d hd=>by omega,.inl ⟨rfl,rfl,rfl⟩⟩
 ·rw[hW] at z;refine pA fun Ga hU=>?_;obtain⟨WW,DD,TT,p,o1,o2,o3,rfl,g,hp,W0,bnd,alt⟩:=z;refine hU ?_;have e0:(0:Int)+(i:Int)=i:=by omega
  rw[e0];walk_at "wp";refine⟨_,rfl,by omega,by omega,?_⟩;have bitAt:∀(f:Int->Bool) (x:Int),0<=x->x<N->atI (((List.range N.toNat).map fun i:Nat=>f (i:Int)).map V.bl) x=some (.bl (f x)):=fun f x x0 x1=>by
   have e:x=((x.toNat:Nat):Int):=by omega
   rw[e];exact zZ (by rw[List.getElem?_map,z4w (by omega)];rfl)
  refine qp (fun j:Nat=>z7t ws us i (j:Int)) (rest:=[some (.int N),some (.int i),some (.ref O2),some (.ref O1)]) rfl (by omega) (fun j H2 R hj gj hR=>?_) fun B H8 g9 nB hB=>?_
  ·have e0:(0:Int)+(j:Int)=j:=by omega
   rw[e0];have gg:=g.trans gj;walk_at "wp";refine zX (SqL.of (gg _ _ hO1')) (bitAt (zu ws) j (by omega) (by omega)) ?_;walk_at "wp";unfold z7t at hR;refine⟨fun c=>?_,fun c=>?_⟩
   ·have m:=wu ((j:Int)-i) N1;refine⟨by omega,zX (SqL.of (gg _ _ hO2)) (bitAt (zu us) _ m.1 m.2) ?_⟩;rw[modAw us N3];rw[c,Bool.true_and] at hR;exact hR
   ·rw[Bool.not_eq_true] at c;rw[c,Bool.false_and] at hR;exact hR
  have eqP:(fun x=>z7t ws us i x=true)=z0E ws us i:=funext fun x=>propext z3n;obtain⟨xs0,hxs0⟩:=sure i;refine⟨B,z7t ws us i,N.toNat,rfl,hB,by omega,by omega,perT i,⟨xs0,z3n.mpr hxs0⟩,fun t W2 T2 H9 g10 ht L W20=>?_⟩;rw[eqP,eNn] at L;have gg:=(g.trans g9).trans g10;have hp9:=(g9.trans g10) _ _ hp;refine⟨_,_,_,.int W2,rfl,rfl,SqT.of ht,rfl,?_⟩;refine⟨_,_,_,.int WW,rfl,rfl,SqT.of hp9,rfl,?_⟩;walk_at "wp";refine⟨fun c=>?_,fun c=>?_⟩
  ·refine⟨_,_,_,.int W2,rfl,rfl,SqT.of ht,rfl,?_⟩;refine⟨_,_,_,.int T2,rfl,rfl,SqT.of ht,rfl,?_⟩;intro p2 np2;have g11:=zH np2 (.tup [V.int W2,V.int i,V.int T2]);rw[hW];refine⟨W2,i,T2,p2,_,_,_,rfl,gg.trans g11,zG,W20,fun d hd t x h=>?_,.inr ⟨by omega,by omega,by omega,L,fun d hd t h=>?_⟩⟩
   ·rcases Nat.lt_succ_iff_lt_or_eq.mp hd with z|z
    ·have:=bnd d z t x h;omega
    ·rw[z] at h;exact L.2.2.2.1 t x h
   ·have:=bnd d (by omega) t _ h;omega
  ·rw[hW];refine⟨WW,DD,TT,p,_,_,_,rfl,gg,hp9,W0,fun d hd t x h=>?_,?_⟩
   ·rcases Nat.lt_succ_iff_lt_or_eq.mp hd with z|z
    ·exact bnd d z t x h
    ·rw[z] at h;have:=L.2.2.2.1 t x h;omega
   ·rcases alt with z|⟨a1,a2,a3,a4,a5⟩
    ·exact .inl z
    ·exact .inr ⟨a1,a2,by omega,a4,a5⟩
 ·rw[hW] at z;refine pA fun Gb hV=>?_;obtain⟨WW,DD,TT,p,o1,o2,o3,rfl,g,hp,W0,bnd,alt⟩:=z;refine hV ?_;walk_at "wp";have eGn:((G.toNat:Nat):Int)=G:=by omega
  have bndA:∀d t x,NextOf (z0E ws us d) t (some x)->x-t<=WW:=fun d t x h=>by
   refine pA fun Gc gB=>?_;obtain⟨y,z,h1,h2⟩:=v6 hw hu h;refine gB ?_;rw[hG] at h1;have m:=wu d G1;have e:d%G=(((d%G).toNat:Nat):Int):=by omega
   rw[e] at h1;have:=bnd (d%G).toNat (by omega) y z h1;omega
  refine q p WW DD TT _ (g57.trans g) hp ?_;unfold WorstP;rw[hN];rcases alt with⟨rfl,rfl,rfl⟩|⟨a1,a2,a3,a4,a5⟩
  ·refine⟨by omega,by omega,⟨by omega,by omega,?_,bndA 0,fun t t0 _=>t0⟩,bndA,fun d d0 _ _=>d0⟩;obtain⟨x,hx⟩:=sure 0;refine pA fun Ge gC=>?_;obtain⟨y,y1,y2⟩:=z5t w1 u1 hx 0;refine gC ?_;refine pA fun Gf gG=>?_;obtain⟨z,z1,z2,z3,z4⟩:=vt y1 y2;refine gG ?_;have n0:NextOf (z0E ws us 0) 0 (some z):=⟨z1,z3,z4⟩
   have:=bndA 0 0 z n0;have ez:z=0:=by omega
   rw[ez] at n0;exact n0
  ·refine⟨W0,a2,a4,bndA,fun d d0 t hn=>?_⟩;by_cases c:DD<=d
   ·exact c
   ·have e:d=((d.toNat:Nat):Int):=by omega
    rw[e] at hn;exact absurd hn (a5 d.toNat (by omega) t)
noncomputable def y2s (P:Program) (w:World) (K:PySem.W.Frag) (mg:Str->Option Value) (base:Heap) (k:Nat) (x:Str) (ps:List Str) (sp:Sp):Prop:=
 ∃f fd,FnOk P w K mg base (CXx P w) k f fd ps sp/\(∀us:List Value,us.length=ps.length->bindArgs fd ⟨us,[]⟩=pure (ps.zip us))/\PySem.W.keepIn K (.ref f)=true/\mg x=some (.ref f)/\∃oc od osl,K.lookup f=some ⟨oc,od,.func fd,osl⟩
theorem z9h {x:Str} {st:Stmt} {N ps:List Str} {k:Nat} {sp:Sp} (T:TF K mg x st) (S:FnScope N ps (zK st))
  (hb:∀(kV doc pm:Value) (an:Option Addr) (cdv ct:Value) (us:List Value),us.length=ps.length->bindArgs (PySem.W.fnOf x x (yg st) (yD st) (zK st) .none kV doc pm an cdv ct) ⟨us,[]⟩=pure (ps.zip us))
  (len:∀vs H Q E,sp vs H Q E->vs.length=ps.length)
  (hbody:∀(f:Addr) (cdv:Value) (A:Around) (outer:List Env) (s:Shared) (H:Hp) (vs:List V) (Q:VK) (E:XK),Room k (A.deeper (PyProof.Rows.envOfC x (zK st) s.heap.objs.size f cdv))->sp vs H Q E->
   ∃t,PSs (qN (CXx P w) P w K mg base N x (zK st) f cdv A outer s H E) (yD st) t/\t { nx:=fun _ H'=>Q .non H',rt:=Q } (L2.yo N vs) H):y2s P w K mg base (k+1) x ps sp:=by
 refine pA fun Gg gH=>?_;obtain⟨f,fd,F,m⟩:=T;refine gH ?_;refine pA fun Gh gI=>?_;obtain⟨oc,od,kV,doc,pm,an,cdv,ct,osl,rfl,lk,hcd⟩:=F.ex;refine gI ?_;exact⟨f,_,z8w lk hcd S len fun A outer s H vs Q E hr hsp=>hbody f cdv A outer s H vs Q E hr hsp,hb kV doc pm an cdv ct,F.kp,m,oc,od,osl,lk⟩
noncomputable def dg (n:Int):List Nat:=(Str.ofString (toString n)).cps.toList
theorem yP (n:Int):Str.ofString (toString n)=tx (dg n):=(jp _).symm
structure DgOk (n:Int):Prop where
 all:PySem.NumText.AllDigits (dg n)
 ne:dg n≠[]
 val:((PySem.NumText.digitsVal (dg n):Nat):Int)=n
 zero:(dg n)[0]?=some 48->(dg n).length=1
 len:(dg n).length<=100
 sz:n.natAbs.log2<1920
theorem zh (l:List Nat):(tx l).cps.toList=l:=by simp [tx]
theorem zS (l:List Nat):(tx l).length=l.length:=by simp [tx,Str.length]
theorem z1Z {n:Int} (h0:0<=n) (h1:n<10^100):DgOk n:=by
 refine pA fun Gi gJ=>?_;obtain⟨l,e,a,b,c,d,f⟩:=z1C h0;refine gJ ?_;have el:dg n=l:=by
  unfold dg;rw[e,zh]
 exact⟨el▸a,el▸b,el▸c,el▸d,by rw[el];exact f 99 h1,by
  by_cases z:n.natAbs=0
  ·rw[z];decide
  ·refine (Nat.log2_lt z).mpr (Nat.lt_of_lt_of_le (m:=10^100) (by omega) (by decide +kernel))⟩
theorem xE {l:List Nat} (h:PySem.NumText.AllDigits l) {c:Nat} (hc:c<48∨57<c):c∉l:=fun m=>by
 have:=h c m;omega
theorem z7b:Str.ofString ":" = ⟨#[58]⟩:=by decide +kernel
theorem z0C:Str.ofString " " = ⟨#[32]⟩:=by decide +kernel
theorem v9 {l:List Nat} {ps:List (List Nat)} {c:Nat} (hc:c<256) (e:l=glu c ps) (ne:ps≠[]) (h:∀p∈ps,c∉p):Txt.split (tx l) ⟨#[c]⟩=ps.map tx:=by
 rw[z6D _ _ hc,zh,e,z6E ne h]
noncomputable def z6f:List Nat:=(Str.ofString "never").cps.toList
theorem z8X:tx z6f=Str.ofString "never" :=jp _
theorem ql {c M:Nat}:∀ {ps:List (List Nat)},(∀p∈ps,p.length<=M)->(glu c ps).length<=ps.length*(M+1)
 | [],_=>Nat.zero_le _
 | [p],h=>by
  have:=h p (by simp);simp only [glu,List.length_singleton];omega
 | p::q::r,h=>by
  have ih:=ql (c:=c) (ps:=q::r) fun x hx=>h x (by simp [hx]);have:=h p (by simp);have e:(p::q::r).length*(M+1)=(M+1)+(q::r).length*(M+1):=by rw[List.length_cons,Nat.add_mul];omega
  rw[e];simp only [glu,List.length_append,List.length_cons] at ih ⊢;omega
theorem z2S {sep:Str} {M:Nat}:∀ {ys:List Str} (k:Nat),(∀y∈ys,y.length+sep.length<=M)->ys.foldl (· + ·.length+sep.length) k<=k+ys.length*M
 | [],k,_=>by simp
 | y::ys,k,h=>by
  have ih:=z2S (ys:=ys) (k+y.length+sep.length) fun x hx=>h x (by simp [hx]);have:=h y (by simp);rw[List.foldl_cons,List.length_cons,Nat.add_mul];omega
theorem z1U {c:Nat} {ps:List (List Nat)}:Builtin.Str.glued ⟨#[c]⟩ (ps.map tx)=tx (glu c ps):=by
 apply z0f;rw[z7H,zh,List.map_map];congr 1;exact (List.map_congr_left fun p _=>zh p).trans (List.map_id _)
theorem z6s {c M:Nat} {ps:List (List Nat)} (h:∀p∈ps,p.length<=M) (l:ps.length*(M+1)<=16777216):(ps.map tx).toArray.foldl (· + ·.length+(⟨#[c]⟩:Str).length) 0<=sizeLine/\(Builtin.Str.glued ⟨#[c]⟩ (ps.map tx)).length<=sizeLine:=by
 rw[sizeLine_eq];constructor
 ·rw[List.foldl_toArray];have:=z2S (sep:=⟨#[c]⟩) (M:=M+1) (ys:=ps.map tx) 0 fun y hy=>by
   refine pA fun Gj gK=>?_;obtain⟨p,hp,rfl⟩:=List.mem_map.mp hy;refine gK ?_;rw[zS];exact Nat.add_le_add_right (h p hp) 1
  rw[List.length_map] at this;omega
 ·rw[z1U,zS];exact Nat.le_trans (ql h) l
theorem qM {K:PySem.W.Frag} {H:Hp}:∀ys:List Str,DDs K H (ys.map V.str) (ys.map PyData.str)
 | []=>.nil
 | y::ys=>.cons (.str y) (qM ys)
theorem qm {c:Nat} {Pz:Nat->Prop} (hc:Pz c):∀ {ps:List (List Nat)},(∀p∈ps,∀x∈p,Pz x)->∀x∈glu c ps,Pz x
 | [],_,x,hx=>nomatch hx
 | [p],h,x,hx=>h p (by simp) x hx
 | p::q::r,h,x,hx=>by
  rcases List.mem_append.mp (show x∈p++c::glu c (q::r) from hx) with z|z
  ·exact h p (by simp) x z
  ·rcases List.mem_cons.mp z with rfl|z
   ·exact hc
   ·exact qm hc (fun y hy=>h y (by simp [hy])) x z
theorem z7z {l:List Nat} (h:∀x∈l,x<128):PyData.strOk (tx l)=true:=by
 unfold PyData.strOk;rw[Array.all_eq_true_iff_forall_mem];intro x hx;have:=h x (by rw[←zh l];exact Array.mem_toList_iff.mpr hx);exact decide_eq_true (by omega)
noncomputable def z9A (c:Nat):Bool:=decide (48<=c/\c<=57)
noncomputable def z5g (l:List Nat):Bool:=decide (1<=l.length) && (decide (l.length<=100) && (!(decide (l[0]?=some 48) && decide (1<l.length)) && l.all z9A))
theorem z8z {l:List Nat}:z5g l=true ↔ 1<=l.length/\l.length<=100/\¬(l[0]?=some 48/\1<l.length)/\∀c∈l,48<=c/\c<=57:=by
 unfold z5g z9A;simp only [Bool.and_eq_true,decide_eq_true_eq,Bool.not_eq_true',Bool.and_eq_false_iff,decide_eq_false_iff_not,List.all_eq_true];constructor
 ·rintro⟨a,b,c,d⟩;exact⟨a,b,fun z=>c.elim (fun k=>k z.1) fun k=>k z.2,d⟩
 ·rintro⟨a,b,c,d⟩;refine⟨a,b,?_,d⟩;by_cases e:l[0]?=some 48
  ·exact .inr fun k=>c ⟨e,k⟩
  ·exact .inl e
theorem z1p {c M:Nat}:∀ {l:List Nat},l.length<=M->(spl c l).length<=M+1/\∀p∈spl c l,p.length<=M/\∀x∈p,x∈l
 | [],_=>⟨by simp [spl],fun p hp=>by rw[show p=[] from List.mem_singleton.mp hp];exact⟨Nat.zero_le _,fun x hx=>hx⟩⟩
 | y::ys,h=>by
  have M1:1<=M:=by rw[List.length_cons] at h;omega
  obtain⟨a,b⟩:=z1p (c:=c) (M:=M-1) (l:=ys) (by rw[List.length_cons] at h;omega);refine pA fun Gk gL=>?_;obtain⟨p,t,e⟩:=ke c ys;refine gL ?_;rw[e] at a b;unfold spl;split
  ·rw[e];refine⟨by rw[List.length_cons];omega,fun q hq=>?_⟩;rcases List.mem_cons.mp hq with rfl|hq
   ·exact⟨Nat.zero_le _,fun x hx=>by cases hx⟩
   ·have:=b q hq;exact⟨by omega,fun x hx=>by simp [this.2 x hx]⟩
  ·rw[e];refine⟨by rw[List.length_cons] at a ⊢;omega,fun q hq=>?_⟩;rcases List.mem_cons.mp hq with rfl|hq
   ·have:=b p (by simp);refine⟨by rw[List.length_cons];omega,fun x hx=>?_⟩;rcases List.mem_cons.mp hx with rfl|hx
    ·simp
    ·simp [this.2 x hx]
   ·have:=b q (by simp [hq]);exact⟨by omega,fun x hx=>by simp [this.2 x hx]⟩
noncomputable def isW (u:T3):Bool:=decide (1<=u.1/\(0<=u.2.1/\u.2.1<u.1)/\1<=u.2.2/\u.2.2<=u.1)
noncomputable def qu:Sp:=fun vs H Q _=>∃u:T3,vs=[.int u.1,.int u.2.1,.int u.2.2]/\Q (.bl (isW u)) H
theorem z3Z (T:TF K mg "is_waking" jg):Has P w K mg base 1 "is_waking" ["period", "first", "length"] qu:=by
 refine T.has z1z (fun _ _ _ _ _ _=>L2.bnd3 fun _ _ _=>rfl) (fun vs H Q E h=>?_) (fun f cdv A outer s H vs Q E hr h=>?_)
 ·refine pA fun Gm gM=>?_;obtain⟨u,rfl,_⟩:=h;refine gM ?_;rfl
 refine pA fun Gn gO=>?_;obtain⟨u,rfl,q⟩:=h;refine gO ?_;refine⟨_,(zJ (zR (vm (xW y0M (pv 0) zF (zW _)) (vm (z0x z2J z2I zF (pv 1) (pv 0)) (z2F (z0x z2J z2J zF (pv 2) (pv 0))))))),?_⟩;unfold isW at q;walk_at "wp";refine⟨fun c1=>⟨fun c2=>⟨fun c3=>⟨fun c4=>?_,fun c4=>?_⟩,fun c3=>?_⟩,fun c2=>?_⟩,fun c1=>?_⟩
 ·by_cases c5:u.2.2<=u.1
  ·rw[decide_eq_true ⟨c1,⟨c2,c3⟩,c4,c5⟩] at q;rw[decide_eq_true c5];exact q
  ·rw[decide_eq_false fun z=>c5 z.2.2.2] at q;rw[decide_eq_false c5];exact q
 ·rw[decide_eq_false fun z=>c4 z.2.2.1] at q;exact q
 ·rw[decide_eq_false fun z=>c3 z.2.1.2] at q;exact q
 ·rw[decide_eq_false fun z=>c2 z.2.1.1] at q;exact q
 ·rw[decide_eq_false fun z=>c1 z.1] at q;exact q
noncomputable def vb (K:PySem.W.Frag):Sp:=fun vs H Q _=>∃(a:Addr) (xs:List V) (ws:List T3),vs=[.ref a]/\SqL K H a xs/\Pl H xs ws/\(∀u∈ws,isW u=true)/\∀D:Addr,H D=none->Q (.ref D) (upd H D (.lst xs))
theorem z7B (T:TF K mg "plan_of" w5) (m_list:mg "list" = none) (G_is_waking:Has P w K mg base 1 "is_waking" ["period", "first", "length"] qu):Has P w K mg base 2 "plan_of" ["rows"] (vb K):=by
 refine T.has jP (fun _ _ _ _ _ _=>L2.bnd1 fun _=>rfl) (fun vs H Q E h=>?_) (fun f cdv A outer s H vs Q E hr h=>?_)
 ·refine pA fun Go gP=>?_;obtain⟨a,xs,ws,rfl,_⟩:=h;refine gP ?_;rfl
 refine pA fun Gp gQ=>?_;obtain⟨a,xs,ws,rfl,hS,hP,hw,q⟩:=h;refine gQ ?_;refine⟨_,(zC (xZ PassesOwn.never rfl (y7 (pv 0)) (we rfl (zj (zY (i:=1) jP.nd rfl (Or.inl rfl)) (zj (zY (i:=2) jP.nd rfl (Or.inl rfl)) (zj (zY (i:=3) jP.nd rfl (Or.inl rfl)) xg)))) (zJ (zl (xn (yd (zV (G_is_waking.mono (by first|decide|omega)) hr (zB (pv 1) (zB (pv 2) (zB (pv 3) zE)))) (fun _=>rfl))) (zJ yJ) zL))) (zJ (zR (zb yX rfl m_list (by decide +kernel) (zB (pv 0) zE))))),?_⟩;walk_at "wp";refine⟨⟨_,hS⟩,?_⟩;obtain⟨W,hW⟩:∃W:Nat->St->Hp->Prop,W=fun i σ H'=>∃o1 o2 o3:Option V,σ=[some (.ref a),o1,o2,o3]/\H'=H:=⟨_,rfl⟩
 refine ym (xs:=xs) W ?_ (fun i σ H' _ z=>?_) (fun i x σ H' hx z=>?_) (fun σ H' z=>?_)
 ·rw[hW];exact⟨none,none,none,rfl,rfl⟩
 ·rw[hW] at z;refine pA fun Gq gR=>?_;obtain⟨_,_,_,_,rfl⟩:=z;refine gR ?_;exact hS
 ·rw[hW] at z;refine pA fun Gu gU=>?_;obtain⟨o1,o2,o3,rfl,rfl⟩:=z;refine gU ?_;refine pA fun Gv gW=>?_;obtain⟨p,u,e1,rfl,e3⟩:=hP.at hx;refine gW ?_;refine⟨p,_,rfl,SqT.of e3,rfl,?_⟩;walk_at "wp";refine⟨u,rfl,?_⟩;rw[hw u (List.mem_of_getElem? e1)];walk_at "wp";rw[hW];exact⟨_,_,_,rfl,rfl⟩
 ·rw[hW] at z;refine pA fun Gw fA=>?_;obtain⟨o1,o2,o3,rfl,rfl⟩:=z;refine fA ?_;walk_at "wp";exact⟨_,_,rfl,.inl hS,q⟩
noncomputable def nx1 (t:Int) (u:T3):Int:=if (t-u.2.1)%u.1<u.2.2 then t else t+u.1-(t-u.2.1)%u.1
noncomputable def z3B (K:PySem.W.Frag):Sp:=fun vs H Q _=>∃(a:Addr) (t:Int) (xs:List V) (ws:List T3),vs=[.ref a,.int t]/\SqL K H a xs/\Pl H xs ws/\(∀u∈ws,1<=u.1)/\ws.length<=1000/\(ws=[]->∀H',Same H H'->Q .non H')/\
 ∀M H',M∈ws.map (nx1 t)->(∀z∈ws.map (nx1 t),M<=z)->Same H H'->Q (.int M) H'
theorem z2Y (T:TF K mg "next_awake" jC) (m_min:mg "min" = none):Has P w K mg base 1 "next_awake" ["plan", "turn"] (z3B K):=by
 refine T.has yR (fun _ _ _ _ _ _=>L2.bnd2 fun _ _=>rfl) (fun vs H Q E h=>?_) (fun f cdv A outer s H vs Q E hr h=>?_)
 ·refine pA fun Gx fB=>?_;obtain⟨a,t,xs,ws,rfl,_⟩:=h;refine fB ?_;rfl
 refine pA fun Gy fE=>?_;obtain⟨a,t,xs,ws,rfl,hS,hP,hw,hlen,q0,q1⟩:=h;refine fE ?_;refine⟨_,(zC (zP (i:=2) yR.nd rfl (Or.inl rfl) (zq zE)) (zC (xZ PassesOwn.never rfl (y7 (pv 0)) (we rfl (zj (zY (i:=3) yR.nd rfl (Or.inl rfl)) (zj (zY (i:=4) yR.nd rfl (Or.inl rfl)) (zj (zY (i:=5) yR.nd rfl (Or.inl rfl)) xg)))) (zC (zP (i:=6) yR.nd rfl (Or.inl rfl) (zM zr (zM j7 (pv 1) (pv 4)) (pv 3))) (zJ (z0w (qh PySem.F.plainAttrs_list PySem.F.slot_list_append PySem.F.type_list_append qC (pv 2) (zB (jw (zN z2I (pv 6) (pv 5) (zW _)) (pv 1) (zM j7 (zM j8 (pv 1) (pv 3)) (pv 6))) zE)))))) (zJ (zR (y0E rfl rfl m_min (pv 2) ye))))),?_⟩;walk_at "wp";intro L hL;have g0:=zH hL (.lst []);refine⟨⟨_,g0.seq hS⟩,?_⟩;obtain⟨W,hW⟩:∃W:Nat->St->Hp->Prop,W=fun i σ H'=>∃o1 o2 o3 o4:Option V,σ=[some (.ref a),some (.int t),some (.ref L),o1,o2,o3,o4]/\Same H H'/\H' L=some (IL ((ws.take i).map (nx1 t))):=⟨_,rfl⟩
 refine ym (xs:=xs) W ?_ (fun i σ H' _ z=>?_) (fun i x σ H' hx z=>?_) (fun σ H' z=>?_)
 ·rw[hW];exact⟨none,none,none,none,rfl,g0,zG⟩
 ·rw[hW] at z;refine pA fun Gz fF=>?_;obtain⟨_,_,_,_,_,g,_⟩:=z;refine fF ?_;exact g.seq hS
 ·rw[hW] at z;refine pA fun G0 fG=>?_;obtain⟨o1,o2,o3,o4,rfl,g,hL2⟩:=z;refine fG ?_;refine pA fun Fa fH=>?_;obtain⟨p,u,e1,rfl,e3⟩:=hP.at hx;refine fH ?_;refine⟨p,_,rfl,SqT.of (g _ _ e3),rfl,?_⟩;have u1:=hw u (List.mem_of_getElem? e1);have hi:=(List.getElem?_eq_some_iff.mp e1).1;have en:HO.lst ((ws.take i).map (nx1 t) |>.map V.int |> fun ys=>ys++[V.int (nx1 t u)])=IL ((ws.take (i+1)).map (nx1 t)):=by
   rw[List.take_add_one,e1];simp
  have next:W (i+1) [some (.ref a),some (.int t),some (.ref L),some (.int u.1),some (.int u.2.1),some (.int u.2.2),some (.int ((t-u.2.1)%u.1))] (upd H' L (.lst ((ws.take i).map (nx1 t) |>.map V.int |> fun ys=>ys++[V.int (nx1 t u)]))):=by
   rw[hW,en];exact⟨_,_,_,_,rfl,g.write hL _,zG⟩
  walk_at "wp";refine⟨by omega,.inl ⟨rfl,_,SqL.of hL2⟩,fun c=>?_,fun c=>?_⟩
  ·refine⟨_,_,_,rfl,rfl,hL2,by rw[sizeLine_eq];simp;omega,?_⟩;have e:nx1 t u=t:=if_pos c;rw[e] at next
   exact next
  ·refine⟨_,_,_,rfl,rfl,hL2,by rw[sizeLine_eq];simp;omega,?_⟩;have e:nx1 t u=t+u.1-(t-u.2.1)%u.1:=if_neg c;rw[e] at next
   exact next
 ·rw[hW] at z;refine pA fun Fb fI=>?_;obtain⟨o1,o2,o3,o4,rfl,g,hL2⟩:=z;refine fI ?_;rw[hP.1,List.take_length] at hL2;walk_at "wp";refine⟨_,_,rfl,SqL.of hL2,fun e=>?_,fun M hM hz=>q1 M _ hM hz g⟩;exact q0 (by simpa using e) _ g
noncomputable def wR:Sp:=fun vs H Q _=>∃n:Int,vs=[.int n]/\n<2^60/\∀(b:Bool) H',Same H H'->(b=true ↔ IsPart n n)->Q (.bl b) H'
theorem z5b (T:TF K mg "is_prime" qe) (G_least_part:Has P w K mg base 1 "least_part" ["number"] jt):Has P w K mg base 2 "is_prime" ["number"] wR:=by
 refine T.has z3D (fun _ _ _ _ _ _=>L2.bnd1 fun _=>rfl) (fun vs H Q E h=>?_) (fun f cdv A outer s H vs Q E hr h=>?_)
 ·refine pA fun Ga hU=>?_;obtain⟨n,rfl,_⟩:=h;refine hU ?_;rfl
 refine pA fun Gb hV=>?_;obtain⟨n,rfl,n60,q⟩:=h;refine hV ?_;refine⟨_,(zJ (zR (vm (xW y0M (pv 0) zF (zW _)) (z2F (xW yt (zV (G_least_part.mono (by first|decide|omega)) hr (zB (pv 0) zE)) (pv 0) (zW _)))))),?_⟩;walk_at "wp";refine⟨fun c=>⟨n,rfl,c,n60,fun d H' hd g=>?_⟩,fun c=>q _ _ (Same.refl _) ⟨(fun z=>by cases z),fun z=>absurd z.two c⟩⟩;walk_at "wp";refine q _ _ g ⟨fun z=>?_,fun z=>decide_eq_true (hd.uniq z)⟩;have e:=of_decide_eq_true z;rw[e] at hd;exact hd
noncomputable def TxOk (l:List Nat):Prop:=l.length<=100000/\∀c∈l,c<128
theorem TxOk.asc {l:List Nat} (h:TxOk l):Asc (tx l):=z2r.mpr h.2
theorem TxOk.spl {l:List Nat} (h:TxOk l) (c:Nat):∀p∈spl c l,TxOk p:=fun p hp=>by
 obtain⟨a,b⟩:=(z1p (c:=c) h.1).2 p hp;exact⟨a,fun x hx=>h.2 x (b x hx)⟩
theorem y2D (c:Nat):(!(Builtin.Str.occurrences (Str.ofString "0123456789") ⟨#[c]⟩ 0 (Str.ofString "0123456789").length 1).isEmpty)=z9A c:=by
 rw[StrLaws.found_one,show (Str.ofString "0123456789").cps.toList=List.range' 48 10 by decide +kernel];unfold z9A;rw[decide_eq_decide,List.mem_range'_1];omega
theorem z5n:Str.ofString "0" = ⟨#[48]⟩:=by decide +kernel
theorem z9n {c d:Nat}:(⟨#[c]⟩:Str)=⟨#[d]⟩ ↔ c=d:=by
 constructor
 ·intro h;injection h with h;injection h with h;simpa using h
 ·rintro rfl;rfl
noncomputable def z4m (m:Nat) (l:List Nat):Bool:=decide (1<=l.length) && (decide (l.length<=m) && (!(decide (l[0]?=some 48) && decide (1<l.length)) && l.all z9A))
noncomputable def jN:Sp:=fun vs H Q _=>∃(l:List Nat) (m:Nat),vs=[.str (tx l),.int (m:Int)]/\TxOk l/\∀H',Same H H'->Q (.bl (z4m m l)) H'
theorem z1S (T:TF K mg "is_figures" jF) (m_len:mg "len" = none) (m_all:mg "all" = none) (c_FIGURES:CS mg "FIGURES" "0123456789"):Has P w K mg base 1 "is_figures" ["text", "most"] jN:=by
 refine T.has z0m (fun _ _ _ _ _ _=>L2.bnd2 fun _ _=>rfl) (fun vs H Q E h=>?_) (fun f cdv A outer s H vs Q E hr h=>?_)
 ·refine pA fun Gc gB=>?_;obtain⟨l,m,rfl,_⟩:=h;refine gB ?_;rfl
 refine pA fun Ge gC=>?_;obtain⟨l,m,rfl,hl,q⟩:=h;refine gC ?_;refine⟨_,(zC (x4 (zl (PW.pt (z3H (zN z2I (ze xK rfl m_len PySem.boot_len (zB (pv 0) zE)) zF (zW _)) (z4K (zN z3N (ze xK rfl m_len PySem.boot_len (zB (pv 0) zE)) (pv 1) (zW _))))) (zJ (zR jx)) zL)) (zC (x4 (zl (PW.pt (z4L (zN yt (zn y1s (pv 0) zF (fun _ _=>rfl)) zQ (zW _)) (z0u (zN z3N (ze xK rfl m_len PySem.boot_len (zB (pv 0) zE)) zF (zW _))))) (zJ (zR jx)) zL)) (zJ (zR (ze (z2m rfl) rfl m_all (by decide +kernel) (zB (xV (CompSc.none (own:=["sign"]) (by decide +kernel) (by decide +kernel) rfl (by decide +kernel)) rfl (z9U (pv 0)) (fun _ _ _=>(zY (i:=0) (show (["sign"]:List Str).Nodup from by decide +kernel) rfl (Or.inl rfl) (Or.inr rfl))) (fun _ _ _=>yq) (fun _ _ _=>(xW z2K (pv 0) (y1c rfl c_FIGURES) rfl))) zE)))))),?_⟩;have ln:=hl.1;have tl:=zS l;have no:z4m m l=false->Q (.bl false) H:=fun e=>by
  have:=q H (Same.refl H);rw[e] at this;exact this
 walk_at "wp";refine⟨fun σ H'=>σ=[some (.str (tx l)),some (.int (m:Int))]/\H'=H/\1<=l.length/\l.length<=m,?_,?_⟩
 ·walk_at "wp";refine⟨_,rfl,by omega,fun c=>no (by unfold z4m;rw[decide_eq_false (by omega)];rfl),fun c=>⟨_,rfl,by omega,fun c2=>no (by unfold z4m;rw[decide_eq_false (p:=l.length<=m) (by omega)];simp),fun c2=>⟨by omega,by omega⟩⟩⟩
 rintro σ H' ⟨rfl,rfl,l1,l2⟩;walk_at "wp";refine⟨fun σ H2=>σ=[some (.str (tx l)),some (.int (m:Int))]/\H2=H'/\¬(l[0]?=some 48/\1<l.length),?_,?_⟩
 ·walk_at "wp";obtain⟨c0,r0,e0⟩:∃c r,l=c::r:=by
   cases l with
   | nil=>simp at l1
   | cons c r=>exact⟨c,r,rfl⟩
  refine⟨_,_,c0,rfl,rfl,by rw[tl];show _<=16777216;omega,by rw[zh,e0];exact zZ (j:=0) rfl,rfl,_,rfl,fun z0=>⟨_,rfl,by omega,fun c=>?_,fun c=>?_⟩,fun z0=>?_⟩
  ·have z1:=V.str.inj (of_decide_eq_true z0);rw[z5n,z9n] at z1;refine no ?_;unfold z4m;rw[decide_eq_true (p:=l[0]?=some 48) (by rw[e0,z1];rfl),decide_eq_true (p:=1<l.length) (by omega)];simp
  ·exact⟨rfl,fun z=>c (by omega)⟩
  ·refine⟨rfl,fun z=>z0 (decide_eq_true ?_)⟩;have:=z.1;rw[e0] at this;have e1:c0=48:=by simpa using this
   rw[z5n,e1]
 rintro σ H2 ⟨rfl,rfl,l3⟩;walk_at "wp";refine⟨_,rfl,hl.asc,?_⟩;obtain⟨Sv,hSv⟩:∃Sv:St->Prop,Sv=fun σ=>∃o1,σ=[o1]:=⟨_,rfl⟩
 obtain⟨Pv,hPv⟩:∃Pv:Addr->Nat->List V->Hp->Prop,Pv=fun D i ys H3=>H2 D=none/\Same H2 H3/\ys=((l.take i).map z9A).map V.bl:=⟨_,rfl⟩
 refine z2h Sv Pv (by rw[hSv];exact⟨none,rfl⟩) (fun D hD=>?_) (fun D i c ys σ H3 hx hs hD hy h=>?_) (fun D ys H3 hD h=>?_)
 ·rw[hPv];exact⟨hD,zH hD _,rfl⟩
 ·rw[hSv] at hs;rw[hPv] at h;obtain⟨o1,rfl⟩:=hs;refine pA fun Gf gG=>?_;obtain⟨nD,g,rfl⟩:=h;refine gG ?_;have hx':l[i]?=some c:=by
   rw[←zh l,Array.getElem?_toList];exact hx
  have hi:=(List.getElem?_eq_some_iff.mp hx').1;walk_at "wp";refine⟨_,_,rfl,rfl,?_⟩;rw[y2D];refine CompP.mk hD hy (by rw[sizeLine_eq];omega) (by rw[hSv];exact⟨_,rfl⟩) (by
   rw[hPv];refine⟨nD,g.write nD _,?_⟩;rw[List.take_add_one,hx'];simp)
 ·rw[hPv] at h;refine pA fun Gg gH=>?_;obtain⟨nD,g,rfl⟩:=h;refine gH ?_;have es:(tx l).cps.size=l.length:=tl;rw[es,List.take_length] at hD;refine⟨D,_,rfl,SqL.of hD,?_⟩;have ef:(l.map z9A).all id=z4m m l:=by
   unfold z4m;have n3:(decide (l[0]?=some 48) && decide (1<l.length))=false:=by
    rw[Bool.and_eq_false_iff];by_cases c:l[0]?=some 48
    ·exact .inr (decide_eq_false fun z=>l3 ⟨c,z⟩)
    ·exact .inl (decide_eq_false c)
   rw[decide_eq_true l1,decide_eq_true l2,n3,List.all_map];rfl
  rw[ef];exact q _ g
theorem v8 (k l:List Nat):tx k++tx l=tx (k++l):=by
 apply z0f;rw[z6B,zh,zh,zh]
theorem z6A (l y:List Nat) (i:Nat) (hy:y.length≠0):(decide (i+(tx y).length<=(tx l).length) && Builtin.Str.subAt (tx l) (tx y) i)=decide ((l.drop i).take y.length=y):=by
 rw[zS,zS];have e:Builtin.Str.subAt (tx l) (tx y) i=decide ((l.drop i).take y.length=y):=by
  unfold Builtin.Str.subAt;rw[Bool.eq_iff_iff,decide_eq_true_eq,beq_iff_eq,←Array.toList_inj,Array.toList_extract,List.extract_eq_take_drop];have e1:i+(tx y).length-i=y.length:=by rw[zS];omega
  rw[e1];show (List.take y.length (List.drop i (tx l).cps.toList))=(tx y).cps.toList ↔ _;rw[zh,zh]
 rw[e];by_cases c:(l.drop i).take y.length=y
 ·rw[decide_eq_true c,Bool.and_true,decide_eq_true_eq];have:=congrArg List.length c;rw[List.length_take,List.length_drop] at this;omega
 ·rw[decide_eq_false c,Bool.and_false]
theorem z8B {l:List Nat} {i j:Nat} (h:i<=j) (hj:j<=l.length):Txt.slice (tx l) (some (i:Int)) (some (j:Int))=tx ((l.drop i).take (j-i)):=by
 have:=beq_iff_eq.mp (PyProof.Rows.slice_closesL (x:=tx l) (i:=i) (j:=j) (by omega) (by omega) (by rw[zS];omega));rw[this,zh];have e:((j:Int)-(i:Int)).toNat=j-i:=by omega
 rw[Int.toNat_natCast,e];rfl
theorem y0s {k l:List Nat}:(tx k=tx l) ↔ k=l:=by
 constructor
 ·intro h;have:(tx k).cps.toList=(tx l).cps.toList:=by rw[h]
  rwa [zh,zh] at this
 ·rintro rfl;rfl
theorem eqT {l k:List Nat} {H:Hp} {Q:VK} (q:Q (.bl (decide (l=k))) H):rEq (.str (tx l)) (.str (tx k)) H Q:=by
 refine⟨rfl,?_⟩;have:decide (V.str (tx l)=V.str (tx k))=decide (l=k):=decide_eq_decide.mpr ⟨fun h=>y0s.mp (V.str.inj h),fun h=>by rw[h]⟩;rw[this];exact q
theorem neT {l k:List Nat} {H:Hp} {Q:VK} (q:Q (.bl (!decide (l=k))) H):rNe (.str (tx l)) (.str (tx k)) H Q:=by
 refine⟨rfl,?_⟩;have:decide (V.str (tx l)=V.str (tx k))=decide (l=k):=decide_eq_decide.mpr ⟨fun h=>y0s.mp (V.str.inj h),fun h=>by rw[h]⟩;rw[this];exact q
theorem eqS {y z:Str} {H:Hp} {Q:VK} (q:Q (.bl (decide (y=z))) H):rEq (.str y) (.str z) H Q:=by
 refine⟨rfl,?_⟩;have:decide (V.str y=V.str z)=decide (y=z):=decide_eq_decide.mpr ⟨fun h=>V.str.inj h,fun h=>by rw[h]⟩;rw[this];exact q
theorem nb {b:Bool} (h:(!b)=true):¬b=true:=by
 cases b
 ·decide
 ·cases h
theorem z5F {l:List Nat} {i:Nat} (hi:i<=l.length):Txt.slice (tx l) (some (i:Int)) none=tx (l.drop i):=by
 have a:¬((l.length:Int)<0):=by omega
 have e:Txt.slice (tx l) (some (i:Int)) none=Txt.slice (tx l) (some (i:Int)) (some (l.length:Int)):=by
  show StrLaws.sliceText _ _ _=StrLaws.sliceText _ _ _;unfold StrLaws.sliceText;rw[zS];simp [Builtin.Str.strSliceIndices,a]
 rw[e,z8B hi (Nat.le_refl _),List.take_of_length_le (by rw[List.length_drop];omega)]
local macro_rules | `(tactic| walk_at "wpd")=>`(tactic| try simp only [z0L,z0Z,z1L,z0X,z2y,qS,z0q,wL,z5x,z0T,z0c,wD,z0N,kK,kN,jr,kU,kT,z7x,z3p,z3o,z0J,z0F,z0H,z3l,z0I,z0G,z3u,z3r,z4I,z8J,z8I,z0t,z0s,kJ,z7y,z9B,z4o,z4p,z0d,z3t,z0Q,kZ,z0P,kM,z3v,z0R,kW,z0K,z0S,kY,z3w,jq,z0O,z4n,z0b,z4h,z3s,jL,kL,z3x,z0a,kI,z1V,wE,z1W,z0U,kx,ko,km,kn,kl,ky,z0M,wA,z1M,z1O,z1K,kj,wC,qG,z1N,z0V,z1H,ki,kS,z0W,z0p,jS,kP,kR,x8,kO,kQ,kX,z1I,L2.yo,z4r,wH,qO,List.map_cons,List.map_nil,List.length_cons,List.length_nil,List.replicate,List.cons_append,List.nil_append,List.append_nil,List.set_cons_zero,List.set_cons_succ,decide_eq_true_eq,Bool.not_eq_true',decide_eq_false_iff_not,Bool.not_eq_eq_eq_not,Bool.not_true,Bool.not_false,sizeLine_eq,oV,reduceCtorEq,z4e,z4f,z4d,z4g,Nat.reduceAdd,Nat.reduceSub,Nat.reduceLeDiff,Nat.zero_add,true_and,and_true,forall_const,Bool.false_eq_true,if_true,if_false,false_implies,true_implies,not_false_eq_true,not_true_eq_false,implies_true])
noncomputable def ltB (c:Nat):Bool:=decide (97<=c/\c<=122)
noncomputable def nmB (l:List Nat):Bool:=decide (1<=l.length) && (decide (l.length<=8) && l.all ltB)
noncomputable def z1m (l:List Nat):Bool:=if l.take 1=[45] then !decide (l=[45,48]) && z5g (l.drop 1) else z5g l
noncomputable def z5m (p:Str) (l:List Nat):Bool:=if p = "name" then nmB l else if p = "turn" then z1m l else if p = "prime" then z4m 12 l else if p = "number" then z4m 50 l else true
theorem y1m (c:Nat):(!(Builtin.Str.occurrences (Str.ofString "abcdefghijklmnopqrstuvwxyz") ⟨#[c]⟩ 0 (Str.ofString "abcdefghijklmnopqrstuvwxyz").length 1).isEmpty)=ltB c:=by
 rw[StrLaws.found_one,show (Str.ofString "abcdefghijklmnopqrstuvwxyz").cps.toList=List.range' 97 26 by decide +kernel];unfold ltB;rw[decide_eq_decide,List.mem_range'_1];omega
noncomputable def vh:Sp:=fun vs H Q _=>∃l:List Nat,vs=[.str (tx l)]/\TxOk l/\∀H',Same H H'->Q (.bl (nmB l)) H'
theorem z7F (T:TF K mg "is_name" w9) (m_len:mg "len" = none) (m_all:mg "all" = none) (c_LETTERS:CS mg "LETTERS" "abcdefghijklmnopqrstuvwxyz") (c_MOST_LETTERS:CI mg "MOST_LETTERS" 8):Has P w K mg base 1 "is_name" ["word"] vh:=by
 refine T.has z5I (fun _ _ _ _ _ _=>L2.bnd1 fun _=>rfl) (fun vs H Q E h=>?_) (fun f cdv A outer s H vs Q E hr h=>?_)
 ·refine pA fun Gh gI=>?_;obtain⟨l,rfl,_⟩:=h;refine gI ?_;rfl
 refine pA fun Gi gJ=>?_;obtain⟨l,rfl,hl,q⟩:=h;refine gJ ?_;refine⟨_,(zJ (zR (vm (z0x z2J z2J zF (ze xK rfl m_len PySem.boot_len (zB (pv 0) zE)) (vV rfl c_MOST_LETTERS)) (z2F (ze (z2m rfl) rfl m_all (by decide +kernel) (zB (xV (CompSc.none (own:=["sign"]) (by decide +kernel) (by decide +kernel) rfl (by decide +kernel)) rfl (z9U (pv 0)) (fun _ _ _=>(zY (i:=0) (show (["sign"]:List Str).Nodup from by decide +kernel) rfl (Or.inl rfl) (Or.inr rfl))) (fun _ _ _=>yq) (fun _ _ _=>(xW z2K (pv 0) (y1c rfl c_LETTERS) rfl))) zE)))))),?_⟩;have ln:=hl.1;have tl:=zS l;walk_at "wp";have no:nmB l=false->Q (.bl false) H:=fun e=>by
  have:=q H (Same.refl H);rw[e] at this;exact this
 refine⟨_,rfl,by omega,fun c1=>⟨fun c2=>⟨_,rfl,hl.asc,?_⟩,fun c2=>no ?_⟩,fun c1=>no ?_⟩
 ·obtain⟨Sv,hSv⟩:∃Sv:St->Prop,Sv=fun σ=>∃o1,σ=[o1]:=⟨_,rfl⟩
  obtain⟨Pv,hPv⟩:∃Pv:Addr->Nat->List V->Hp->Prop,Pv=fun D i ys H3=>H D=none/\Same H H3/\ys=((l.take i).map ltB).map V.bl:=⟨_,rfl⟩
  refine z2h Sv Pv (by rw[hSv];exact⟨none,rfl⟩) (fun D hD=>?_) (fun D i c ys σ H3 hx hs hD hy h=>?_) (fun D ys H3 hD h=>?_)
  ·rw[hPv];exact⟨hD,zH hD _,rfl⟩
  ·rw[hSv] at hs;rw[hPv] at h;obtain⟨o1,rfl⟩:=hs;refine pA fun Gj gK=>?_;obtain⟨nD,g,rfl⟩:=h;refine gK ?_;have hx':l[i]?=some c:=by
    rw[←zh l,Array.getElem?_toList];exact hx
   have hi:=(List.getElem?_eq_some_iff.mp hx').1;walk_at "wp";refine⟨_,_,rfl,rfl,?_⟩;rw[y1m];refine CompP.mk hD hy (by rw[sizeLine_eq];omega) (by rw[hSv];exact⟨_,rfl⟩) (by
    rw[hPv];refine⟨nD,g.write nD _,?_⟩;rw[List.take_add_one,hx'];simp)
  ·rw[hPv] at h;refine pA fun Gk gL=>?_;obtain⟨nD,g,rfl⟩:=h;refine gL ?_;have es:(tx l).cps.size=l.length:=tl;rw[es,List.take_length] at hD;refine⟨D,_,rfl,SqL.of hD,?_⟩;have ef:(l.map ltB).all id=nmB l:=by
    unfold nmB;rw[decide_eq_true (p:=1<=l.length) (by omega),decide_eq_true (p:=l.length<=8) (by omega),List.all_map];rfl
   rw[ef];exact q _ g
 ·unfold nmB;rw[decide_eq_false (p:=l.length<=8) (by omega)];simp
 ·unfold nmB;rw[decide_eq_false (p:=1<=l.length) (by omega)];simp
noncomputable def vg:Sp:=fun vs H Q _=>∃l:List Nat,vs=[.str (tx l)]/\TxOk l/\∀H',Same H H'->Q (.bl (z1m l)) H'
theorem z7E (T:TF K mg "is_turn" w8) (c_MOST_FIGURES:CI mg "MOST_FIGURES" 100) (G_is_figures:Has P w K mg base 1 "is_figures" ["text", "most"] jN):Has P w K mg base 2 "is_turn" ["word"] vg:=by
 refine T.has z5H (fun _ _ _ _ _ _=>L2.bnd1 fun _=>rfl) (fun vs H Q E h=>?_) (fun f cdv A outer s H vs Q E hr h=>?_)
 ·refine pA fun Gm gM=>?_;obtain⟨l,rfl,_⟩:=h;refine gM ?_;rfl
 refine pA fun Gn gO=>?_;obtain⟨l,rfl,hl,q⟩:=h;refine gO ?_;refine⟨_,(zC (zl (yd (qh PySem.F.plainAttrs_str PySem.F.slot_str_startswith PySem.F.type_str_startswith z6g (pv 0) (zB zQ zE)) (fun _=>rfl)) (zJ (zR (vm (xW z6b (pv 0) zQ (zW _)) (z2F (zV (G_is_figures.mono (by first|decide|omega)) hr (zB (xh y1M (pv 0) (jG zF) qf) (zB (vV rfl c_MOST_FIGURES) zE))))))) zL) (zJ (zR (zV (G_is_figures.mono (by first|decide|omega)) hr (zB (pv 0) (zB (vV rfl c_MOST_FIGURES) zE)))))),?_⟩;have ln:=hl.1;have tl:=zS l;walk_at "wp";have mT:Str.ofString "-" = tx [45]:=by decide +kernel
 have zT:Str.ofString "-0" = tx [45,48]:=by decide +kernel
 have sb:=z6A l [45] 0 (by decide);rw[Nat.zero_add,List.drop_zero] at sb;refine⟨rfl,_,_,rfl,rfl,fun c=>?_,fun c=>?_⟩
 ·rw[mT,sb,decide_eq_true_eq] at c;have c':l.take 1=[45]:=c;have l1:1<=l.length:=by
   have:=congrArg List.length c';rw[List.length_take] at this;simp at this;omega
  unfold z1m at q;rw[if_pos c'] at q;rw[zT];refine neT ⟨_,rfl,fun c2=>?_,fun c2=>?_⟩
  ·rw[c2,Bool.true_and] at q;refine⟨_,rfl,by rw[tl,sizeLine_eq];omega,?_⟩;have e1:Txt.slice (tx l) (some 1) none=tx (l.drop 1):=z5F (i:=1) l1;rw[e1];exact⟨l.drop 1,100,rfl,⟨by rw[List.length_drop];omega,fun x hx=>hl.2 x (List.mem_of_mem_drop hx)⟩,q⟩
  ·have c3:(!decide (l=[45,48]))=false:=by simpa using c2
   rw[c3] at q;exact q H (Same.refl H)
 ·rw[mT,sb,decide_eq_true_eq] at c;have c':¬l.take 1=[45]:=c;unfold z1m at q;rw[if_neg c'] at q;exact⟨l,100,rfl,hl,q⟩
noncomputable def z6K:Sp:=fun vs H Q _=>∃(p:Str) (l:List Nat),vs=[.str p,.str (tx l)]/\TxOk l/\∀H',Same H H'->Q (.bl (z5m p l)) H'
theorem y2A (T:TF K mg "fits" z6O) (c_PRIME_FIGURES:CI mg "PRIME_FIGURES" 12) (c_GRID_FIGURES:CI mg "GRID_FIGURES" 50) (G_is_figures:Has P w K mg base 1 "is_figures" ["text", "most"] jN) (G_is_name:Has P w K mg base 1 "is_name" ["word"] vh) (G_is_turn:Has P w K mg base 2 "is_turn" ["word"] vg):Has P w K mg base 3 "fits" ["place", "word"] z6K:=by
 refine T.has z9q (fun _ _ _ _ _ _=>L2.bnd2 fun _ _=>rfl) (fun vs H Q E h=>?_) (fun f cdv A outer s H vs Q E hr h=>?_)
 ·refine pA fun Go gP=>?_;obtain⟨p,l,rfl,_⟩:=h;refine gP ?_;rfl
 refine pA fun Gp gQ=>?_;obtain⟨p,l,rfl,hl,q⟩:=h;refine gQ ?_;refine⟨_,(zC (zl (zN yt (pv 0) zQ (zW _)) (zJ (zR (zV (G_is_name.mono (by first|decide|omega)) hr (zB (pv 1) zE)))) zL) (zC (zl (zN yt (pv 0) zQ (zW _)) (zJ (zR (zV (G_is_turn.mono (by first|decide|omega)) hr (zB (pv 1) zE)))) zL) (zC (zl (zN yt (pv 0) zQ (zW _)) (zJ (zR (zV (G_is_figures.mono (by first|decide|omega)) hr (zB (pv 1) (zB (vV rfl c_PRIME_FIGURES) zE))))) zL) (zC (zl (zN yt (pv 0) zQ (zW _)) (zJ (zR (zV (G_is_figures.mono (by first|decide|omega)) hr (zB (pv 1) (zB (vV rfl c_GRID_FIGURES) zE))))) zL) (zJ (zR jx)))))),?_⟩;walk_at "wp";unfold z5m at q;refine eqS ⟨_,rfl,fun c=>?_,fun c=>?_⟩
 ·rw[if_pos (of_decide_eq_true c)] at q;exact⟨l,rfl,hl,q⟩
 rw[if_neg (fun z=>c (decide_eq_true z))] at q;refine eqS ⟨_,rfl,fun c=>?_,fun c=>?_⟩
 ·rw[if_pos (of_decide_eq_true c)] at q;exact⟨l,rfl,hl,q⟩
 rw[if_neg (fun z=>c (decide_eq_true z))] at q;refine eqS ⟨_,rfl,fun c=>?_,fun c=>?_⟩
 ·rw[if_pos (of_decide_eq_true c)] at q;exact⟨l,12,rfl,hl,q⟩
 rw[if_neg (fun z=>c (decide_eq_true z))] at q;refine eqS ⟨_,rfl,fun c=>?_,fun c=>?_⟩
 ·rw[if_pos (of_decide_eq_true c)] at q;exact⟨l,50,rfl,hl,q⟩
 rw[if_neg (fun z=>c (decide_eq_true z))] at q;exact q H (Same.refl H)
noncomputable def vQ:List (Str×List Str):=[("plan",["name", "text"]),("pair",["name", "prime", "prime"]),("grid",["name", "number"]),("awake",["name", "turn"]),("meet",["name", "name", "turn", "turn"]),("sure",["name", "name"]),("worst",["name", "name"]),("check",["name", "name", "text"])]
noncomputable def z2d (l:List Nat):Option (List Str):=vQ.lookup (tx (l.takeWhile (· != 32)))
noncomputable def qK:List Str->List (List Nat)->Bool
 | p::ps,w::ws=>z5m p w && qK ps ws
 | _,_=>true
noncomputable def kE (l:List Nat):Option (List (List Nat)):=match z2d l with
 | none=>none
 | some f=>if (xl 32 l f.length).length=f.length+1/\qK f (xl 32 l f.length).tail=true then some (xl 32 l f.length) else none
theorem yy {z:Str} {ys:List Str}:∀ {tb:List (Str×List Str)},tb.lookup z=some ys->∃k,(k,ys)∈tb
  | [],h=>nomatch h
  | (k,v)::tb,h=>by
    rw[List.lookup_cons] at h;split at h
    · cases h;exact⟨k,by simp⟩
    · obtain⟨k',hk⟩:=yy h;exact⟨k',by simp [hk]⟩
theorem z7J {z:Str} {f:List Str} (h:vQ.lookup z=some f):f.length<=4:=by
 obtain⟨k,hk⟩:=yy h;have all:∀p∈vQ,p.2.length<=4:=by
  intro p hp;simp only [vQ,List.mem_cons,List.not_mem_nil,or_false] at hp;rcases hp with rfl|rfl|rfl|rfl|rfl|rfl|rfl|rfl <;> simp
 exact all _ hk
theorem z9E (xs:List V):z7q xs (some 1) none=xs.drop 1:=by
 unfold z7q;rw[HT.sIx_none,show (1:Int)=((1:Nat):Int) from rfl,HT.sIx_nat];cases xs with
 | nil=>rfl
 | cons x xs=>
  rw[List.take_of_length_le (by rw[List.length_drop];omega)];congr 1
noncomputable def wO (N:Addr):Sp:=fun vs H Q E=>∃l:List Nat,vs=[.str (tx l)]/\TxOk l/\(kE l=none->∀x H',Same H H'->H' x=none->E (.ref N) (some x) H')/\∀ws D H',kE l=some ws->Same H H'->H D=none->H' D=some (.lst ((ws.map tx).map V.str))->Q (.ref D) H'
theorem z5U {c_NoRow:Addr} {bm:List Value} (T:TF K mg "words_of" qW) (m_len:mg "len" = none) (m_zip:mg "zip" = none) (m_isinstance:mg "isinstance" = none) (m_str:mg "str" = none) (O_NoRow:OX K mg "NoRow" c_NoRow bm) (D_FORMS:CDT P w K mg "FORMS" vQ) (G_fits:Has P w K mg base 3 "fits" ["place", "word"] z6K):HasX P w K mg base 4 "words_of" ["row"] (wO c_NoRow):=by
 refine T.hasX xA (fun _ _ _ _ _ _=>L2.bnd1 fun _=>rfl) (fun vs H Q E h=>?_) (fun f cdv A outer s H vs Q E hr h=>?_)
 ·refine pA fun Gq gR=>?_;obtain⟨l,rfl,_⟩:=h;refine gR ?_;rfl
 refine pA fun Gu gU=>?_;obtain⟨l,rfl,hl,qx,q⟩:=h;refine gU ?_;refine⟨_,(zC (zl (xn (yd (ze z4v rfl m_isinstance (by decide +kernel) (zB (pv 0) (zB (z3L (v:=.ty "str") rfl m_str (by decide +kernel) rfl) zE))) (fun _=>rfl))) (zJ (xI O_NoRow rfl qr (zB zQ zE))) zL) (zC (zP (i:=1) xA.nd rfl (Or.inl rfl) (y0H D_FORMS rfl (zn yW (qh PySem.F.plainAttrs_str PySem.F.slot_str_partition PySem.F.type_str_partition z2M (pv 0) (zB zQ zE)) zF (fun _ _=>rfl)) ⟨rfl,rfl,rfl,rfl⟩)) (zC (zl (zN z4U (pv 1) ye (zW _)) (zJ (xI O_NoRow rfl qr (zB zQ zE))) zL) (zC (zP (i:=2) xA.nd rfl (Or.inl rfl) (qh PySem.F.plainAttrs_str PySem.F.slot_str_split PySem.F.type_str_split z6h (pv 0) (zB zQ (zB (ze yI rfl m_len PySem.boot_len (zB (pv 1) zE)) zE)))) (zC (zl (zN z6b (ze yI rfl m_len PySem.boot_len (zB (pv 2) zE)) (zM j8 (ze yI rfl m_len PySem.boot_len (zB (pv 1) zE)) zF) (zW _)) (zJ (xI O_NoRow rfl qr (zB zQ zE))) zL) (zC (x4 (xZ y1d rfl (y0D rfl m_zip (pv 1) (xh wT (pv 2) (jG zF) qf)) (we rfl (zj (zY (i:=3) xA.nd rfl (Or.inl rfl)) (zj (zY (i:=4) xA.nd rfl (Or.inl rfl)) xg))) (zJ (zl (xn (yd (zV (G_fits.mono (by first|decide|omega)) hr (zB (pv 3) (zB (pv 4) zE))) (fun _=>rfl))) (zJ (xI O_NoRow rfl qr (zB zQ zE))) zL)))) (zJ (zR (pv 2))))))))),?_⟩;have ln:=hl.1;have tl:=zS l;walk_at "wpd";refine⟨_,_,_,true,rfl,.str _,rfl,_,rfl,(fun c=>nomatch c),fun _=>?_⟩;walk_at "wpd";rw[z0C];refine⟨rfl,_,_,rfl,rfl,rfl,by rw[tl];omega,fun D nD=>?_⟩;have gD:=zH nD (.tup [V.str (Txt.partition (tx l) ⟨#[32]⟩).1,V.str (Txt.partition (tx l) ⟨#[32]⟩).2.1,V.str (Txt.partition (tx l) ⟨#[32]⟩).2.2]);refine⟨D,_,_,_,rfl,rfl,SqT.of zG,rfl,_,rfl,?_⟩;generalize upd H D (.tup [V.str (Txt.partition (tx l) ⟨#[32]⟩).1,V.str (Txt.partition (tx l) ⟨#[32]⟩).2.1,V.str (Txt.partition (tx l) ⟨#[32]⟩).2.2])=H1 at gD ⊢;rw[z2G,zh];refine⟨fun e=>⟨by decide,fun x hx=>qx ?_ x H1 gD hx⟩,fun f b e hf=>?_⟩
 ·unfold kE z2d;rw[e]
 have lf:=z7J e;have er:kE l=if (xl 32 l f.length).length=f.length+1/\qK f (xl 32 l f.length).tail=true then some (xl 32 l f.length) else none:=by
  unfold kE z2d;rw[e]
 refine⟨rfl,b,_,rfl,.inr hf,_,_,f.length,rfl,by rw[List.length_map],rfl,by omega,by rw[tl];omega,fun D2 nD2=>?_⟩;rw[z1o _ _ _ (by decide),zh];have wsm:∀w∈xl 32 l f.length,TxOk w:=fun w hw=>by
  obtain⟨a,b⟩:=qT hw;exact⟨by omega,fun x hx=>hl.2 x (b x hx)⟩
 generalize xl 32 l f.length=ws at er wsm;have g2:=zH nD2 (.lst ((ws.map tx).map V.str));have h2:=zG (H:=H1) (a:=D2) (o:=.lst ((ws.map tx).map V.str));have nD2':=gD.free nD2;have hf2:=g2.seqT hf;have G2:=gD.trans g2;generalize upd H1 D2 (.lst ((ws.map tx).map V.str))=H2 at g2 h2 hf2 G2 ⊢;refine⟨D2,_,rfl,.inl (SqL.of h2),b,_,rfl,.inr hf2,fun c=>⟨by decide,fun x hx=>qx ?_ x H2 G2 hx⟩,fun c=>?_⟩
 ·rw[er,if_neg fun z=>c ?_];simp only [List.length_map];have:=z.1;omega
 simp only [List.length_map] at c;have lw:ws.length=f.length+1:=by omega
 walk_at "wpd";refine⟨fun σ H'=>∃o3 o4,σ=[some (.str (tx l)),some (.ref b),some (.ref D2),o3,o4]/\Same H2 H'/\qK f ws.tail=true,?_,?_⟩
 ·walk_at "wpd";refine⟨D2,_,rfl,SqL.of h2,fun p3 n3=>?_⟩;rw[z9E];have g3:=zH n3 (.lst (((ws.map tx).map V.str).drop 1));have h3:=zG (H:=H2) (a:=p3) (o:=.lst (((ws.map tx).map V.str).drop 1));have hf3:=g3.seqT hf2;generalize upd H2 p3 (.lst (((ws.map tx).map V.str).drop 1))=H3 at g3 h3 hf3 ⊢;refine⟨b,p3,_,_,rfl,rfl,hf3,SqL.of h3,?_⟩;obtain⟨Pv,hPv⟩:∃Pv:Nat->St->Hp->Prop,Pv=fun i σ H'=>∃o3 o4,σ=[some (.str (tx l)),some (.ref b),some (.ref D2),o3,o4]/\Same H3 H'/\qK f ws.tail=qK (f.drop i) (ws.tail.drop i):=⟨_,rfl⟩
  refine z7L Pv ?_ (fun i σ H' h=>?_) (fun i u v T σ H' hu hv nT h=>?_) (fun σ H' h=>?_)
  ·rw[hPv];exact⟨none,none,rfl,Same.refl _,rfl⟩
  ·rw[hPv] at h;refine pA fun Gv gW=>?_;obtain⟨_,_,_,g,_⟩:=h;refine gW ?_;exact⟨g.seqT hf3,SqL.of (g _ _ h3)⟩
  ·rw[hPv] at h;refine pA fun Gw fA=>?_;obtain⟨o3,o4,rfl,g,ef⟩:=h;refine fA ?_;rw[List.getElem?_map] at hu;refine pA fun Gx fB=>?_;obtain⟨p,hp,rfl⟩:=Option.map_eq_some_iff.mp hu;refine fB ?_;rw[←List.map_drop,←List.map_drop,List.getElem?_map,List.getElem?_map] at hv;refine pA fun Gy fE=>?_;obtain⟨z,hz,rfl⟩:=Option.map_eq_some_iff.mp hv;refine fE ?_;refine pA fun Gz fF=>?_;obtain⟨wd,hwd,rfl⟩:=Option.map_eq_some_iff.mp hz;refine fF ?_;have gT:=zH nT (.tup [V.str p,V.str (tx wd)]);refine⟨T,_,rfl,SqT.of zG,rfl,?_⟩;walk_at "wpd";have fd:f.drop i=p::f.drop (i+1):=by
    obtain⟨hi,e1⟩:=List.getElem?_eq_some_iff.mp hp;rw[←e1,List.drop_eq_getElem_cons hi]
   have wd2:ws.tail.drop i=wd::ws.tail.drop (i+1):=by
    rw[←List.drop_one];obtain⟨hi,e1⟩:=List.getElem?_eq_some_iff.mp hwd;rw[←e1,List.drop_eq_getElem_cons hi]
   rw[fd,wd2] at ef;have ef2:qK f ws.tail=(z5m p wd && qK (f.drop (i+1)) (ws.tail.drop (i+1))):=ef;refine⟨p,wd,rfl,wsm wd (List.mem_of_mem_drop (List.mem_of_getElem? hwd)),fun H5 g5=>⟨_,rfl,fun c=>⟨by decide,fun x hx=>qx ?_ x H5 (G2.trans (g3.trans (g.trans (gT.trans g5)))) hx⟩,fun c=>?_⟩⟩
   ·rw[er,if_neg];rintro⟨_,z⟩;rw[ef2,c] at z;cases z
   ·have c':z5m p wd=true:=by simpa using c
    rw[c',Bool.true_and] at ef2;rw[hPv];exact⟨_,_,rfl,g.trans (gT.trans g5),ef2⟩
  ·rw[hPv] at h;refine pA fun G0 fG=>?_;obtain⟨o3,o4,rfl,g,ef⟩:=h;refine fG ?_;have e0:f.drop (min (f.map V.str).length (((ws.map tx).map V.str).drop 1).length)=[]:=List.drop_eq_nil_of_le (by simp;omega);rw[e0] at ef;exact⟨o3,o4,rfl,g3.trans g,by rw[ef];rfl⟩
 rintro σ H' ⟨o3,o4,rfl,g,ef⟩;walk_at "wpd";exact q ws D2 H' (by rw[er,if_pos ⟨lw,ef⟩]) (G2.trans g) nD2' (g _ _ h2)
theorem z9b {n:Int} (h:n<0):dg n=45::dg (-n):=by
 obtain⟨m,rfl⟩:∃m:Nat,n=Int.negSucc m:=by
  cases n with
  | ofNat m=>exact absurd h (by simp)
  | negSucc m=>exact⟨m,rfl⟩
 unfold dg;have e:-(Int.negSucc m)=((m+1:Nat):Int):=rfl;rw[e,PyProof.Rows.signs_ofString,PyProof.Rows.signs_ofString];show ("-" ++ toString (m+1)).toList.map Char.toNat=45::(toString (m+1)).toList.map Char.toNat;rw[String.toList_append,List.map_append];rfl
structure SgOk (n:Int):Prop where
 rd:intText? (tx (dg n))=some n
 len:(dg n).length<=101
 sz:n.natAbs.log2<1920
 sg:∀c∈dg n,c=45∨48<=c/\c<=57
 turn:z1m (dg n)=true
theorem z3b {n:Int} (h:DgOk n):z5g (dg n)=true:=by
 refine z8z.mpr ⟨List.length_pos_iff.mpr h.ne,h.len,fun⟨a,b⟩=>?_,h.all⟩;have:=h.zero a;omega
theorem y1P {n:Int} (h0:-(10^100)<n) (h1:n<10^100):SgOk n:=by
 have sz:n.natAbs.log2<1920:=by
  by_cases z:n.natAbs=0
  ·rw[z];decide
  ·refine (Nat.log2_lt z).mpr (Nat.lt_of_lt_of_le (m:=10^100) (by omega) (by decide +kernel))
 rcases Int.lt_or_le n 0 with c|c
 ·have d:=z1Z (n:=-n) (by omega) (by omega);have e:=z9b c;have fg:=z3b d;refine⟨?_,by rw[e,List.length_cons];have:=d.len;omega,sz,fun x hx=>?_,?_⟩
  ·have:=intText_neg (x:=tx (dg n)) (cs:=dg (-n)) (by rw[zh,e]) d.all d.ne (by rw[zS,e,List.length_cons];have:=d.len;omega);rw[this,d.val];congr 1;omega
  ·rw[e] at hx;rcases List.mem_cons.mp hx with rfl|hx
   ·exact .inl rfl
   ·exact .inr (d.all x hx)
  ·unfold z1m;rw[e,if_pos (by rfl)];have ne:¬(45::dg (-n))=[45,48]:=fun z=>by
    have z2:dg (-n)=[48]:=(List.cons.inj z).2;have v:=d.val;rw[z2] at v;have:(0:Int) = -n:=v;omega
   rw[decide_eq_false ne];show (true && z5g (dg (-n)))=true;rw[fg];rfl
 ·have d:=z1Z c h1;have fg:=z3b d;refine⟨?_,by have:=d.len;omega,sz,fun x hx=>.inr (d.all x hx),?_⟩
  ·have:=intText_digits (x:=tx (dg n)) (by rw[zh];exact d.all) (by rw[zh];exact d.ne) (by rw[zS];have:=d.len;omega);rw[this,zh,d.val]
  ·unfold z1m;rw[if_neg (fun z=>?_)]
   ·exact fg
   ·have ne:=d.ne;cases e:dg n with
    | nil=>exact ne e
    | cons x r=>
     rw[e] at z;have:x=45:=by simpa using z
     have:=d.all x (by rw[e];simp);omega
noncomputable abbrev jX:=Str->Option (List T3)
noncomputable def KpP (ws:List T3):Prop:=(∀u∈ws,Wk u)/\(∀u∈ws,u.1<2^900)/\ws.length<=12
noncomputable def BkAt (H:Hp) (kvs:List (Key×V)) (L:jX):Prop:=∀z:Str,(L z=none->wK kvs (.inr z)=none)/\∀ws,L z=some ws->KpP ws/\∃D xs,wK kvs (.inr z)=some (.ref D)/\H D=some (.lst xs)/\Pl H xs ws
noncomputable def OffD (pd:Addr) (H H':Hp):Prop:=∀b o,b≠pd->H b=some o->H' b=some o
theorem Same.offD {pd:Addr} {H H':Hp} (g:Same H H'):OffD pd H H':=fun b o _ e=>g b o e
theorem OffD.trans {pd:Addr} {H H1 H2:Hp} (g:OffD pd H H1) (h:OffD pd H1 H2):OffD pd H H2:=fun b o n e=>h b o n (g b o n e)
theorem y2c {H H':Hp} {xs:List V} {ws:List T3} (h:Pl H xs ws) (k:∀b ys,H b=some (.tup ys)->H' b=some (.tup ys)):Pl H' xs ws:=⟨h.1,fun i t e=>let ⟨p,e1,e2⟩:=h.2 i t e;⟨p,e1,k _ _ e2⟩⟩
theorem BkAt.by {H H':Hp} {kvs:List (Key×V)} {L:jX} (h:BkAt H kvs L) (k1:∀b xs,H b=some (.lst xs)->H' b=some (.lst xs)) (k2:∀b ys,H b=some (.tup ys)->H' b=some (.tup ys)):BkAt H' kvs L:=fun z=>
 ⟨(h z).1,fun ws e=>let ⟨a,D,xs,e1,e2,e3⟩:=(h z).2 ws e;⟨a,D,xs,e1,k1 _ _ e2,y2c e3 k2⟩⟩
noncomputable def kg (L:jX) (z:Str) (ws:List T3):jX:=fun y=>if y=z then some ws else L y
theorem BkAt.put {H:Hp} {kvs:List (Key×V)} {L:jX} {z:Str} {D:Addr} {xs:List V} {ws:List T3} (h:BkAt H kvs L) (hk:KpP ws) (hD:H D=some (.lst xs)) (hP:Pl H xs ws):BkAt H (z3I kvs (.inr z) (.ref D)) (kg L z ws):=by
 intro y;rw[z7r];unfold kg;by_cases e:y=z
 ·rw[if_pos e,if_pos (by rw[e])];refine⟨(fun k=>nomatch k),fun us k=>?_⟩;cases k;exact⟨hk,D,xs,rfl,hD,hP⟩
 ·rw[if_neg e,if_neg (fun k=>e (Sum.inr.inj k))];exact h y
noncomputable def Dsk (C:Addr) (H:Hp) (d pd:Addr) (n:Nat) (L:jX):Prop:=(∃dx,H d=some (.ins C dx [("plans",.ref pd)]))/\∃kvs,H pd=some (.dK kvs)/\kvs.length<=n/\BkAt H kvs L
theorem Dsk.same {C:Addr} {H H':Hp} {d pd:Addr} {n:Nat} {L:jX} (h:Dsk C H d pd n L) (g:Same H H'):Dsk C H' d pd n L:=by
 refine pA fun Fa fH=>?_;obtain⟨⟨dx,hd⟩,kvs,hp,hl,hb⟩:=h;refine fH ?_;exact⟨⟨dx,g _ _ hd⟩,kvs,g _ _ hp,hl,hb.by (fun b xs e=>g _ _ e) fun b xs e=>g _ _ e⟩
structure DkTx (K:PySem.W.Frag) (C:Addr):Prop where
 cl:Cls K C
 nP:NoAttr K C "plans"
noncomputable def z4G (C:Addr):Sp:=fun vs H Q _=>∃(x dx:Addr),vs=[.ref x]/\H x=some (.ins C dx [])/\∀pd H',Dsk C H' x pd 0 (fun _=>none)->H pd=none->(∀b o,b≠x->H b=some o->H' b=some o)->Q .non H'
noncomputable def vc (K:PySem.W.Frag) (C N:Addr):Sp:=fun vs H Q E=>∃(d pd:Addr) (z:Str) (n:Nat) (L:jX),vs=[.ref d,.str z]/\Dsk C H d pd n L/\(L z=none->∀x,H x=none->E (.ref N) (some x) H)/\∀ws D xs,L z=some ws->KpP ws->H D=some (.lst xs)->Pl H xs ws->Q (.ref D) H
theorem z7C {C c_NoName:Addr} {bm:List Value} (X:DkTx K C) (T:TM K C "plan_by" "Desk.plan_by" xS) (O_NoName:OX K mg "NoName" c_NoName bm):HasMX P w K mg base 1 C "plan_by" ["self", "name"] (vc K C c_NoName):=by
 refine T.hasX w4 (fun _ _ _ _ _ _=>L2.bnd2 fun _ _=>rfl) (fun vs H Q E h=>?_) (fun f cdv A outer s H vs Q E hr h=>?_)
 ·refine pA fun Fb fI=>?_;obtain⟨d,pd,z,n,L,rfl,_⟩:=h;refine fI ?_;rfl
 refine pA fun Ga hU=>?_;obtain⟨d,pd,z,n,L,rfl,⟨⟨dx,hd⟩,kvs,hp,hl,hb⟩,qx,q⟩:=h;refine hU ?_;refine⟨_,(zC (zl (z4M (z6Z (xX hr) (pv 1) (z6X (pv 0) rfl))) (zJ (xI O_NoName rfl qr (zB zQ zE))) zL) (zJ (zR (yr (xX hr) (z6X (pv 0) rfl) (pv 1) (fun _ _=>rfl))))),?_⟩;walk_at "wpd";have dg:=DGet.k (k:=.inr z) hp;refine⟨d,C,dx,_,.ref pd,rfl,hd,X.cl,X.nP,rfl,pd,_,rfl,dg,fun c=>?_,fun c=>?_⟩
 ·cases e:L z with
  | none=>exact⟨by decide,fun x hx=>qx e x hx⟩
  | some ws=>
   refine pA fun Gb hV=>?_;obtain⟨_,D,xs,e1,_⟩:=(hb z).2 ws e;refine hV ?_;rw[e1] at c;cases c
 ·cases e:L z with
  | none=>exact absurd (by rw[(hb z).1 e];rfl) c
  | some ws=>
   refine pA fun Gc gB=>?_;obtain⟨k,D,xs,e1,e2,e3⟩:=(hb z).2 ws e;refine gB ?_;rw[e1] at dg;exact⟨d,C,dx,_,.ref pd,rfl,hd,X.cl,X.nP,rfl,pd,.ref D,rfl,dg,q ws D xs e k e2 e3⟩
noncomputable def y0l:Option Int->Str
 | none=> "never"
 | some n=>Str.ofString (toString n)
noncomputable def jZ:Sp:=fun vs H Q _=>∃r:Option Int,vs=[oV r]/\(∀n,r=some n->n.natAbs.log2<1920)/\Q (.str (y0l r)) H
theorem z1P (T:TF K mg "turn_answer" xa) (m_str:mg "str" = none):Has P w K mg base 1 "turn_answer" ["turn"] jZ:=by
 refine T.has vR (fun _ _ _ _ _ _=>L2.bnd1 fun _=>rfl) (fun vs H Q E h=>?_) (fun f cdv A outer s H vs Q E hr h=>?_)
 ·refine pA fun Ge gC=>?_;obtain⟨r,rfl,_⟩:=h;refine gC ?_;rfl
 refine pA fun Gf gG=>?_;obtain⟨r,rfl,hz,q⟩:=h;refine gG ?_;refine⟨_,(zJ (zR (jw (zN z4U (pv 0) ye (zW _)) zQ (zb zi rfl m_str (by decide +kernel) (zB (pv 0) zE))))),?_⟩;walk_at "wpd";cases r with
 | none=>exact⟨fun _=>q,fun c=>absurd rfl c⟩
 | some n=>exact⟨(fun c=>nomatch c),fun _=>⟨n,rfl,hz n rfl,q⟩⟩
noncomputable def xo:List Nat:=[112,108,97,110]
noncomputable def qP:List Nat:=[97,119,97,107,101]
noncomputable def y2f:List Nat:=[109,101,101,116]
theorem z8O:Str.ofString "plan" = tx xo:=by decide +kernel
theorem z7i:Str.ofString "awake" = tx qP:=by decide +kernel
theorem z8Z:Str.ofString "meet" = tx y2f:=by decide +kernel
noncomputable def j5:Sp:=fun vs H Q _=>∃n:Int,vs=[.str (tx (dg n))]/\DgOk n/\∀H',Same H H'->Q (.int n) H'
theorem vY (T:TF K mg "read_number" xc) (m_int:mg "int" = none) (c_MOST_FIGURES:CI mg "MOST_FIGURES" 100) (G_is_figures:Has P w K mg base 1 "is_figures" ["text", "most"] jN):Has P w K mg base 2 "read_number" ["text"] j5:=by
 refine T.has vS (fun _ _ _ _ _ _=>L2.bnd1 fun _=>rfl) (fun vs H Q E h=>?_) (fun f cdv A outer s H vs Q E hr h=>?_)
 ·refine pA fun Gg gH=>?_;obtain⟨n,rfl,_⟩:=h;refine gH ?_;rfl
 refine pA fun Gh gI=>?_;obtain⟨n,rfl,d,q⟩:=h;refine gI ?_;refine⟨_,(zC (zl (xn (yd (zV (G_is_figures.mono (by first|decide|omega)) hr (zB (pv 0) (zB (vV rfl c_MOST_FIGURES) zE))) (fun _=>rfl))) (zJ yJ) zL) (zJ (zR (zb ya rfl m_int (by decide +kernel) (zB (pv 0) zE))))),?_⟩;walk_at "wp";have tl:=zS (dg n);have ln:=d.len;refine⟨dg n,100,rfl,⟨by omega,fun x hx=>by have:=d.all x hx;omega⟩,fun H1 g1=>?_⟩;have ef:z4m 100 (dg n)=true:=z3b d;rw[ef];walk_at "wp";have e:=intText_digits (x:=tx (dg n)) (by rw[zh];exact d.all) (by rw[zh];exact d.ne) (by omega);rw[zh,d.val] at e;exact⟨_,n,rfl,e,by omega,q _ g1⟩
noncomputable def xG (u:T3) (short:Bool):List (List Nat):=if short=true/\u.2.2=1 then [dg u.1,dg u.2.1] else [dg u.1,dg u.2.1,dg u.2.2]
noncomputable def xM (u:T3) (short:Bool):List Nat:=glu 58 (xG u short)
noncomputable def WOk (u:T3):Prop:=DgOk u.1/\DgOk u.2.1/\DgOk u.2.2
theorem wJ {u:T3} (h:WOk u) (short:Bool) {c:Nat} (hc:c<48∨57<c):∀p∈xG u short,c∉p:=fun p hp=>by
 unfold xG at hp;split at hp
 ·simp only [List.mem_cons,List.not_mem_nil,or_false] at hp;rcases hp with rfl|rfl
  ·exact xE h.1.all hc
  ·exact xE h.2.1.all hc
 ·simp only [List.mem_cons,List.not_mem_nil,or_false] at hp;rcases hp with rfl|rfl|rfl
  ·exact xE h.1.all hc
  ·exact xE h.2.1.all hc
  ·exact xE h.2.2.all hc
noncomputable def j4:Sp:=fun vs H Q _=>∃(u:T3) (short:Bool),vs=[.str (tx (xM u short))]/\WOk u/\∀(p:Addr) (H':Hp),Same H H'->H' p=some (z2t u)->Q (.ref p) H'
theorem wI {u:T3} (h:WOk u) (short:Bool):(xM u short).length<=310:=by
 have a:=h.1.len;have b:=h.2.1.len;have c:=h.2.2.len;unfold xM xG;split <;> simp [glu] <;> omega
theorem z1Q (T:TF K mg "read_waking" xb) (m_len:mg "len" = none) (m_tuple:mg "tuple" = none) (G_read_number:Has P w K mg base 2 "read_number" ["text"] j5):Has P w K mg base 3 "read_waking" ["word"] j4:=by
 refine T.has j6 (fun _ _ _ _ _ _=>L2.bnd1 fun _=>rfl) (fun vs H Q E h=>?_) (fun f cdv A outer s H vs Q E hr h=>?_)
 ·refine pA fun Gi gJ=>?_;obtain⟨u,short,rfl,_⟩:=h;refine gJ ?_;rfl
 refine pA fun Gj gK=>?_;obtain⟨u,short,rfl,hu,q⟩:=h;refine gK ?_;refine⟨_,(zC (vj (i:=1) j6.nd rfl (Or.inl rfl) (CompSc.none (own:=["part"]) (by decide +kernel) (by decide +kernel) rfl (by decide +kernel)) rfl (y7 (qh PySem.F.plainAttrs_str PySem.F.slot_str_split PySem.F.type_str_split z4Z (pv 0) (zB zQ zE))) (fun _ _ _=>(zY (i:=0) (show (["part"]:List Str).Nodup from by decide +kernel) rfl (Or.inl rfl) (Or.inr rfl))) (fun _ _ _=>yq) (fun _ _ _=>(zV (G_read_number.mono (by first|decide|omega)) hr (zB (pv 0) zE)))) (zC (zl (zN yt (ze yI rfl m_len PySem.boot_len (zB (pv 1) zE)) zF (zW _)) (zJ (z0w (qh PySem.F.plainAttrs_list PySem.F.slot_list_append PySem.F.type_list_append qC (pv 1) (zB zF zE)))) zL) (zC (zl (zN z6b (ze yI rfl m_len PySem.boot_len (zB (pv 1) zE)) zF (zW _)) (zJ yJ) zL) (zJ (zR (zb z1d rfl m_tuple (by decide +kernel) (zB (pv 1) zE))))))),?_⟩;have wl:=wI hu short;have tl:=zS (xM u short);have es:Txt.split (tx (xM u short)) (Str.ofString ":")=(xG u short).map tx:=by
  rw[z7b];exact v9 (by decide) rfl (by unfold xG;split <;> simp) (wJ hu short (.inr (by decide)))
 walk_at "wp";have e1:(Str.ofString ":").length=1:=by rw[z7b];rfl
 refine⟨rfl,_,_,rfl,rfl,by rw[e1];rfl,by omega,fun D nD=>?_⟩;rw[es];obtain⟨ns,en,ed,el⟩:∃ns:List Int,xG u short=ns.map dg/\(∀n∈ns,DgOk n)/\(ns=[u.1,u.2.1]/\u.2.2=1∨ns=[u.1,u.2.1,u.2.2]):=by
  unfold xG;split
  ·rename_i c
   exact⟨[u.1,u.2.1],rfl,fun n hn=>by
    simp only [List.mem_cons,List.not_mem_nil,or_false] at hn;rcases hn with rfl|rfl
    ·exact hu.1
    ·exact hu.2.1,.inl ⟨rfl,c.2⟩⟩
  ·exact⟨[u.1,u.2.1,u.2.2],rfl,fun n hn=>by
    simp only [List.mem_cons,List.not_mem_nil,or_false] at hn;rcases hn with rfl|rfl|rfl
    ·exact hu.1
    ·exact hu.2.1
    ·exact hu.2.2,.inr rfl⟩
 have ln:ns.length<=3:=by rcases el with⟨e,_⟩|e <;> rw[e] <;> simp
 rw[en];have gD:=zH nD (.lst (((ns.map dg).map tx).map V.str));have hD:=zG (H:=H) (a:=D) (o:=.lst (((ns.map dg).map tx).map V.str));generalize upd H D (.lst (((ns.map dg).map tx).map V.str))=H1 at gD hD ⊢;refine⟨⟨_,SqL.of hD⟩,?_⟩;obtain⟨Sv,hSv⟩:∃Sv:St->Prop,Sv=fun σ=>∃o1,σ=[o1]:=⟨_,rfl⟩
 obtain⟨Pv,hPv⟩:∃Pv:Addr->Nat->List V->Hp->Prop,Pv=fun D2 i ys H2=>H1 D2=none/\Same H1 H2/\ys=(ns.take i).map V.int:=⟨_,rfl⟩
 refine yz (xs:=((ns.map dg).map tx).map V.str) Sv Pv (by rw[hSv];exact⟨none,rfl⟩) (fun D2 hD2=>?_) (fun D2 i ys H2 hD2 h=>?_) (fun D2 i x ys σ H2 hx hi hs hD2 hy h=>?_) (fun D2 ys H2 hD2 h=>?_)
 ·rw[hPv];exact⟨hD2,zH hD2 _,rfl⟩
 ·rw[hPv] at h;exact SqL.of (h.2.1 _ _ hD)
 ·rw[hSv] at hs;rw[hPv] at h;obtain⟨o1,rfl⟩:=hs;refine pA fun Gk gL=>?_;obtain⟨nD2,g,rfl⟩:=h;refine gL ?_;rw[List.map_map,List.map_map,List.getElem?_map] at hx;refine pA fun Gm gM=>?_;obtain⟨n,hn,rfl⟩:=Option.map_eq_some_iff.mp hx;refine gM ?_;simp only [List.length_map] at hi;walk_at "wp";refine⟨n,rfl,ed n (List.mem_of_getElem? hn),fun H3 g3=>?_⟩;have hD3:=g3 _ _ hD2;refine CompP.mk hD3 hy (by rw[sizeLine_eq];omega) (by rw[hSv];exact⟨_,rfl⟩) (by
   rw[hPv];refine⟨nD2,(g.trans g3).write nD2 _,?_⟩;rw[List.take_add_one,hn];simp)
 rw[hPv] at h;refine pA fun Gn gO=>?_;obtain⟨nD2,g,rfl⟩:=h;refine gO ?_;rw[List.length_map,List.length_map,List.length_map,List.take_length] at hD2;have G:=gD.trans g;have fD:H D2=none:=gD.free nD2;rcases el with⟨rfl,el⟩|rfl
 ·refine⟨_,_,rfl,.inl (SqL.of hD2),fun _=>⟨.inl ⟨rfl,_,SqL.of hD2⟩,D2,_,_,rfl,rfl,hD2,by rw[sizeLine_eq];simp,?_⟩,fun c=>absurd rfl c⟩;refine⟨_,_,rfl,.inl (SqL.of zG),fun c=>absurd rfl c,fun _=>⟨_,_,rfl,.inl ⟨SqL.of zG,fun p np=>?_⟩⟩⟩;refine q p _ ((G.write fD _).trans (zH np _)) ?_;rw[zG];show some (HO.tup [V.int u.1,V.int u.2.1,V.int 1])=some (HO.tup [V.int u.1,V.int u.2.1,V.int u.2.2]);rw[el]
 ·refine⟨_,_,rfl,.inl (SqL.of hD2),fun c=>absurd c (by simp),fun _=>⟨_,_,rfl,.inl (SqL.of hD2),fun c=>absurd rfl c,fun _=>⟨_,_,rfl,.inl ⟨SqL.of hD2,fun p np=>?_⟩⟩⟩⟩;exact q p _ (G.trans (zH np _)) zG
noncomputable def xT (ws:List T3) (short:Bool):List Nat:=if ws=[] then z6f else glu 32 (ws.map fun u=>xM u short)
theorem z4k {c:Nat} {p:List Nat} {ps:List (List Nat)} {x:Nat} {r:List Nat} (e:p=x::r):∃r',glu c (p::ps)=x::r':=by
 subst e;cases ps with
 | nil=>exact⟨r,rfl⟩
 | cons q ps=>exact⟨_,rfl⟩
theorem z8K {ws:List T3} {short:Bool} (ne:ws≠[]) (h:∀u∈ws,WOk u):tx (xT ws short)≠Str.ofString "never" :=fun e=>by
 cases ws with
 | nil=>exact ne rfl
 | cons u ws=>
  obtain⟨c0,r0,e0⟩:∃c r,dg u.1=c::r:=by
   cases e:dg u.1 with
   | nil=>exact absurd e (h u (by simp)).1.ne
   | cons c r=>exact⟨c,r,rfl⟩
  have hc:=(h u (by simp)).1.all c0 (by rw[e0];simp);have ew:∃r,xM u short=c0::r:=by
   unfold xM xG;split <;> exact z4k e0
  obtain⟨r1,ew⟩:=ew;obtain⟨r2,ep⟩:∃r,xT (u::ws) short=c0::r:=by
   unfold xT;rw[if_neg (by simp),List.map_cons];exact z4k ew
  have e2:=congrArg (fun z:Str=>z.cps.toList) e;simp only [zh,ep] at e2;have en:(Str.ofString "never").cps.toList=[110,101,118,101,114]:=by decide +kernel
  rw[en] at e2;injection e2 with e3;omega
theorem z5A {u:T3} (h:WOk u) (short:Bool):32∉xM u short:=by
 have f:=wJ h short (c:=32) (.inl (by decide));unfold xM;generalize xG u short=ps at f
 induction ps with
 | nil=>simp [glu]
 | cons p ps ih=>
  cases ps with
  | nil=>exact f p (by simp)
  | cons q r=>
   show 32∉p++58::glu 58 (q::r);intro m;rcases List.mem_append.mp m with z|z
   ·exact f p (by simp) z
   ·rcases List.mem_cons.mp z with z|z
    ·exact absurd z (by decide)
    ·exact ih (fun x hx=>f x (by simp [hx])) z
theorem ju {ws:List T3} (h:∀u∈ws,WOk u) (l:ws.length<=12) (short:Bool):(xT ws short).length<=5000:=by
 unfold xT;split
 ·show z6f.length<=5000;decide +kernel
 ·have:=ql (c:=32) (M:=310) (ps:=ws.map fun u=>xM u short) fun p hp=>by
   refine pA fun Go gP=>?_;obtain⟨u,hu,rfl⟩:=List.mem_map.mp hp;refine gP ?_;exact wI (h u hu) short
  rw[List.length_map] at this;omega
noncomputable def qt:Sp:=fun vs H Q _=>∃(ws:List T3) (short:Bool),vs=[.str (tx (xT ws short))]/\ws.length<=12/\(∀u∈ws,WOk u)/\(∀u∈ws,isW u=true)/\∀(D:Addr) (xs:List V) (H':Hp),Same H H'->H D=none->H' D=some (.lst xs)->Pl H' xs ws->Q (.ref D) H'
theorem z3W (T:TF K mg "read_plan" jc) (m_len:mg "len" = none) (c_MOST_WAKINGS:CI mg "MOST_WAKINGS" 12) (G_read_waking:Has P w K mg base 3 "read_waking" ["word"] j4) (G_plan_of:Has P w K mg base 2 "plan_of" ["rows"] (vb K)):Has P w K mg base 4 "read_plan" ["text"] qt:=by
 refine T.has qv (fun _ _ _ _ _ _=>L2.bnd1 fun _=>rfl) (fun vs H Q E h=>?_) (fun f cdv A outer s H vs Q E hr h=>?_)
 ·refine pA fun Gp gQ=>?_;obtain⟨ws,short,rfl,_⟩:=h;refine gQ ?_;rfl
 refine pA fun Gq gR=>?_;obtain⟨ws,short,rfl,lw,hk,hw,q⟩:=h;refine gR ?_;refine⟨_,(zC (zl (zN yt (pv 0) zQ (zW _)) (zJ (zR (zq zE))) zL) (zC (zP (i:=1) qv.nd rfl (Or.inl rfl) (qh PySem.F.plainAttrs_str PySem.F.slot_str_split PySem.F.type_str_split z4Z (pv 0) (zB zQ zE))) (zC (zl (zN z3N (ze yI rfl m_len PySem.boot_len (zB (pv 1) zE)) (vV rfl c_MOST_WAKINGS) (zW _)) (zJ yJ) zL) (zJ (zR (zV (G_plan_of.mono (by first|decide|omega)) hr (zB (xV (CompSc.none (own:=["word"]) (by decide +kernel) (by decide +kernel) rfl (by decide +kernel)) rfl (y7 (pv 1)) (fun _ _ _=>(zY (i:=0) (show (["word"]:List Str).Nodup from by decide +kernel) rfl (Or.inl rfl) (Or.inr rfl))) (fun _ _ _=>yq) (fun _ _ _=>(zV (G_read_waking.mono (by first|decide|omega)) hr (zB (pv 0) zE)))) zE))))))),?_⟩;have pl:=ju hk lw short;have tl:=zS (xT ws short);by_cases e:ws=[]
 ·subst e;have e2:tx (xT [] short)=Str.ofString "never" :=z8X;rw[e2];walk_at "wp";refine⟨rfl,_,rfl,fun _ D nD=>q D [] _ (zH nD _) nD zG .nil,fun c=>absurd (decide_eq_true rfl) c⟩
 ·have ne:=z8K (short:=short) e hk;walk_at "wp";refine⟨rfl,_,rfl,fun c=>absurd (by have:=of_decide_eq_true c;injection this) ne,fun _=>?_⟩;have es:Txt.split (tx (xT ws short)) (Str.ofString " ")=(ws.map fun u=>xM u short).map tx:=by
   rw[z0C];refine v9 (by decide) (by unfold xT;rw[if_neg e]) (by simpa using e) fun p hp=>?_;refine pA fun Gu gU=>?_;obtain⟨u,hu,rfl⟩:=List.mem_map.mp hp;refine gU ?_;exact z5A (hk u hu) short
  have e1:(Str.ofString " ").length=1:=by rw[z0C];rfl
  refine⟨rfl,_,_,rfl,rfl,by rw[e1];rfl,by omega,fun D nD=>?_⟩;rw[es];have gD:=zH nD (.lst (((ws.map fun u=>xM u short).map tx).map V.str));have hD:=zG (H:=H) (a:=D) (o:=.lst (((ws.map fun u=>xM u short).map tx).map V.str));generalize upd H D (.lst (((ws.map fun u=>xM u short).map tx).map V.str))=H1 at gD hD ⊢;have ln:(((ws.map fun u=>xM u short).map tx).map V.str).length=ws.length:=by simp only [List.length_map]
  refine⟨_,_,rfl,.inl (SqL.of hD),fun c=>by rw[ln] at c;omega,fun _=>⟨⟨_,SqL.of hD⟩,?_⟩⟩;obtain⟨Sv,hSv⟩:∃Sv:St->Prop,Sv=fun σ=>∃o1,σ=[o1]:=⟨_,rfl⟩
  obtain⟨Pv,hPv⟩:∃Pv:Addr->Nat->List V->Hp->Prop,Pv=fun D2 i ys H2=>H1 D2=none/\Same H1 H2/\Pl H2 ys (ws.take i):=⟨_,rfl⟩
  refine yz (xs:=((ws.map fun u=>xM u short).map tx).map V.str) Sv Pv (by rw[hSv];exact⟨none,rfl⟩) (fun D2 hD2=>?_) (fun D2 i ys H2 hD2 h=>?_) (fun D2 i x ys σ H2 hx hi hs hD2 hy h=>?_) (fun D2 ys H2 hD2 h=>?_)
  ·rw[hPv];exact⟨hD2,zH hD2 _,.nil⟩
  ·rw[hPv] at h;exact SqL.of (h.2.1 _ _ hD)
  ·rw[hSv] at hs;rw[hPv] at h;obtain⟨o1,rfl⟩:=hs;refine pA fun Gv gW=>?_;obtain⟨nD2,g,hP⟩:=h;refine gW ?_;rw[List.map_map,List.map_map,List.getElem?_map] at hx;refine pA fun Gw fA=>?_;obtain⟨u,hn,rfl⟩:=Option.map_eq_some_iff.mp hx;refine fA ?_;rw[ln] at hi;walk_at "wp";refine⟨u,short,rfl,hk u (List.mem_of_getElem? hn),fun p H3 g3 hp=>?_⟩;have hD3:=g3 _ _ hD2;have hP3:Pl H3 (ys++[.ref p]) (ws.take i++[u]):=(hP.same g3).snoc hp;refine CompP.mk hD3 hy (by rw[sizeLine_eq];omega) (by rw[hSv];exact⟨_,rfl⟩) (by
    rw[hPv];refine⟨nD2,(g.trans g3).write nD2 _,?_⟩;rw[List.take_add_one,hn];exact hP3.upd hD3)
  ·rw[hPv] at h;refine pA fun Gx fB=>?_;obtain⟨nD2,g,hP⟩:=h;refine fB ?_;rw[ln,List.take_length] at hP;have G:=gD.trans g;refine⟨D2,ys,ws,rfl,SqL.of hD2,hP,hw,fun D3 nD3=>?_⟩;exact q D3 ys _ (G.trans (zH nD3 _)) (G.free nD3) zG (hP.updN nD3)
theorem z7a {σ:St} {H:Hp} {Q:VK} {K:PySem.W.Frag} {a:Addr} {xs:List V} {g:TG} {tt:TT} {te:TE} {own:List Str} {fr:List Nat} (Sv:St->Prop) (Pv:Addr->Nat->List V->Hp->Prop) (hS:Sv (st0 own fr σ))
  (h0:∀D,H D=none->Pv D 0 [] (upd H D (.lst []))) (hl:∀D i ys H',H' D=some (.lst ys)->Pv D i ys H'->SqT K H' a xs)
  (hs:∀D i x ys σ H',xs[i]?=some x->i<xs.length->Sv σ->H' D=some (.lst ys)->ys.length<=i->Pv D i ys H'->g x σ H' fun σ2 H2=>tt σ2 H2 fun b H3=>if b=true then te σ2 H3 fun y H4=>CompP Sv Pv D i σ2 y H4 else qq Sv Pv D (i+1) σ2 H3)
  (hd:∀D ys H',H' D=some (.lst ys)->Pv D xs.length ys H'->Q (.ref D) H'):z1g (Itt K a) g tt te own fr σ H Q:=by
 intro D hD;refine⟨fun i m σ H=>m=xs.length-i/\i<=xs.length/\qq Sv Pv D i σ H,⟨_,rfl,Nat.zero_le _,hS,[],zG,Nat.le_refl _,h0 D hD⟩,?_⟩;rintro i m σ1 H1 ⟨rfl,hi,hs1,ys,hy,hy2,p⟩;have q:=hl D i ys H1 hy p;by_cases hlt:i<xs.length
 ·refine .inr ⟨⟨xs,xs[i],q,by simp [hlt]⟩,qq Sv Pv D (i+1),fun σ' H' p'=>⟨xs.length-(i+1),by omega,rfl,hlt,p'⟩,fun x H' y=>?_⟩;obtain⟨e,y⟩:=y;subst e;exact hs D i x ys σ1 _ (y xs q) hlt hs1 hy hy2 p
 ·have e:i=xs.length:=by omega
  subst e;exact .inl ⟨⟨xs,q,Nat.le_refl _⟩,hd D ys H1 hy p⟩
noncomputable def xw:Sp:=fun vs H Q _=>∃(p:Addr) (u:T3),vs=[.ref p]/\H p=some (z2t u)/\WOk u/\∀(H':Hp),Same H H'->Q (.str (tx (xM u true))) H'
theorem vX (T:TF K mg "shown_waking" xP) (m_str:mg "str" = none):Has P w K mg base 1 "shown_waking" ["waking"] xw:=by
 refine T.has xz (fun _ _ _ _ _ _=>L2.bnd1 fun _=>rfl) (fun vs H Q E h=>?_) (fun f cdv A outer s H vs Q E hr h=>?_)
 ·refine pA fun Gy fE=>?_;obtain⟨p,u,rfl,_⟩:=h;refine fE ?_;rfl
 refine pA fun Gz fF=>?_;obtain⟨p,u,rfl,hp,hu,q⟩:=h;refine fF ?_;refine⟨_,(zC (zP (i:=1) xz.nd rfl (Or.inl rfl) (jw (zN yt (zn yW (pv 0) zF (fun _ _=>rfl)) zF (zW _)) (xh y1L (pv 0) qf (jG zF)) (pv 0))) (zJ (zR (qh PySem.F.plainAttrs_str PySem.F.slot_str_join PySem.F.type_str_join z6i zQ (zB (xV (CompSc.none (own:=["number"]) (by decide +kernel) (by decide +kernel) rfl (by decide +kernel)) rfl (z9T (pv 1)) (fun _ _ _=>(zY (i:=0) (show (["number"]:List Str).Nodup from by decide +kernel) rfl (Or.inl rfl) (Or.inr rfl))) (fun _ _ _=>yq) (fun _ _ _=>(zb zi rfl m_str (by decide +kernel) (zB (pv 0) zE)))) zE))))),?_⟩;walk_at "wp";have rest:∀(a:Addr) (ns:List Int) (σ:St) (H1:Hp),Same H H1->H1 a=some (.tup (ns.map V.int))->xG u true=ns.map dg->ns.length<=3->(∀n∈ns,DgOk n)->z1g (Itt K a) (qH 0) z5E (tCB (fun xs H Q=>∃i,xs=[V.int i]/\i.natAbs.log2<1920/\Q (V.str (Str.ofString (toString i))) H) (z0Y (z3q 0) z9N)) [Str.ofString "number"] [] σ H1 fun x H1=>∃sep a ys,V.str (Str.ofString ":")=V.str sep/\[x]=[V.ref a]/\SqL K H1 a (List.map V.str ys)/\Array.foldl (fun x1 x2=>x1+x2.length+sep.length) 0 ys.toArray<=16777216/\(Builtin.Str.glued sep ys).length<=16777216/\Q (V.str (Builtin.Str.glued sep ys)) H1:=by
  intro a ns σ H1 g1 ha en ln hd;obtain⟨Sv,hSv⟩:∃Sv:St->Prop,Sv=fun σ=>∃o1,σ=[o1]:=⟨_,rfl⟩
  obtain⟨Pv,hPv⟩:∃Pv:Addr->Nat->List V->Hp->Prop,Pv=fun D2 i ys H2=>H1 D2=none/\Same H1 H2/\ys=(((ns.take i).map dg).map tx).map V.str:=⟨_,rfl⟩
  refine z7a (xs:=ns.map V.int) Sv Pv (by rw[hSv];exact⟨none,rfl⟩) (fun D2 hD2=>?_) (fun D2 i ys H2 hD2 h=>?_) (fun D2 i x ys σ H2 hx hi hs hD2 hy h=>?_) (fun D2 ys H2 hD2 h=>?_)
  ·rw[hPv];exact⟨hD2,zH hD2 _,rfl⟩
  ·rw[hPv] at h;exact SqT.of (h.2.1 _ _ ha)
  ·rw[hSv] at hs;rw[hPv] at h;obtain⟨o1,rfl⟩:=hs;refine pA fun G0 fG=>?_;obtain⟨nD2,g,rfl⟩:=h;refine fG ?_;rw[List.getElem?_map] at hx;refine pA fun Fa fH=>?_;obtain⟨n,hn,rfl⟩:=Option.map_eq_some_iff.mp hx;refine fH ?_;rw[List.length_map] at hi;walk_at "wp";refine⟨n,rfl,(hd n (List.mem_of_getElem? hn)).sz,?_⟩;rw[yP];refine CompP.mk hD2 hy (by rw[sizeLine_eq];omega) (by rw[hSv];exact⟨_,rfl⟩) (by
    rw[hPv];refine⟨nD2,g.write nD2 _,?_⟩;rw[List.take_add_one,hn];simp)
  ·rw[hPv] at h;refine pA fun Fb fI=>?_;obtain⟨nD2,g,rfl⟩:=h;refine fI ?_;rw[List.length_map,List.take_length] at hD2;have jo:=z6s (c:=58) (M:=100) (ps:=ns.map dg) (fun p hp=>by
    refine pA fun Ga hU=>?_;obtain⟨n,hn,rfl⟩:=List.mem_map.mp hp;refine hU ?_;exact (hd n hn).len) (by rw[List.length_map];omega)
   rw[sizeLine_eq] at jo;refine⟨_,D2,_,rfl,rfl,SqL.of hD2,by rw[z7b];exact jo.1,by rw[z7b];exact jo.2,?_⟩;rw[z7b,z1U,←en];exact q _ (g1.trans g)
 refine⟨p,_,_,_,rfl,rfl,SqT.of hp,zZ (j:=2) rfl,rfl,_,rfl,fun c=>?_,fun c=>?_⟩
 ·have c1:u.2.2=1:=by
   have:=of_decide_eq_true c;injection this
  refine⟨p,_,rfl,SqT.of hp,fun z=>absurd z.2 (by show ¬HT.sIx 3 3 (some 2)=3;decide),fun p2 n2=>⟨rfl,p2,rfl,⟨_,SqT.of zG⟩,?_⟩⟩;refine rest p2 [u.1,u.2.1] _ _ (zH n2 _) zG (by unfold xG;rw[if_pos ⟨rfl,c1⟩];rfl) (by simp) fun n hn=>?_;simp only [List.mem_cons,List.not_mem_nil,or_false] at hn;rcases hn with rfl|rfl
  ·exact hu.1
  ·exact hu.2.1
 ·have c1:u.2.2≠1:=fun z=>c (decide_eq_true (by rw[z]));refine⟨rfl,⟨_,SqT.of hp⟩,?_⟩;refine rest p [u.1,u.2.1,u.2.2] _ _ (Same.refl _) hp (by unfold xG;rw[if_neg fun z=>c1 z.2];rfl) (by simp) fun n hn=>?_;simp only [List.mem_cons,List.not_mem_nil,or_false] at hn;rcases hn with rfl|rfl|rfl
  ·exact hu.1
  ·exact hu.2.1
  ·exact hu.2.2
noncomputable def x9 (K:PySem.W.Frag):Sp:=fun vs H Q _=>∃(a:Addr) (xs:List V) (ws:List T3),vs=[.ref a]/\SqL K H a xs/\Pl H xs ws/\ws.length<=12/\(∀u∈ws,WOk u)/\∀(H':Hp),Same H H'->Q (.str (tx (xT ws true))) H'
theorem z2W (T:TF K mg "shown_plan" jA) (m_len:mg "len" = none) (G_shown_waking:Has P w K mg base 1 "shown_waking" ["waking"] xw):Has P w K mg base 2 "shown_plan" ["plan"] (x9 K):=by
 refine T.has z0k (fun _ _ _ _ _ _=>L2.bnd1 fun _=>rfl) (fun vs H Q E h=>?_) (fun f cdv A outer s H vs Q E hr h=>?_)
 ·refine pA fun Gb hV=>?_;obtain⟨a,xs,ws,rfl,_⟩:=h;refine hV ?_;rfl
 refine pA fun Gc gB=>?_;obtain⟨a,xs,ws,rfl,hS,hP,lw,hu,q⟩:=h;refine gB ?_;refine⟨_,(zC (zl (zN yt (ze yI rfl m_len PySem.boot_len (zB (pv 0) zE)) zF (zW _)) (zJ (zR zQ)) zL) (zJ (zR (qh PySem.F.plainAttrs_str PySem.F.slot_str_join PySem.F.type_str_join z6i zQ (zB (xV (CompSc.none (own:=["waking"]) (by decide +kernel) (by decide +kernel) rfl (by decide +kernel)) rfl (y7 (pv 0)) (fun _ _ _=>(zY (i:=0) (show (["waking"]:List Str).Nodup from by decide +kernel) rfl (Or.inl rfl) (Or.inr rfl))) (fun _ _ _=>yq) (fun _ _ _=>(zV (G_shown_waking.mono (by first|decide|omega)) hr (zB (pv 0) zE)))) zE))))),?_⟩;walk_at "wp";refine⟨_,_,rfl,.inl hS,fun c=>?_,fun c=>?_⟩
 ·have e:ws=[]:=by
   apply List.eq_nil_of_length_eq_zero;rw[←hP.1];omega
  have:=q H (Same.refl _);rw[e] at this;exact this
 have ne:ws≠[]:=fun e=>c (by rw[hP.1,e];rfl);refine⟨rfl,⟨_,hS⟩,?_⟩;obtain⟨Sv,hSv⟩:∃Sv:St->Prop,Sv=fun σ=>∃o1,σ=[o1]:=⟨_,rfl⟩
 obtain⟨Pv,hPv⟩:∃Pv:Addr->Nat->List V->Hp->Prop,Pv=fun D2 i ys H2=>H D2=none/\Same H H2/\ys=(((ws.take i).map fun u=>xM u true).map tx).map V.str:=⟨_,rfl⟩
 refine yz (xs:=xs) Sv Pv (by rw[hSv];exact⟨none,rfl⟩) (fun D2 hD2=>?_) (fun D2 i ys H2 hD2 h=>?_) (fun D2 i x ys σ H2 hx hi hs hD2 hy h=>?_) (fun D2 ys H2 hD2 h=>?_)
 ·rw[hPv];exact⟨hD2,zH hD2 _,rfl⟩
 ·rw[hPv] at h;exact h.2.1.seq hS
 ·rw[hSv] at hs;rw[hPv] at h;obtain⟨o1,rfl⟩:=hs;refine pA fun Ge gC=>?_;obtain⟨nD2,g,rfl⟩:=h;refine gC ?_;refine pA fun Gf gG=>?_;obtain⟨p,u,e1,rfl,e3⟩:=hP.at hx;refine gG ?_;rw[hP.1] at hi;walk_at "wp";refine⟨p,u,rfl,g _ _ e3,hu u (List.mem_of_getElem? e1),fun H3 g3=>?_⟩;have hD3:=g3 _ _ hD2;refine CompP.mk hD3 hy (by rw[sizeLine_eq];omega) (by rw[hSv];exact⟨_,rfl⟩) (by
   rw[hPv];refine⟨nD2,(g.trans g3).write nD2 _,?_⟩;rw[List.take_add_one,e1];simp)
 ·rw[hPv] at h;refine pA fun Gg gH=>?_;obtain⟨nD2,g,rfl⟩:=h;refine gH ?_;rw[hP.1,List.take_length] at hD2;have jo:=z6s (c:=32) (M:=310) (ps:=ws.map fun u=>xM u true) (fun p hp=>by
   refine pA fun Gh gI=>?_;obtain⟨u,hm,rfl⟩:=List.mem_map.mp hp;refine gI ?_;exact wI (hu u hm) true) (by rw[List.length_map];omega)
  rw[sizeLine_eq] at jo;refine⟨_,D2,_,rfl,rfl,SqL.of hD2,by rw[z0C];exact jo.1,by rw[z0C];exact jo.2,?_⟩;rw[z0C,z1U];have:=q _ g;unfold xT at this;rw[if_neg ne] at this;exact this
noncomputable def z9R:Sp:=fun vs H Q _=>∃c:Int,vs=[.int c]/\Builtin.Int.intBits c<=2^21/\∀d:Int,0<=d->d<10^60->Q (.int d) H
theorem z7D (T:TF K mg "_law_big" w6):Has P w K mg base 1 "_law_big" ["cell"] z9R:=by
 refine T.has z5G (fun _ _ _ _ _ _=>L2.bnd1 fun _=>rfl) (fun vs H Q E h=>?_) (fun f cdv A outer s H vs Q E hr h=>?_)
 ·refine pA fun Gi gJ=>?_;obtain⟨c,rfl,_⟩:=h;refine gJ ?_;rfl
 refine pA fun Gj gK=>?_;obtain⟨c,rfl,hc,q⟩:=h;refine gK ?_;refine⟨_,(zJ (zR (zM zr (zM jH (pv 0) zF) (zM z4T zF zF)))),?_⟩;walk_at "wp";have z0:=z1h (c*618033988749894848204586834365638117720309179805762862123) (show (0:Int)<10^60 by decide);exact⟨IntMulOk.of_le hc (intBits_le_iff.mpr (show (618033988749894848204586834365638117720309179805762862123:Int).natAbs<2^200 by decide)) (by decide),⟨by decide,by decide,by decide⟩,by decide,q _ z0.1 z0.2⟩
local macro_rules | `(tactic| walk_at "wpd")=>`(tactic| try simp only [z0L,z0Z,z1L,z0X,z2y,qS,z0q,wL,z5x,z0T,z0c,wD,z0N,kK,kN,jr,kU,kT,z7x,z3p,z3o,z0J,z0F,z0H,z3l,z0I,z0G,z3u,z3r,z4I,z8J,z8I,z0t,z0s,kJ,z7y,z9B,z4o,z4p,z0d,z3t,z0Q,kZ,z0P,kM,z3v,z0R,kW,z0K,z0S,kY,z3w,jq,z0O,z4n,z0b,z4h,z3s,jL,kL,z3x,z0a,kI,z1V,wE,z1W,z0U,kx,ko,km,kn,kl,ky,z0M,wA,z1M,z1O,z1K,kj,wC,qG,z1N,z0V,z1H,ki,kS,z0W,z0p,jS,kP,kR,x8,kO,kQ,kX,z1I,L2.yo,z4r,wH,qO,List.map_cons,List.map_nil,List.length_cons,List.length_nil,List.replicate,List.cons_append,List.nil_append,List.append_nil,List.set_cons_zero,List.set_cons_succ,decide_eq_true_eq,Bool.not_eq_true',decide_eq_false_iff_not,Bool.not_eq_eq_eq_not,Bool.not_true,Bool.not_false,sizeLine_eq,oV,reduceCtorEq,z4e,z4f,z4d,z4g,Nat.reduceAdd,Nat.reduceSub,Nat.reduceLeDiff,Nat.zero_add,true_and,and_true,forall_const,Bool.false_eq_true,if_true,if_false,false_implies,true_implies,not_false_eq_true,not_true_eq_false,implies_true])
theorem y0W {k:Nat} {x:Str} {ps:List Str} {sp sp':Sp} (h1:y2s P w K mg base k x ps sp) (h2:Has P w K mg base k x ps sp'):HasX P w K mg base k x ps fun vs H Q E=>sp vs H Q E∨sp' vs H Q E:=by
 refine pA fun Gk gL=>?_;obtain⟨f,fd,F,hb,hk,hm,oc,od,osl,hl⟩:=h1;refine gL ?_;refine pA fun Gm gM=>?_;obtain⟨f',fd',F',_,_,hm',oc',od',osl',hl'⟩:=h2;refine gM ?_;rw[hm] at hm';cases hm';rw[hl] at hl';cases hl';refine⟨f,fd,⟨fun vs H Q E h=>h.elim (F.len vs H Q E) (F'.len vs H Q E),fun A outer s H args us vs Q E hr e0 hbt hv z=>z.elim (F.run A outer s H args us vs Q E hr e0 hbt hv) fun z=>PySem.codeAny_mono (F'.run A outer s H args us vs Q E hr e0 hbt hv z) fun r s' hq=>?_⟩,hb,hk,hm⟩;cases r with
 | error e=>exact False.elim hq
 | ok fl=>cases fl <;> exact hq
noncomputable def v5 (ws us:List T3):Prop:=20000<Gr ws us*Nr ws us
noncomputable def z1s (K:PySem.W.Frag) (C:Addr):Sp:=fun vs H _ E=>∃(a b:Addr) (xs ys:List V) (ws us:List T3),vs=[.ref a,.ref b]/\SqL K H a xs/\Pl H xs ws/\SqL K H b ys/\Pl H ys us/\(∀u∈ws,Wk u)/\(∀u∈us,Wk u)/\(∀u∈ws,u.1<=2^1000)/\(∀u∈us,u.1<=2^1000)/\ws.length<=14/\us.length<=14/\Nr ws us<=2^900/\v5 ws us/\∀x H',Same H H'->H' x=none->E (.ref C) (some x) H'
theorem z8k {c_TooMany:Addr} {bm:List Value} (T:TF K mg "worst" z0n) (m_range:mg "range" = none) (c_MOST_TRIED:CI mg "MOST_TRIED" 20000) (O_TooMany:OX K mg "TooMany" c_TooMany bm) (G_plan_round:Has P w K mg base 3 "plan_round" ["plan"] (y6 K)) (G_shifts:Has P w K mg base 3 "shifts" ["one", "other"] (xy K)):y2s P w K mg base 6 "worst" ["one", "other"] (z1s K c_TooMany):=by
 refine z9h T yQ (fun _ _ _ _ _ _=>L2.bnd2 fun _ _=>rfl) (fun vs H Q E h=>?_) (fun f cdv A outer s H vs Q E hr h=>?_)
 ·refine pA fun Gn gO=>?_;obtain⟨a,b,xs,ys,ws,us,rfl,_⟩:=h;refine gO ?_;rfl
 refine pA fun Go gP=>?_;obtain⟨a,b,xs,ys,ws,us,rfl,hS,hP,hS2,hP2,hw,hu,wB,uB,lw,lu,NL,big,q⟩:=h;refine gP ?_;refine⟨_,(zC (zP (i:=2) yQ.nd rfl (Or.inr rfl) (zV (G_plan_round.mono (by first|decide|omega)) hr (zB (zM z6c (pv 0) (pv 1)) zE))) (zC (zP (i:=3) yQ.nd rfl (Or.inl rfl) (zV (G_plan_round.mono (by first|decide|omega)) hr (zB (zV (G_shifts.mono (by first|decide|omega)) hr (zB (pv 0) (zB (pv 1) zE))) zE))) (zC (zl (zN z3N (zM jH (pv 3) (pv 2)) (vV rfl c_MOST_TRIED) (zW _)) (zJ (xI O_TooMany rfl qr (zB zQ zE))) zL) (zC yJ (zC yJ (zC yJ (zC yJ (zC yJ (zJ yJ))))))))),?_⟩;have w1:∀u∈ws,1<=u.1:=fun u h=>(hw u h).1;have u1:∀u∈us,1<=u.1:=fun u h=>(hu u h).1;refine pA fun Gp gQ=>?_;obtain⟨G1,G2,G3,G4,G5⟩:=xL hw hu;refine gQ ?_;have lx:=hP.1;have ly:=hP2.1;walk_at "wp";refine⟨a,b,xs,ys,rfl,rfl,hS,hS2,by rw[sizeLine_eq];omega,fun p np=>?_⟩;have g1:=zH np (.lst (xs++ys));refine⟨p,xs++ys,ws++us,rfl,SqL.of zG,(hP.append hP2).same g1,fun u mu=>?_,by rw[List.length_append];omega,fun H2 g2=>?_⟩
 ·rcases List.mem_append.mp mu with z|z
  ·exact⟨w1 u z,wB u z⟩
  ·exact⟨u1 u z,uB u z⟩
 have g12:=g1.trans g2;walk_at "wp";refine⟨a,b,xs,ys,ws,us,rfl,g12.seq hS,hP.same g12,g12.seq hS2,hP2.same g12,w1,u1,by omega,by omega,fun S zs H3 g3 nS hSh hZ=>?_⟩;have lm:=Nat.mul_le_mul lw lu;refine⟨S,zs,_,rfl,SqL.of hSh,hZ,z0i hw wB,by rw[qV];omega,fun H4 g4=>?_⟩;have eN:yV ((ws++us).map (·.1))=Nr ws us:=rfl;have eG:yV ((shs ws us).map (·.1))=Gr ws us:=rfl;rw[eN,eG];unfold v5 at big;generalize Nr ws us=N at *
 generalize Gr ws us=G at *
 walk_at "wp";refine⟨mok 1000 1000 (by omega) (by omega) (by decide),fun _=>⟨by decide,fun x hx=>q x H4 ((g12.trans g3).trans g4) hx⟩,fun c=>absurd big c⟩
noncomputable def wtx (W D T:Int):List Nat:=dg W++[32,97,116,32]++dg D++[32,102,114,111,109,32]++dg T
noncomputable def vA:List Nat:=[108,111,110,101,108,121]
noncomputable def WAsk (N:Addr) (ws us:List T3) (H:Hp) (Q:VK) (E:XK):Prop:=(∀u∈ws,Wk u)/\(∀u∈us,Wk u)/\(∀u∈ws,u.1<=2^1000)/\(∀u∈us,u.1<=2^1000)/\ws.length<=14/\us.length<=14/\Nr ws us<=2^900/\
 (v5 ws us->∀x H',Same H H'->H' x=none->E (.ref N) (some x) H')/\
 (¬v5 ws us->xY (shs ws us) (Gr ws us).toNat≠none->∀H',Same H H'->Q (.str (tx vA)) H')/\
 (¬v5 ws us->xY (shs ws us) (Gr ws us).toNat=none->∀W D T H',Same H H'->WorstP ws us W D T->Q (.str (tx (wtx W D T))) H')
theorem WorstP.uniq {ws us:List T3} {W D T W' D' T':Int} (h:WorstP ws us W D T) (g:WorstP ws us W' D' T'):W=W'/\D=D'/\T=T':=by
 refine pA fun Gq gR=>?_;obtain⟨w0,d0,L,b,m⟩:=h;refine gR ?_;refine pA fun Gu gU=>?_;obtain⟨w0',d0',L',b',m'⟩:=g;refine gU ?_;have e1:=b' _ _ _ L.2.2.1;have e2:=b _ _ _ L'.2.2.1;have eW:W=W':=by omega
 subst eW;have f1:=m' D d0 _ L.2.2.1;have f2:=m D' d0' _ L'.2.2.1;have eD:D=D':=by omega
 subst eD;have k1:=L'.2.2.2.2 T L.1 L.2.2.1;have k2:=L.2.2.2.2 T' L'.1 L'.2.2.1;exact⟨rfl,rfl,by omega⟩
theorem WorstP.small {ws us:List T3} {W D T:Int} (hw:∀u∈ws,Wk u) (hu:∀u∈us,Wk u) (h:WorstP ws us W D T):0<=W/\W<Nr ws us/\0<=D/\D<Gr ws us/\0<=T/\T<Nr ws us:=by
 refine pA fun Gv gW=>?_;obtain⟨w0,d0,L,b,m⟩:=h;refine gW ?_;refine pA fun Gw fA=>?_;obtain⟨N1,N2,N3⟩:=z7p hw hu;refine fA ?_;obtain⟨G1,_⟩:=xL hw hu;refine pA fun Gx fB=>?_;obtain⟨y,z,h1,h2⟩:=v6 hw hu L.2.2.1;refine fB ?_;have m0:=wu D G1;have ez:z=y+W:=by omega
 rw[ez] at h1;have:=m _ m0.1 y h1;refine⟨w0,?_,d0,by omega,L.1,L.2.1⟩;by_cases c:W<Nr ws us
 ·exact c
 refine absurd ?_ (L.2.2.1.2.2 (T+W-Nr ws us) (by omega) (by omega));refine pA fun Gy fE=>?_;obtain⟨⟨u,mu,a1⟩,v,mv,a2⟩:=L.2.2.1.2.1;refine fE ?_;have e:T+W=T+W-Nr ws us+Nr ws us:=by omega
 have e2:T+W-D=T+W-Nr ws us-D+Nr ws us:=by omega
 rw[e] at a1;rw[e2] at a2;exact⟨⟨u,mu,(z1e (N2 u mu)).mp a1⟩,v,mv,(z1e (N3 v mv)).mp a2⟩
noncomputable def y1K (K:PySem.W.Frag) (C:Addr):Sp:=fun vs H Q E=>z1s K C vs H Q E∨kf K vs H Q E
noncomputable def z6G (C:Addr):Sp:=fun vs H Q E=>∃(a b:Addr) (xs ys:List V) (ws us:List T3),vs=[.ref a,.ref b]/\H a=some (.lst xs)/\Pl H xs ws/\H b=some (.lst ys)/\Pl H ys us/\WAsk C ws us H Q E
noncomputable def atL:List Nat:=[32,97,116,32]
noncomputable def z5e:List Nat:=[32,102,114,111,109,32]
theorem y3q (z:Str):Str.empty++z=z:=by
 show Str.mk _=Str.mk _;congr 1;simp [Str.empty]
theorem vW {c_TooMany:Addr} (T:TF K mg "worst_answer" xO) (G_worst:HasX P w K mg base 6 "worst" ["one", "other"] (y1K K c_TooMany)):HasX P w K mg base 7 "worst_answer" ["one", "other"] (z6G c_TooMany):=by
 refine T.hasX yO (fun _ _ _ _ _ _=>L2.bnd2 fun _ _=>rfl) (fun vs H Q E h=>?_) (fun f cdv A outer s H vs Q E hr h=>?_)
 ·refine pA fun Gz fF=>?_;obtain⟨a,b,xs,ys,ws,us,rfl,_⟩:=h;refine fF ?_;rfl
 refine pA fun G0 fG=>?_;obtain⟨a,b,xs,ys,ws,us,rfl,ha,hP,hb,hP2,hw,hu,wB,uB,lw,lu,NL,qx,q0,q1⟩:=h;refine fG ?_;refine⟨_,(zC (zP (i:=2) yO.nd rfl (Or.inl rfl) (qg (G_worst.mono (by first|decide|omega)) hr z0y (zB (pv 0) (zB (pv 1) zE)))) (zC (zl (zN z4U (pv 2) ye (zW _)) (zJ (zR zQ)) zL) (zC (zP (i:=3) yO.nd rfl (Or.inl rfl) (zn yW (pv 2) zF (fun _ _=>rfl))) (zC (zP (i:=4) yO.nd rfl (Or.inl rfl) (zn yW (pv 2) zF (fun _ _=>rfl))) (zC (zP (i:=5) yO.nd rfl (Or.inl rfl) (zn yW (pv 2) zF (fun _ _=>rfl))) (zJ (zR (y0G (wc (z6W (pv 3)) (wc zQ (wc (z6W (pv 4)) (wc zQ (wc (z6W (pv 5)) y1Z))))))))))))),?_⟩;walk_at "wpd";rw[show Str.ofString "lonely" = tx vA by decide +kernel,show Str.ofString " at " = tx atL by decide +kernel,show Str.ofString " from " = tx z5e by decide +kernel];by_cases c:v5 ws us
 ·exact .inl ⟨a,b,xs,ys,ws,us,rfl,SqL.of ha,hP,SqL.of hb,hP2,hw,hu,wB,uB,lw,lu,NL,c,fun x H' g hx=>qx c x H' g hx⟩
 refine .inr ⟨a,b,xs,ys,ws,us,rfl,SqL.of ha,hP,SqL.of hb,hP2,hw,hu,wB,uB,lw,lu,by unfold v5 at c;omega,fun e H' g=>⟨fun _=>q0 c e H' g,fun z=>absurd rfl z⟩,fun e t W D T H' g ht hW=>⟨(fun z=>nomatch z),fun _=>?_⟩⟩;have sm:=hW.small hw hu;refine pA fun Fa fH=>?_;obtain⟨G1,G2,G3,G4,G5⟩:=xL hw hu;refine fH ?_;have cN:Nr ws us<=20000:=by
  unfold v5 at c;have:1*Nr ws us<=Gr ws us*Nr ws us:=Int.mul_le_mul_of_nonneg_right G1 (by omega);omega
 have e100:(20000:Int)<10^100:=by decide +kernel
 have d1:=z1Z (n:=W) (by omega) (by omega);have d2:=z1Z (n:=D) (by omega) (by omega);have d3:=z1Z (n:=T) (by omega) (by omega);have Q1:=q1 c e W D T H' g hW;have l1:=d1.len;have l2:=d2.len;have l3:=d3.len;have n1:atL.length=4:=rfl;have n2:z5e.length=6:=rfl;refine⟨_,_,_,.int W,rfl,rfl,SqT.of ht,rfl,_,_,_,.int D,rfl,rfl,SqT.of ht,rfl,_,_,_,.int T,rfl,rfl,SqT.of ht,rfl,.inl ⟨W,rfl,d1.sz,_,rfl,?_⟩⟩;rw[yP,y3q];refine⟨by rw[zS];omega,_,rfl,by rw[v8,zS,List.length_append];omega,.inl ⟨D,rfl,d2.sz,_,rfl,?_⟩⟩;rw[yP,v8,v8];refine⟨by rw[zS];simp only [List.length_append];omega,_,rfl,by rw[v8,zS];simp only [List.length_append];omega,.inl ⟨T,rfl,d3.sz,_,rfl,?_⟩⟩;rw[yP,v8,v8,zS];simp only [List.length_append];exact⟨by omega,by omega,Q1⟩
theorem y0J (v:V):List.lookup (Str.ofString "plan_by") [((Str.ofString "plans"),v)]=none:=by
 rw[List.lookup_cons,show ((Str.ofString "plan_by") == (Str.ofString "plans"))=false by decide +kernel];rfl
noncomputable def PPG:List Str:=[Str.ofString "plan",Str.ofString "pair",Str.ofString "grid"]
noncomputable def xp:List Nat:=[119,111,114,115,116]
noncomputable def kG:List Nat:=[112,97,105,114]
noncomputable def z1T:List Nat:=[103,114,105,100]
theorem z5o:Str.ofString "worst" = tx xp:=by decide +kernel
theorem z8T:Str.ofString "pair" = tx kG:=by decide +kernel
noncomputable def wP (N:Addr):Sp:=fun vs H Q E=>∃a b:Int,vs=[.int a,.int b]/\a<2^60/\b<2^60/\(a=b∨¬IsPart a a∨¬IsPart b b->∀x H',Same H H'->H' x=none->E (.ref N) (some x) H')/\(IsPart a a/\IsPart b b/\a≠b->∀(D:Addr) (xs:List V) (H':Hp),Same H H'->H D=none->H' D=some (.lst xs)->Pl H' xs [(a,0,1),(b,0,1)]->Q (.ref D) H')
theorem z8n {c_NoPrimes:Addr} {bm:List Value} (T:TF K mg "pair_plan" jd) (O_NoPrimes:OX K mg "NoPrimes" c_NoPrimes bm) (G_is_prime:Has P w K mg base 2 "is_prime" ["number"] wR):HasX P w K mg base 3 "pair_plan" ["one", "other"] (wP c_NoPrimes):=by
 refine T.hasX z1y (fun _ _ _ _ _ _=>L2.bnd2 fun _ _=>rfl) (fun vs H Q E h=>?_) (fun f cdv A outer s H vs Q E hr h=>?_)
 ·refine pA fun Fb fI=>?_;obtain⟨a,b,rfl,_⟩:=h;refine fI ?_;rfl
 refine pA fun Ga hU=>?_;obtain⟨a,b,rfl,a60,b60,qx,q⟩:=h;refine hU ?_;refine⟨_,(zC (zl (PW.pt (z3H (zN yt (pv 0) (pv 1) (zW _)) (z3H (xn (yd (zV (G_is_prime.mono (by first|decide|omega)) hr (zB (pv 0) zE)) (fun _=>rfl))) (z4K (xn (yd (zV (G_is_prime.mono (by first|decide|omega)) hr (zB (pv 1) zE)) (fun _=>rfl))))))) (zJ (xI O_NoPrimes rfl qr (zB zQ zE))) zL) (zJ (zR (zq (zB (yl (zB (pv 0) (zB zF (zB zF zE)))) (zB (yl (zB (pv 1) (zB zF (zB zF zE)))) zE)))))),?_⟩;walk_at "wp";refine⟨fun e=>⟨by decide,fun x hx=>qx (.inl e) x _ (Same.refl _) hx⟩,fun ne=>⟨a,rfl,a60,fun x H1 g1 hx=>?_⟩⟩;cases x with
 | false=>
  walk_at "wp";exact⟨by decide,fun x hx'=>qx (.inr (.inl fun p=>nomatch hx.mpr p)) x _ g1 hx'⟩
 | true=>
  walk_at "wp";refine⟨b,rfl,b60,fun y H2 g2 hy=>?_⟩;cases y with
  | false=>
   walk_at "wp";exact⟨by decide,fun x hx'=>qx (.inr (.inr fun p=>nomatch hy.mpr p)) x _ (g1.trans g2) hx'⟩
  | true=>
   walk_at "wp";intro p1 z1 p2 z2 D zD;have k1:=zH z1 (z2t (a,0,1));have k2:=zH z2 (z2t (b,0,1));have k3:=zH zD (.lst [.ref p1,.ref p2]);have gg:=(g1.trans g2).trans ((k1.trans k2));exact q ⟨hx.mp rfl,hy.mp rfl,ne⟩ D [.ref p1,.ref p2] _ (gg.trans k3) (gg.free zD) zG ((Pl.one (k3 _ _ (k2 _ _ zG))).snoc (k3 _ _ zG))
noncomputable def wS (N:Addr):Sp:=fun vs H Q E=>∃n:Int,vs=[.int n]/\n<2^400/\(¬1<=n->∀x H',Same H H'->H' x=none->E (.ref N) (some x) H')/\(1<=n->∀(D:Addr) (xs:List V) (H':Hp),Same H H'->H D=none->H' D=some (.lst xs)->Pl H' xs [(n,0,1),(n*n,0,n)]->Q (.ref D) H')
theorem z8o {c_NoPlan:Addr} {bm:List Value} (T:TF K mg "grid_plan" ji) (O_NoPlan:OX K mg "NoPlan" c_NoPlan bm):HasX P w K mg base 1 "grid_plan" ["number"] (wS c_NoPlan):=by
 refine T.hasX z2A (fun _ _ _ _ _ _=>L2.bnd1 fun _=>rfl) (fun vs H Q E h=>?_) (fun f cdv A outer s H vs Q E hr h=>?_)
 ·refine pA fun Gb hV=>?_;obtain⟨n,rfl,_⟩:=h;refine hV ?_;rfl
 refine pA fun Gc gB=>?_;obtain⟨n,rfl,n2,qx,q⟩:=h;refine gB ?_;refine⟨_,(zC (zl (zN z2I (pv 0) zF (zW _)) (zJ (xI O_NoPlan rfl qr (zB zQ zE))) zL) (zJ (zR (zq (zB (yl (zB (pv 0) (zB zF (zB zF zE)))) (zB (yl (zB (zM jH (pv 0) (pv 0)) (zB zF (zB (pv 0) zE)))) zE)))))),?_⟩;walk_at "wp";refine⟨fun c=>⟨by decide,fun x hx=>qx (by omega) x _ (Same.refl _) hx⟩,fun c p1 z1=>⟨mok 400 400 (by omega) (by omega) (by decide),fun p2 z2 D zD=>?_⟩⟩;have g1:=zH z1 (z2t (n,0,1));have g2:=zH z2 (z2t (n*n,0,n));have g3:=zH zD (.lst [.ref p1,.ref p2]);exact q (by omega) D [.ref p1,.ref p2] _ ((g1.trans g2).trans g3) ((g1.trans g2).free zD) zG ((Pl.one (g3 _ _ (g2 _ _ zG))).snoc (g3 _ _ zG))
inductive PRow (NP NR:Addr):List Nat->List (List Nat)->Option Addr->List T3->Prop
 | plan {ws:List T3} {s:Bool}:ws.length<=12->(∀u∈ws,WOk u)->(∀u∈ws,isW u=true)->PRow NP NR xo [xT ws s] none ws
 | pair {a b:Int}:IsPart a a->IsPart b b->a≠b->SgOk a->SgOk b->a<2^60->b<2^60->PRow NP NR kG [dg a,dg b] none [(a,0,1),(b,0,1)]
 | pairX {a b:Int}:(a=b∨¬IsPart a a∨¬IsPart b b)->SgOk a->SgOk b->a<2^60->b<2^60->PRow NP NR kG [dg a,dg b] (some NR) []
 | grid {n:Int}:1<=n->n<2^400->SgOk n->PRow NP NR z1T [dg n] none [(n,0,1),(n*n,0,n)]
 | gridX {n:Int}:¬1<=n->n<2^400->SgOk n->PRow NP NR z1T [dg n] (some NP) []
noncomputable def xt (NP NR:Addr):Sp:=fun vs H Q E=>∃(W:Addr) (h nm:List Nat) (rs:List (List Nat)) (o:Option Addr) (ws:List T3),vs=[.ref W]/\H W=some (.lst (((h::nm::rs).map tx).map V.str))/\PRow NP NR h rs o ws/\(∀c,o=some c->∀x H',Same H H'->H' x=none->E (.ref c) (some x) H')/\(o=none->∀(D:Addr) (xs:List V) (H':Hp),Same H H'->H' D=some (.lst xs)->Pl H' xs ws->Q (.ref D) H')
theorem z3V {c_NoPlan c_NoPrimes:Addr} (T:TF K mg "told_plan" jb) (m_int:mg "int" = none) (G_read_plan:Has P w K mg base 4 "read_plan" ["text"] qt) (G_pair_plan:HasX P w K mg base 3 "pair_plan" ["one", "other"] (wP c_NoPrimes)) (G_grid_plan:HasX P w K mg base 1 "grid_plan" ["number"] (wS c_NoPlan)):HasX P w K mg base 5 "told_plan" ["words"] (xt c_NoPlan c_NoPrimes):=by
 refine T.hasX z1x (fun _ _ _ _ _ _=>L2.bnd1 fun _=>rfl) (fun vs H Q E h=>?_) (fun f cdv A outer s H vs Q E hr h=>?_)
 ·refine pA fun Ge gC=>?_;obtain⟨W,h,nm,rs,o,ws,rfl,_⟩:=h;refine gC ?_;rfl
 refine pA fun Gf gG=>?_;obtain⟨W,h,nm,rs,o,ws,rfl,hW,pr,qx,q⟩:=h;refine gG ?_;refine⟨_,(zC (zl (zN yt (zn zk (pv 0) zF (fun _ _=>rfl)) zQ (zW _)) (zJ (zR (zV (G_read_plan.mono (by first|decide|omega)) hr (zB (zn zk (pv 0) zF (fun _ _=>rfl)) zE)))) zL) (zC (zl (zN yt (zn zk (pv 0) zF (fun _ _=>rfl)) zQ (zW _)) (zJ (zR (qg (G_pair_plan.mono (by first|decide|omega)) hr z0y (zB (zb ya rfl m_int (by decide +kernel) (zB (zn zk (pv 0) zF (fun _ _=>rfl)) zE)) (zB (zb ya rfl m_int (by decide +kernel) (zB (zn zk (pv 0) zF (fun _ _=>rfl)) zE)) zE))))) zL) (zJ (zR (qg (G_grid_plan.mono (by first|decide|omega)) hr z0y (zB (zb ya rfl m_int (by decide +kernel) (zB (zn zk (pv 0) zF (fun _ _=>rfl)) zE)) zE)))))),?_⟩;walk_at "wpd";rw[z8O,z8T];cases pr with
 | @plan _ s h1 h2 h3=>
  refine zX (SqL.of hW) (zZ (j:=0) rfl) (eqT ⟨_,rfl,fun _=>?_,fun c=>absurd (decide_eq_true rfl) c⟩);exact zX (SqL.of hW) (zZ (j:=2) rfl) ⟨ws,s,rfl,h1,h2,h3,fun D xs H' g _ hD hP=>q rfl D xs H' g hD hP⟩
 | @pair a b h1 h2 h3 s1 s2 h4 h5=>
  refine zX (SqL.of hW) (zZ (j:=0) rfl) (eqT ⟨_,rfl,(fun c=>absurd c (by decide)),fun _=>?_⟩);refine zX (SqL.of hW) (zZ (j:=0) rfl) (eqT ⟨_,rfl,fun _=>?_,fun c=>absurd (decide_eq_true rfl) c⟩);have l1:=s1.len;have l2:=s2.len;exact zX (SqL.of hW) (zZ (j:=2) rfl) ⟨_,_,rfl,s1.rd,by rw[zS];omega,zX (SqL.of hW) (zZ (j:=3) rfl) ⟨_,_,rfl,s2.rd,by rw[zS];omega,_,_,rfl,h4,h5,(fun z=>(z.elim h3 fun z=>z.elim (absurd h1) (absurd h2)).elim),fun _ D xs H' g _ hD hP=>q rfl D xs H' g hD hP⟩⟩
 | @pairX a b h1 s1 s2 h4 h5=>
  refine zX (SqL.of hW) (zZ (j:=0) rfl) (eqT ⟨_,rfl,(fun c=>absurd c (by decide)),fun _=>?_⟩);refine zX (SqL.of hW) (zZ (j:=0) rfl) (eqT ⟨_,rfl,fun _=>?_,fun c=>absurd (decide_eq_true rfl) c⟩);have l1:=s1.len;have l2:=s2.len;exact zX (SqL.of hW) (zZ (j:=2) rfl) ⟨_,_,rfl,s1.rd,by rw[zS];omega,zX (SqL.of hW) (zZ (j:=3) rfl) ⟨_,_,rfl,s2.rd,by rw[zS];omega,_,_,rfl,h4,h5,fun _ x H' g hx=>qx _ rfl x H' g hx,fun z=>(h1.elim z.2.2 fun y=>y.elim (absurd z.1) (absurd z.2.1)).elim⟩⟩
 | @grid n h1 h2 s1=>
  refine zX (SqL.of hW) (zZ (j:=0) rfl) (eqT ⟨_,rfl,(fun c=>absurd c (by decide)),fun _=>?_⟩);refine zX (SqL.of hW) (zZ (j:=0) rfl) (eqT ⟨_,rfl,(fun c=>absurd c (by decide)),fun _=>?_⟩);have l1:=s1.len;exact zX (SqL.of hW) (zZ (j:=2) rfl) ⟨_,_,rfl,s1.rd,by rw[zS];omega,_,rfl,h2,(fun z=>absurd h1 z),fun _ D xs H' g _ hD hP=>q rfl D xs H' g hD hP⟩
 | @gridX n h1 h2 s1=>
  refine zX (SqL.of hW) (zZ (j:=0) rfl) (eqT ⟨_,rfl,(fun c=>absurd c (by decide)),fun _=>?_⟩);refine zX (SqL.of hW) (zZ (j:=0) rfl) (eqT ⟨_,rfl,(fun c=>absurd c (by decide)),fun _=>?_⟩);have l1:=s1.len;exact zX (SqL.of hW) (zZ (j:=2) rfl) ⟨_,_,rfl,s1.rd,by rw[zS];omega,_,rfl,h2,fun _ x H' g hx=>qx _ rfl x H' g hx,fun z=>absurd z h1⟩
noncomputable def NxA (ws:List T3) (t:Int):Option Int->Prop
 | none=>ws=[]
 | some M=>M∈ws.map (nx1 t)/\∀z∈ws.map (nx1 t),M<=z
theorem NxA.uniq {ws:List T3} {t:Int} {r s:Option Int} (h:NxA ws t r) (g:NxA ws t s):r=s:=by
 cases r with
 | none=>
  cases s with
  | none=>rfl
  | some m=>
   have e:ws=[]:=h;have:=g.1;rw[e] at this;cases this
 | some m=>
  cases s with
  | none=>
   have e:ws=[]:=g;have:=h.1;rw[e] at this;cases this
  | some k=>
   have h1:=h.2 k g.1;have h2:=g.2 m h.1;rw[Int.le_antisymm h1 h2]
theorem y1l {n:Int} (h:n.natAbs<2^1920):n.natAbs.log2<1920:=by
 by_cases z:n.natAbs=0
 ·rw[z];decide
 ·exact (Nat.log2_lt z).mpr h
theorem z4Y {k:Int} {u:T3} (hu:Wk u) (h9:u.1<2^900) (hk:k.natAbs<2^400):(nx1 k u).natAbs.log2<1920:=by
 refine y1l (Nat.lt_trans (m:=2^901) ?_ (by decide +kernel));have u1:=hu.1;have b0:=Int.emod_nonneg (k-u.2.1) (show u.1≠0 by omega);have b1:=Int.emod_lt_of_pos (k-u.2.1) (show 0<u.1 by omega);have e:(2:Nat)^901=2^900+2^900:=by decide +kernel
 have e4:(2:Nat)^400<2^900:=by decide +kernel
 have ei:((2^900:Nat):Int)=2^900:=by rw[Int.natCast_pow];rfl
 rw[←ei] at h9;unfold nx1;generalize (2:Nat)^900=B at *
 generalize (2:Nat)^400=B4 at *
 split <;> omega
noncomputable def y3Q (t:List Nat) (n:Int):Prop:=intText? (tx t)=some n/\t.length<=640/\n.natAbs<2^400
inductive Ask (C N NP NR NT d pd:Addr) (n:Nat) (L:jX) (H:Hp) (Q:VK) (E:XK):List (List Nat)->Prop
 | keep {h nm:List Nat} {rs:List (List Nat)} {o:Option Addr} {ws:List T3}:PRow NP NR h rs o ws->(o=none->KpP ws)->(∀c,o=some c->∀x H',Same H H'->H' x=none->E (.ref c) (some x) H')->(o=none->∀H',OffD pd H H'->Dsk C H' d pd (n+1) (kg L (tx nm) ws)->Q (.str "kept") H')->Ask C N NP NR NT d pd n L H Q E (h::nm::rs)
 | awake {nm t:List Nat} {k:Int}:y3Q t k->(L (tx nm)=none->∀x H',Same H H'->H' x=none->E (.ref N) (some x) H')->(∀ws r H',L (tx nm)=some ws->Same H H'->NxA ws k r->Q (.str (y0l r)) H')->Ask C N NP NR NT d pd n L H Q E [qP,nm,t]
 | worst {n1 n2:List Nat}:(L (tx n1)=none∨L (tx n2)=none->∀x H',Same H H'->H' x=none->E (.ref N) (some x) H')->(∀ws us,L (tx n1)=some ws->L (tx n2)=some us->WAsk NT ws us H Q E)->Ask C N NP NR NT d pd n L H Q E [xp,n1,n2]
noncomputable def xu (C N NP NR NT:Addr):Sp:=fun vs H Q E=>∃(d pd:Addr) (l:List Nat) (n:Nat) (L:jX) (ws:List (List Nat)),vs=[.ref d,.str (tx l)]/\Dsk C H d pd n L/\n<=1000/\TxOk l/\kE l=some ws/\Ask C N NP NR NT d pd n L H Q E ws
theorem PRow.ppg {NP NR:Addr} {h:List Nat} {rs:List (List Nat)} {o:Option Addr} {ws:List T3} (p:PRow NP NR h rs o ws):PPG.contains (tx h)=true:=by
 cases p <;> decide +kernel
theorem WAsk.same {N:Addr} {ws us:List T3} {H H1:Hp} {Q:VK} {E:XK} (h:WAsk N ws us H Q E) (g:Same H H1):WAsk N ws us H1 Q E:=by
 refine pA fun Gg gH=>?_;obtain⟨a1,a2,a3,a4,a5,a6,a7,qx,q0,q1⟩:=h;refine gH ?_;exact⟨a1,a2,a3,a4,a5,a6,a7,fun c x H' g' hx=>qx c x H' (g.trans g') hx,fun c e H' g'=>q0 c e H' (g.trans g'),fun c e W D T H' g' hw=>q1 c e W D T H' (g.trans g') hw⟩
theorem z8l {C c_NoRow c_NoName c_NoPlan c_NoPrimes c_TooMany:Addr} (X:DkTx K C) (cl_Desk:Cls K C) (T:TM K C "told" "Desk.told" jk) (m_int:mg "int" = none) (G_words_of:HasX P w K mg base 4 "words_of" ["row"] (wO c_NoRow)) (G_told_plan:HasX P w K mg base 5 "told_plan" ["words"] (xt c_NoPlan c_NoPrimes)) (G_Desk_plan_by:HasMX P w K mg base 1 C "plan_by" ["self", "name"] (vc K C c_NoName)) (G_turn_answer:Has P w K mg base 1 "turn_answer" ["turn"] jZ) (G_next_awake:Has P w K mg base 1 "next_awake" ["plan", "turn"] (z3B K)) (G_worst_answer:HasX P w K mg base 7 "worst_answer" ["one", "other"] (z6G c_TooMany)):HasMX P w K mg base 8 C "told" ["self", "row"] (xu C c_NoName c_NoPlan c_NoPrimes c_TooMany):=by
 refine T.hasX yk (fun _ _ _ _ _ _=>L2.bnd2 fun _ _=>rfl) (fun vs H Q E h=>?_) (fun f cdv A outer s H vs Q E hr h=>?_)
 ·refine pA fun Gh gI=>?_;obtain⟨d,pd,l,n,L,ws,rfl,_⟩:=h;refine gI ?_;rfl
 refine pA fun Gi gJ=>?_;obtain⟨d,pd,l,n,L,rw,rfl,hk,hn,hl,er,h⟩:=h;refine gJ ?_;refine⟨_,(zC (zP (i:=2) yk.nd rfl (Or.inl rfl) (qg (G_words_of.mono (by first|decide|omega)) hr z0y (zB (pv 1) zE))) (zC (zl (zN y1f (zn zk (pv 2) zF (fun _ _=>rfl)) (yl (zB zQ (zB zQ (zB zQ zE)))) rfl) (zC (wb (xX hr) (z6X (pv 0) rfl) (zn zk (pv 2) zF (fun _ _=>rfl)) (qg (G_told_plan.mono (by first|decide|omega)) hr z0y (zB (pv 2) zE)) rfl) (zJ (zR zQ))) zL) (zC (zl (zN yt (zn zk (pv 2) zF (fun _ _=>rfl)) zQ (zW _)) (zJ (zR (zV (G_turn_answer.mono (by first|decide|omega)) hr (zB (zV (G_next_awake.mono (by first|decide|omega)) hr (zB (z3K (pv 0) cl_Desk (G_Desk_plan_by.mono (by first|decide|omega)) hr z0y (zB (zn zk (pv 2) zF (fun _ _=>rfl)) zE)) (zB (zb ya rfl m_int (by decide +kernel) (zB (zn zk (pv 2) zF (fun _ _=>rfl)) zE)) zE))) zE)))) zL) (zC (zP (i:=3) yk.nd rfl (Or.inl rfl) (jw (zN yt (zn zk (pv 2) zF (fun _ _=>rfl)) zQ (zW _)) y2e ye)) (zC (zP (i:=4) yk.nd rfl (Or.inl rfl) (z3K (pv 0) cl_Desk (G_Desk_plan_by.mono (by first|decide|omega)) hr z0y (zB (zn zk (pv 2) zF (fun _ _=>rfl)) zE))) (zC (zP (i:=5) yk.nd rfl (Or.inl rfl) (z3K (pv 0) cl_Desk (G_Desk_plan_by.mono (by first|decide|omega)) hr z0y (zB (zn zk (pv 2) zF (fun _ _=>rfl)) zE))) (zC (zl (zN yt (zn zk (pv 2) zF (fun _ _=>rfl)) zQ (zW _)) (zJ yJ) zL) (zC (zl (zN yt (zn zk (pv 2) zF (fun _ _=>rfl)) zQ (zW _)) (zJ yJ) zL) (zC (zl (zN yt (zn zk (pv 2) zF (fun _ _=>rfl)) zQ (zW _)) (zJ (zR (qg (G_worst_answer.mono (by first|decide|omega)) hr z0y (zB (pv 4) (zB (pv 5) zE))))) zL) (zJ yJ)))))))))),?_⟩;walk_at "wpd";rw[z7i];refine⟨l,rfl,hl,(fun e=>by rw[er] at e;cases e),fun ws D H1 e g1 nD hD=>?_⟩;rw[er] at e;cases e;cases h with
 | @keep h nm rs o vs pr kp qx q=>
  refine zX (SqL.of hD) (zZ (j:=0) rfl) fun p np=>?_;have gp:=zH np (.tup (PPG.map V.str));refine⟨tx h,p,PPG,rfl,rfl,SqT.of zG,fun _=>?_,fun c=>absurd pr.ppg c⟩;have hD2:=gp _ _ hD;have G2:=g1.trans gp;change xt c_NoPlan c_NoPrimes [V.ref D] (upd H1 p (.tup (PPG.map V.str))) _ _;generalize upd H1 p (.tup (PPG.map V.str))=H2 at gp hD2 G2 ⊢;refine⟨D,h,nm,rs,o,vs,rfl,hD2,pr,fun c e x H3 g3 hx=>qx c e x H3 (G2.trans g3) hx,fun eo F xs H3 g3 hF hP=>?_⟩;have G3:=G2.trans g3;refine pA fun Gj gK=>?_;obtain⟨⟨dx,hd⟩,kvs,hp,hlk,hb⟩:=hk.same G3;refine gK ?_;refine⟨d,C,dx,_,.ref pd,rfl,hd,X.cl,X.nP,rfl,zX (SqL.of (g3 _ _ hD2)) (zZ (j:=1) rfl) ⟨pd,_,rfl,DPut.k (k:=.inr (tx nm)) hp (by rw[sizeLine_eq];omega),q eo _ (fun b o hb e=>by rw[za hb];exact G3 b o e) ⟨⟨dx,by rw[za (yw hd hp (by intro z;cases z))];exact hd⟩,_,zG,?_,?_⟩⟩⟩
  ·have:=xj kvs (Sum.inr (tx nm)) (.ref F);omega
  ·exact (hb.put (kp eo) hF hP).by (fun b ys e=>by rw[za (yw e hp (by intro z;cases z))];exact e) fun b ys e=>by rw[za (yw e hp (by intro z;cases z))];exact e
 | @awake nm t k hk1 q1 q2=>
  refine zX (SqL.of hD) (zZ (j:=0) rfl) fun p np=>?_;have gp:=zH np (.tup (PPG.map V.str));refine⟨tx qP,p,PPG,rfl,rfl,SqT.of zG,(fun c=>absurd c (by decide +kernel)),fun _=>?_⟩;have hD2:=gp _ _ hD;have G2:=g1.trans gp;change y0r K (V.ref D) (V.int 0) (upd H1 p (.tup (PPG.map V.str))) _;generalize upd H1 p (.tup (PPG.map V.str))=H2 at gp hD2 G2 ⊢;have hk2:=hk.same G2;refine pA fun Gk gL=>?_;obtain⟨⟨dx,hd⟩,_⟩:=hk2;refine gL ?_;refine zX (SqL.of hD2) (zZ (j:=0) rfl) (eqT ⟨_,rfl,fun _=>⟨d,dx,_,rfl,hd,y0J _,zX (SqL.of hD2) (zZ (j:=1) rfl) ⟨d,pd,tx nm,n,L,rfl,hk.same G2,fun e x hx=>q1 e x H2 G2 hx,fun ws F xs e kp hF hP=>?_⟩⟩,fun c=>absurd (decide_eq_true rfl) c⟩);refine zX (SqL.of hD2) (zZ (j:=2) rfl) ⟨_,k,rfl,hk1.1,by rw[zS];exact hk1.2.1,F,k,xs,ws,rfl,SqL.of hF,hP,fun u hu=>(kp.1 u hu).1,by have:=kp.2.2;omega,fun e0 H3 g3=>?_,fun M H3 m1 m2 g3=>?_⟩
  ·exact⟨none,rfl,(fun n z=>nomatch z),q2 ws none H3 e (G2.trans g3) e0⟩
  ·refine⟨some M,rfl,fun n z=>?_,q2 ws (some M) H3 e (G2.trans g3) ⟨m1,m2⟩⟩;cases z;refine pA fun Gm gM=>?_;obtain⟨u,mu,rfl⟩:=List.mem_map.mp m1;refine gM ?_;exact z4Y (kp.1 u mu) (kp.2.1 u mu) hk1.2.2
 | @worst n1 n2 q1 q2=>
  refine zX (SqL.of hD) (zZ (j:=0) rfl) fun p np=>?_;have gp:=zH np (.tup (PPG.map V.str));refine⟨tx xp,p,PPG,rfl,rfl,SqT.of zG,(fun c=>absurd c (by decide +kernel)),fun _=>?_⟩;have hD2:=gp _ _ hD;have G2:=g1.trans gp;change y0r K (V.ref D) (V.int 0) (upd H1 p (.tup (PPG.map V.str))) _;generalize upd H1 p (.tup (PPG.map V.str))=H2 at gp hD2 G2 ⊢;have hk2':=hk.same G2;refine pA fun Gn gO=>?_;obtain⟨⟨dx,hd⟩,_⟩:=hk2';refine gO ?_;refine zX (SqL.of hD2) (zZ (j:=0) rfl) (eqT ⟨_,rfl,(fun c=>absurd c (by decide)),fun _=>?_⟩);have chk:Str.ofString "check" = tx [99,104,101,99,107]:=by decide +kernel
  have sur:Str.ofString "sure" = tx [115,117,114,101]:=by decide +kernel
  rw[chk];refine zX (SqL.of hD2) (zZ (j:=0) rfl) (eqT ⟨_,rfl,(fun c=>absurd c (by decide)),fun _=>⟨d,dx,_,rfl,hd,y0J _,zX (SqL.of hD2) (zZ (j:=1) rfl) ⟨d,pd,tx n1,n,L,rfl,hk.same G2,fun e x hx=>q1 (.inl e) x H2 G2 hx,fun ws F xs e kp hF hP=>?_⟩⟩⟩);refine⟨d,dx,_,rfl,hd,y0J _,zX (SqL.of hD2) (zZ (j:=2) rfl) ⟨d,pd,tx n2,n,L,rfl,hk.same G2,fun e x hx=>q1 (.inr e) x H2 G2 hx,fun us F2 ys e2 kp2 hF2 hP2=>?_⟩⟩;rw[z8Z,sur,z5o];refine zX (SqL.of hD2) (zZ (j:=0) rfl) (eqT ⟨_,rfl,(fun c=>absurd c (by decide)),fun _=>?_⟩);refine zX (SqL.of hD2) (zZ (j:=0) rfl) (eqT ⟨_,rfl,(fun c=>absurd c (by decide)),fun _=>?_⟩);refine zX (SqL.of hD2) (zZ (j:=0) rfl) (eqT ⟨_,rfl,fun _=>?_,fun c=>absurd (decide_eq_true rfl) c⟩);exact⟨F,F2,xs,ys,ws,us,rfl,hF,hP,hF2,hP2,(q2 ws us e e2).same G2⟩
theorem z6V {X:Cx} {hs:List ExceptHandler} {t u:Addr->Value->TS} (a:PH X hs t) (b:PH X hs u):PH X hs fun x c D σ H=>t x c D σ H∨u x c D σ H:=by
 intro pins s σ H D x cls h1 h2 q;rcases q with q|q
 ·exact a pins s σ H D x cls h1 h2 q
 ·exact b pins s σ H D x cls h1 h2 q
theorem z7Z {bs:List Bool} {σ:St} {H:Hp} {Q:VK} {D0:Addr} {own:List Str} (hst:st0 own [] σ=[none]) (hD0:H D0=some (.lst (bs.map V.bl))) (ln:bs.length<=1000) (hq:∀D H',Same H H'->H' D=some (.lst ((bs.map fun b=>if b=true then (1:Int) else 0).map V.int))->Q (.ref D) H'):z1g (Itl K D0) (qH 0) z5E (tCB (fun xs H Q=>∃b,xs=[V.bl b]/\Q (V.int (if b=true then 1 else 0)) H) (z0Y (z3q 0) z9N)) own [] σ H Q:=by
 obtain⟨Sv,hSv⟩:∃Sv:St->Prop,Sv=fun σ=>∃o,σ=[o]:=⟨_,rfl⟩
 obtain⟨Pv,hPv⟩:∃Pv:Addr->Nat->List V->Hp->Prop,Pv=fun D i ys H2=>H D=none/\Same H H2/\ys=((bs.take i).map fun b=>if b=true then (1:Int) else 0).map V.int:=⟨_,rfl⟩
 refine yz (xs:=bs.map V.bl) Sv Pv (by rw[hSv,hst];exact⟨none,rfl⟩) (fun D hD=>?_) (fun D i ys H2 hD h=>?_) (fun D i x ys σ H2 hx hi hs hD hy h=>?_) (fun D ys H2 hD h=>?_)
 ·rw[hPv];exact⟨hD,zH hD _,rfl⟩
 ·rw[hPv] at h;exact SqL.of (h.2.1 _ _ hD0)
 ·rw[hSv] at hs;rw[hPv] at h;obtain⟨o,rfl⟩:=hs;refine pA fun Go gP=>?_;obtain⟨nD,g,rfl⟩:=h;refine gP ?_;rw[List.getElem?_map] at hx;refine pA fun Gp gQ=>?_;obtain⟨b,hb,rfl⟩:=Option.map_eq_some_iff.mp hx;refine gQ ?_;rw[List.length_map] at hi;walk_at "wp";refine⟨b,rfl,CompP.mk hD hy (by rw[sizeLine_eq];omega) (by rw[hSv];exact⟨_,rfl⟩) (by
   rw[hPv];refine⟨nD,g.write nD _,?_⟩;rw[List.take_add_one,hb];simp)⟩
 ·rw[hPv] at h;refine pA fun Gq gR=>?_;obtain⟨nD,g,rfl⟩:=h;refine gR ?_;rw[List.length_map,List.take_length] at hD;exact hq D H2 g hD
noncomputable def z6I (C:Addr) (k:Int):Sp:=fun vs H Q _=>∃x:Addr,vs=[.ref x]/\H x=some (wF x (.ref C))/\∀H',Same H H'->Q (.int k) H'
noncomputable def wQ (N NP NR NT:Addr):Sp:=fun vs H Q E=>z6I NP 1 vs H Q E∨z6I NR 2 vs H Q E∨z6I N 3 vs H Q E∨z6I NT 4 vs H Q E
theorem z6z {k:Nat} {x:Str} {ps:List Str} {sp sp':Sp} (h1:Has P w K mg base k x ps sp) (h2:Has P w K mg base k x ps sp'):Has P w K mg base k x ps fun vs H Q E=>sp vs H Q E∨sp' vs H Q E:=by
 refine pA fun Gu gU=>?_;obtain⟨f,fd,F,hb,hk,hm,oc,od,osl,hl⟩:=h1;refine gU ?_;refine pA fun Gv gW=>?_;obtain⟨f',fd',F',_,_,hm',oc',od',osl',hl'⟩:=h2;refine gW ?_;rw[hm] at hm';cases hm';rw[hl] at hl';cases hl';exact⟨f,fd,⟨fun vs H Q E h=>h.elim (F.len vs H Q E) (F'.len vs H Q E),fun A outer s H args us vs Q E hr e0 hbt hv z=>z.elim (F.run A outer s H args us vs Q E hr e0 hbt hv) (F'.run A outer s H args us vs Q E hr e0 hbt hv)⟩,hb,hk,hm,oc,od,osl,hl⟩
theorem y0V {C C' x:Addr} {bm:List Value} {H:Hp} {Q:VK} {b:Bool} (hx:H x=some (wF x (.ref C))) (e:(Value.ref C::bm).contains (.ref C')=b) (g:Q (.bl b) H):y1T C C' bm [.ref x,.ref C'] H Q:=⟨x,rfl,hx,by rw[e];exact g⟩
theorem jU {nX:Str} {c_X c_MeetError c_NoPlan c_NoPaper c_NoPrimes c_TooMany c_NoText c_NoName c_NoRow:Addr} (O_X:OX K mg nX c_X (.ref c_MeetError::VE)) (O_NoPlan:OX K mg "NoPlan" c_NoPlan (.ref c_MeetError::VE)) (O_NoPaper:OX K mg "NoPaper" c_NoPaper (.ref c_MeetError::VE)) (O_NoPrimes:OX K mg "NoPrimes" c_NoPrimes (.ref c_MeetError::VE)) (O_TooMany:OX K mg "TooMany" c_TooMany (.ref c_MeetError::VE)) (O_NoText:OX K mg "NoText" c_NoText (.ref c_MeetError::VE)) (O_NoName:OX K mg "NoName" c_NoName (.ref c_MeetError::VE)) (O_NoRow:OX K mg "NoRow" c_NoRow (.ref c_MeetError::VE)) (Z_X:OC K c_X) (T:TF K mg "_law_kind" jR) (m_isinstance:mg "isinstance" = none) (m_ValueError:mg "ValueError" = none) (m_sum:mg "sum" = none) (m_int:mg "int" = none)
  (bs:List Bool) (k:Nat) (e3:∀c∈[c_NoRow,c_NoText,c_NoPaper],(Value.ref c_X::Value.ref c_MeetError::VE).contains (Value.ref c)=false) (e4:[c_NoPlan,c_NoPrimes,c_NoName,c_TooMany].map (fun c=>(Value.ref c_X::Value.ref c_MeetError::VE).contains (Value.ref c))=bs) (b1:(bs.map fun b=>if b=true then (1:Int) else 0).sum=1) (b2:bs[k]?=some true) (b3:∀i,i<k->bs[i]?=some false):Has P w K mg base 1 "_law_kind" ["e"] (z6I c_X (1+(k:Int))):=by
 refine T.has wY (fun _ _ _ _ _ _=>L2.bnd1 fun _=>rfl) (fun vs H Q E h=>?_) (fun f cdv A outer s H vs Q E hr h=>?_)
 ·refine pA fun Gw fA=>?_;obtain⟨x,rfl,_⟩:=h;refine fA ?_;rfl
 refine pA fun Gx fB=>?_;obtain⟨x,rfl,hx,q⟩:=h;refine fB ?_;refine⟨_,(zC (zl (PW.pt (z3H (yd (ze (xF Z_X O_X (by simp) O_NoRow) rfl m_isinstance (by decide +kernel) (zB (pv 0) (zB (xU (v:=.ref c_NoRow) rfl O_NoRow.bound rfl) zE))) (fun _=>rfl)) (z3H (yd (ze (xF Z_X O_X (by simp) O_NoText) rfl m_isinstance (by decide +kernel) (zB (pv 0) (zB (xU (v:=.ref c_NoText) rfl O_NoText.bound rfl) zE))) (fun _=>rfl)) (z3H (yd (ze (xF Z_X O_X (by simp) O_NoPaper) rfl m_isinstance (by decide +kernel) (zB (pv 0) (zB (xU (v:=.ref c_NoPaper) rfl O_NoPaper.bound rfl) zE))) (fun _=>rfl)) (z4K (xn (yd (ze (z7g (T:= "ValueError") O_X (by simp) (by decide +kernel)) rfl m_isinstance (by decide +kernel) (zB (pv 0) (zB (z3L (v:=.ty "ValueError") rfl m_ValueError (by decide +kernel) rfl) zE))) (fun _=>rfl)))))))) (zJ (zR zF)) zL) (zC (zP (i:=1) wY.nd rfl (Or.inl rfl) (zq (zB (ze (xF Z_X O_X (by simp) O_NoPlan) rfl m_isinstance (by decide +kernel) (zB (pv 0) (zB (xU (v:=.ref c_NoPlan) rfl O_NoPlan.bound rfl) zE))) (zB (ze (xF Z_X O_X (by simp) O_NoPrimes) rfl m_isinstance (by decide +kernel) (zB (pv 0) (zB (xU (v:=.ref c_NoPrimes) rfl O_NoPrimes.bound rfl) zE))) (zB (ze (xF Z_X O_X (by simp) O_NoName) rfl m_isinstance (by decide +kernel) (zB (pv 0) (zB (xU (v:=.ref c_NoName) rfl O_NoName.bound rfl) zE))) (zB (ze (xF Z_X O_X (by simp) O_TooMany) rfl m_isinstance (by decide +kernel) (zB (pv 0) (zB (xU (v:=.ref c_TooMany) rfl O_TooMany.bound rfl) zE))) zE)))))) (zC (zl (zN z6b (ze (z7e rfl) rfl m_sum (by decide +kernel) (zB (xV (CompSc.none (own:=["one"]) (by decide +kernel) (by decide +kernel) rfl (by decide +kernel)) rfl (y7 (pv 1)) (fun _ _ _=>(zY (i:=0) (show (["one"]:List Str).Nodup from by decide +kernel) rfl (Or.inl rfl) (Or.inr rfl))) (fun _ _ _=>yq) (fun _ _ _=>(zb z3f rfl m_int (by decide +kernel) (zB (pv 0) zE)))) zE)) zF (zW _)) (zJ (zR zF)) zL) (zJ (zR (zM j8 zF (qh PySem.F.plainAttrs_list PySem.F.slot_list_index PySem.F.type_list_index z2N (pv 1) (zB jx zE)))))))),?_⟩;walk_at "wp";have ve:∀(H1:Hp) (R:VK),H1 x=some (wF x (.ref c_X))->R (.bl true) H1->y3G c_X (V.ty "ValueError") [V.ref x,V.ty "ValueError"] H1 R:=fun H1 R h r=>⟨x,rfl,h,r⟩
 refine y0V hx (e3 _ (by simp)) ⟨_,rfl,(fun c=>nomatch c),fun _=>y0V hx (e3 _ (by simp)) ⟨_,rfl,(fun c=>nomatch c),fun _=>y0V hx (e3 _ (by simp)) ⟨_,rfl,(fun c=>nomatch c),fun _=>ve _ _ hx ⟨_,rfl,(fun c=>nomatch c),fun _=>?_⟩⟩⟩⟩;refine y0V hx rfl (y0V hx rfl (y0V hx rfl (y0V hx rfl fun p np=>?_)));simp only [List.map_cons,List.map_nil] at e4;have eb:[V.bl ((Value.ref c_X::Value.ref c_MeetError::VE).contains (Value.ref c_NoPlan)),V.bl ((Value.ref c_X::Value.ref c_MeetError::VE).contains (Value.ref c_NoPrimes)),V.bl ((Value.ref c_X::Value.ref c_MeetError::VE).contains (Value.ref c_NoName)),V.bl ((Value.ref c_X::Value.ref c_MeetError::VE).contains (Value.ref c_TooMany))]=bs.map V.bl:=by rw[←e4];rfl
 have lb:bs.length=4:=by rw[←e4];rfl
 rw[eb];have g2:=zH np (.lst (bs.map V.bl));have h2:=zG (H:=H) (a:=p) (o:=.lst (bs.map V.bl));generalize upd H p (.lst (bs.map V.bl))=H3 at g2 h2 ⊢;refine⟨⟨_,SqL.of h2⟩,z7Z rfl h2 (by omega) fun F H4 g4 hF=>⟨F,_,rfl,SqL.of hF,fun z hz=>?_,by rw[List.length_map];omega,(fun c=>absurd b1 c),fun _=>⟨.inl ⟨rfl,_,SqL.of (g4 _ _ h2)⟩,p,bs,k,rfl,rfl,g4 _ _ h2,b2,b3,?_⟩⟩⟩
 ·refine pA fun Gy fE=>?_;obtain⟨b,_,rfl⟩:=List.mem_map.mp hz;refine fE ?_;cases b <;> decide
 exact⟨_,_,rfl,rfl,q _ (g2.trans g4)⟩
theorem z5Z {c_MeetError c_NoPlan c_NoPaper c_NoPrimes c_TooMany c_NoText c_NoName c_NoRow:Addr} (O_NoPlan:OX K mg "NoPlan" c_NoPlan (.ref c_MeetError::VE)) (O_NoPaper:OX K mg "NoPaper" c_NoPaper (.ref c_MeetError::VE)) (O_NoPrimes:OX K mg "NoPrimes" c_NoPrimes (.ref c_MeetError::VE)) (O_TooMany:OX K mg "TooMany" c_TooMany (.ref c_MeetError::VE)) (O_NoText:OX K mg "NoText" c_NoText (.ref c_MeetError::VE)) (O_NoName:OX K mg "NoName" c_NoName (.ref c_MeetError::VE)) (O_NoRow:OX K mg "NoRow" c_NoRow (.ref c_MeetError::VE)) (Z_NoPlan:OC K c_NoPlan) (Z_NoPrimes:OC K c_NoPrimes) (Z_NoName:OC K c_NoName) (Z_TooMany:OC K c_TooMany) (ndE:[c_MeetError,c_NoPlan,c_NoPaper,c_NoPrimes,c_TooMany,c_NoText,c_NoName,c_NoRow].Nodup) (T:TF K mg "_law_kind" jR) (m_isinstance:mg "isinstance" = none) (m_ValueError:mg "ValueError" = none) (m_sum:mg "sum" = none) (m_int:mg "int" = none):Has P w K mg base 1 "_law_kind" ["e"] (wQ c_NoName c_NoPlan c_NoPrimes c_TooMany):=by
 simp only [List.nodup_cons,List.mem_cons,List.not_mem_nil,or_false,not_or] at ndE;refine pA fun Gz fF=>?_;obtain⟨⟨m1,m2,m3,m4,m5,m6,m7⟩,⟨p2,p3,p4,p5,p6,p7⟩,⟨q3,q4,q5,q6,q7⟩,⟨r4,r5,r6,r7⟩,⟨t5,t6,t7⟩,⟨u6,u7⟩,v7,_⟩:=ndE;refine fF ?_;have nc:∀C C':Addr,C≠C'->c_MeetError≠C'->(Value.ref C::Value.ref c_MeetError::VE).contains (Value.ref C')=false:=fun C C' h1 h2=>by
  simp only [List.contains_cons,Bool.or_eq_false_iff,beq_eq_false_iff_ne,ne_eq,Value.ref.injEq];exact⟨fun e=>h1 e.symm,fun e=>h2 e.symm,by simp⟩
 have yc:∀C:Addr,(Value.ref C::Value.ref c_MeetError::VE).contains (Value.ref C)=true:=fun C=>by simp
 have three:∀C:Addr,C≠c_NoRow->C≠c_NoText->C≠c_NoPaper->∀c∈[c_NoRow,c_NoText,c_NoPaper],(Value.ref C::Value.ref c_MeetError::VE).contains (Value.ref c)=false:=fun C h1 h2 h3 c hc=>by
  simp only [List.mem_cons,List.not_mem_nil,or_false] at hc;rcases hc with rfl|rfl|rfl
  ·exact nc _ _ h1 m7
  ·exact nc _ _ h2 m5
  ·exact nc _ _ h3 m2
 exact z6z (jU (k:=0) (bs:=[true,false,false,false]) O_NoPlan O_NoPlan O_NoPaper O_NoPrimes O_TooMany O_NoText O_NoName O_NoRow Z_NoPlan T m_isinstance m_ValueError m_sum m_int (three _ p7 p5 p2) (by simp only [List.map_cons,List.map_nil,yc c_NoPlan,nc c_NoPlan c_NoPrimes p3 m3,nc c_NoPlan c_NoName p6 m6,nc c_NoPlan c_TooMany p4 m4]) (by decide) rfl (by decide))
  (z6z (jU (k:=1) (bs:=[false,true,false,false]) O_NoPrimes O_NoPlan O_NoPaper O_NoPrimes O_TooMany O_NoText O_NoName O_NoRow Z_NoPrimes T m_isinstance m_ValueError m_sum m_int (three _ r7 r5 (Ne.symm q3)) (by simp only [List.map_cons,List.map_nil,yc c_NoPrimes,nc c_NoPrimes c_NoPlan (Ne.symm p3) m1,nc c_NoPrimes c_NoName r6 m6,nc c_NoPrimes c_TooMany r4 m4]) (by decide) rfl (by decide))
  (z6z (jU (k:=2) (bs:=[false,false,true,false]) O_NoName O_NoPlan O_NoPaper O_NoPrimes O_TooMany O_NoText O_NoName O_NoRow Z_NoName T m_isinstance m_ValueError m_sum m_int (three _ v7 (Ne.symm u6) (Ne.symm q6)) (by simp only [List.map_cons,List.map_nil,yc c_NoName,nc c_NoName c_NoPlan (Ne.symm p6) m1,nc c_NoName c_NoPrimes (Ne.symm r6) m3,nc c_NoName c_TooMany (Ne.symm t6) m4]) (by decide) rfl (by decide))
  (jU (k:=3) (bs:=[false,false,false,true]) O_TooMany O_NoPlan O_NoPaper O_NoPrimes O_TooMany O_NoText O_NoName O_NoRow Z_TooMany T m_isinstance m_ValueError m_sum m_int (three _ t7 t5 (Ne.symm q4)) (by simp only [List.map_cons,List.map_nil,yc c_TooMany,nc c_TooMany c_NoPlan (Ne.symm p4) m1,nc c_TooMany c_NoPrimes (Ne.symm r4) m3,nc c_TooMany c_NoName t6 m6]) (by decide) rfl (by decide))))
noncomputable def y3R (N NP NR NT:Addr) (c:Value) (k:Int):Prop:=(c=.ref NP/\k=1)∨(c=.ref NR/\k=2)∨(c=.ref N/\k=3)∨(c=.ref NT/\k=4)
theorem WAsk.mono {N:Addr} {ws us:List T3} {H:Hp} {Q Q2:VK} {E E2:XK} (h:WAsk N ws us H Q E) (hq:∀v H',Q v H'->Q2 v H') (he:∀c x H',E c x H'->E2 c x H'):WAsk N ws us H Q2 E2:=by
 refine pA fun G0 fG=>?_;obtain⟨a1,a2,a3,a4,a5,a6,a7,qx,q0,q1⟩:=h;refine fG ?_;exact⟨a1,a2,a3,a4,a5,a6,a7,fun c x H' g' hx=>he _ _ _ (qx c x H' g' hx),fun c e H' g'=>hq _ _ (q0 c e H' g'),fun c e W D T H' g' hw=>hq _ _ (q1 c e W D T H' g' hw)⟩
theorem z2w {C N NP NR NT:Addr} {vs:List V} {H:Hp} {Q Q2:VK} {E E2:XK} (h:xu C N NP NR NT vs H Q E) (hq:∀v H',Q v H'->Q2 v H') (he:∀c x H',E c x H'->E2 c x H'):xu C N NP NR NT vs H Q2 E2:=by
 refine pA fun Fa fH=>?_;obtain⟨d,pd,l,n,L,ws,e,hk,hn,hl,er,h⟩:=h;refine fH ?_;refine⟨d,pd,l,n,L,ws,e,hk,hn,hl,er,?_⟩;cases h with
 | keep pr kp qx q=>exact .keep pr kp (fun c e x H' g hx=>he _ _ _ (qx c e x H' g hx)) fun e H' o dk=>hq _ _ (q e H' o dk)
 | awake hk1 q1 q2=>exact .awake hk1 (fun e x H' g hx=>he _ _ _ (q1 e x H' g hx)) fun ws r H' e g hr=>hq _ _ (q2 ws r H' e g hr)
 | worst q1 q2=>exact .worst (fun e x H' g hx=>he _ _ _ (q1 e x H' g hx)) fun ws us e e2=>(q2 ws us e e2).mono hq he
noncomputable def y2Q (Q:VK):VK:=fun v H'=>∃z,v=.str z/\∀(D:Addr) (H2:Hp),Same H' H2->H2 D=some (.lst [.str (Str.ofString "told"),v])->Q (.ref D) H2
noncomputable def y3a (N NP NR NT:Addr) (Q:VK):XK:=fun c ox H'=>∃(x:Addr) (k:Int),ox=some x/\H' x=none/\y3R N NP NR NT c k/\∀(D:Addr) (H'':Hp),Same H' H''->H'' D=some (.lst [.str (Str.ofString "refused"),.int k])->Q (.ref D) H''
noncomputable def jM (C N NP NR NT:Addr):Sp:=fun vs H Q _=>xu C N NP NR NT vs H (y2Q Q) (y3a N NP NR NT Q)
theorem z5V {C c_MeetError c_NoPlan c_NoPrimes c_TooMany c_NoName:Addr} (cl_Desk:Cls K C) (O_MeetError:OX K mg "MeetError" c_MeetError VE) (O_NoPlan:OX K mg "NoPlan" c_NoPlan (.ref c_MeetError::VE)) (O_NoPrimes:OX K mg "NoPrimes" c_NoPrimes (.ref c_MeetError::VE)) (O_TooMany:OX K mg "TooMany" c_TooMany (.ref c_MeetError::VE)) (O_NoName:OX K mg "NoName" c_NoName (.ref c_MeetError::VE)) (T:TF K mg "_law_told" qX) (m_isinstance:mg "isinstance" = none) (m_str:mg "str" = none) (G_Desk_told:HasMX P w K mg base 8 C "told" ["self", "row"] (xu C c_NoName c_NoPlan c_NoPrimes c_TooMany)) (G_law_kind:Has P w K mg base 1 "_law_kind" ["e"] (wQ c_NoName c_NoPlan c_NoPrimes c_TooMany)):Has P w K mg base 9 "_law_told" ["desk", "row"] (jM C c_NoName c_NoPlan c_NoPrimes c_TooMany):=by
 refine T.has zo (fun _ _ _ _ _ _=>L2.bnd2 fun _ _=>rfl) (fun vs H Q E h=>?_) (fun f cdv A outer s H vs Q E hr h=>?_)
 ·refine pA fun Fb fI=>?_;obtain⟨d,pd,l,n,L,ws,rfl,_⟩:=h;refine fI ?_;rfl
 have h0:=h;refine pA fun Ga hU=>?_;obtain⟨d,pd,l,n,L,ws,rfl,⟨⟨dx,hd⟩,_⟩,_⟩:=h0;refine hU ?_;refine⟨_,(zC (zP (i:=2) zo.nd rfl (Or.inl rfl) ye) (zC (zP (i:=3) zo.nd rfl (Or.inl rfl) ye) (zC (z6T rfl rfl rfl (z3G (i:=3) zo.nd rfl (Or.inl rfl) (z9w rfl (pv 0) cl_Desk (G_Desk_told.mono (by first|decide|omega)) hr (zB (pv 1) zE))) (z6V (yU (i:=4) rfl zo.nd (fun _=>qy O_NoPlan O_MeetError) (fun _=>(zJ (zP (i:=2) zo.nd rfl (Or.inl rfl) (pv 4)))) qz) (z6V (yU (i:=4) rfl zo.nd (fun _=>qy O_NoPrimes O_MeetError) (fun _=>(zJ (zP (i:=2) zo.nd rfl (Or.inl rfl) (pv 4)))) qz) (z6V (yU (i:=4) rfl zo.nd (fun _=>qy O_NoName O_MeetError) (fun _=>(zJ (zP (i:=2) zo.nd rfl (Or.inl rfl) (pv 4)))) qz) (yU (i:=4) rfl zo.nd (fun _=>qy O_TooMany O_MeetError) (fun _=>(zJ (zP (i:=2) zo.nd rfl (Or.inl rfl) (pv 4)))) qz))))) (zC (zl (zN wg (pv 2) ye (zW _)) (zJ (zR (zq (zB zQ (zB (zV (G_law_kind.mono (by first|decide|omega)) hr (zB (pv 2) zE)) zE))))) zL) (zC (zl (yd (ze z4v rfl m_isinstance (by decide +kernel) (zB (pv 3) (zB (z3L (v:=.ty "str") rfl m_str (by decide +kernel) rfl) zE))) (fun _=>rfl)) (zJ (zR (zq (zB zQ (zB (pv 3) zE))))) zL) (zJ (zR (zq (zB zQ (zB zF zE)))))))))),?_⟩;walk_at "wpd";unfold y2K;walk_at "wpd";have lk:List.lookup (Str.ofString "told") [((Str.ofString "plans"),V.ref pd)]=none:=by
  rw[List.lookup_cons,show ((Str.ofString "told") == (Str.ofString "plans"))=false by decide +kernel];rfl
 refine⟨d,dx,_,rfl,hd,lk,z2w h (fun v H1 ⟨z,ez,q⟩=>?_) (fun c ox H1 ⟨x,z,ex,nx,kd,q⟩=>⟨x,ex,?_⟩)⟩
 ·subst ez;exact⟨_,_,_,true,rfl,.str _,rfl,_,rfl,(fun _ p np=>q p _ (zH np _) zG),fun c=>absurd rfl c⟩
 ·have hc:∀c:Addr,(Value.ref c::Value.ref c_MeetError::VE).contains (Value.ref c_MeetError)=true:=fun c=>by simp
  rcases kd with⟨rfl,rfl⟩|⟨rfl,rfl⟩|⟨rfl,rfl⟩|⟨rfl,rfl⟩
  ·refine .inl ⟨rfl,?_⟩;unfold z3A;rw[hc];unfold x6;walk_at "wpd";have gx:=zH nx (wF x (.ref c_NoPlan));have hxx:=zG (H:=H1) (a:=x) (o:=wF x (.ref c_NoPlan));generalize upd H1 x (wF x (.ref c_NoPlan))=H4 at gx hxx ⊢;exact .inl ⟨x,rfl,hxx,fun H5 g5 t nt=>q t _ (gx.trans (g5.trans (zH nt _))) zG⟩
  ·refine .inr (.inl ⟨rfl,?_⟩);unfold z3A;rw[hc];unfold x6;walk_at "wpd";have gx:=zH nx (wF x (.ref c_NoPrimes));have hxx:=zG (H:=H1) (a:=x) (o:=wF x (.ref c_NoPrimes));generalize upd H1 x (wF x (.ref c_NoPrimes))=H4 at gx hxx ⊢;exact .inr (.inl ⟨x,rfl,hxx,fun H5 g5 t nt=>q t _ (gx.trans (g5.trans (zH nt _))) zG⟩)
  ·refine .inr (.inr (.inl ⟨rfl,?_⟩));unfold z3A;rw[hc];unfold x6;walk_at "wpd";have gx:=zH nx (wF x (.ref c_NoName));have hxx:=zG (H:=H1) (a:=x) (o:=wF x (.ref c_NoName));generalize upd H1 x (wF x (.ref c_NoName))=H4 at gx hxx ⊢;exact .inr (.inr (.inl ⟨x,rfl,hxx,fun H5 g5 t nt=>q t _ (gx.trans (g5.trans (zH nt _))) zG⟩))
  ·refine .inr (.inr (.inr ⟨rfl,?_⟩));unfold z3A;rw[hc];unfold x6;walk_at "wpd";have gx:=zH nx (wF x (.ref c_TooMany));have hxx:=zG (H:=H1) (a:=x) (o:=wF x (.ref c_TooMany));generalize upd H1 x (wF x (.ref c_TooMany))=H4 at gx hxx ⊢;exact .inr (.inr (.inr ⟨x,rfl,hxx,fun H5 g5 t nt=>q t _ (gx.trans (g5.trans (zH nt _))) zG⟩))
theorem z9M {c:Nat} {r:List Nat}:∀ {p:List Nat},c∉p->(p++c::r).takeWhile (· != c)=p
 | [],_=>by simp
 | x::xs,h=>by
  have ih:=z9M (c:=c) (r:=r) (p:=xs) fun z=>h (List.mem_cons_of_mem _ z);have ne:(x != c)=true:=by simp;exact fun e=>h (by simp [e])
  rw[List.cons_append,List.takeWhile_cons,ne];simp only [if_true];rw[ih]
theorem z2C {w v:List Nat} {ws:List (List Nat)} {f:List Str} (h1:vQ.lookup (tx w)=some f) (hl:ws.length+1=f.length) (h2:32∉w) (h3:∀p∈(v::ws).dropLast,32∉p) (hf:qK f (v::ws)=true):kE (glu 32 (w::v::ws))=some (w::v::ws):=by
 have e1:glu 32 (w::v::ws)=w++32::glu 32 (v::ws):=rfl;have e2:z2d (glu 32 (w::v::ws))=some f:=by
  unfold z2d;rw[e1,z9M h2,h1]
 have e3:xl 32 (glu 32 (w::v::ws)) f.length=w::v::ws:=z4A _ _ (by simp) (by simp;omega) (fun p hp=>by
  rw[List.dropLast_cons_of_ne_nil (by simp)] at hp;rcases List.mem_cons.mp hp with rfl|hp
  ·exact h2
  ·exact h3 p hp) (fun z=>by simp at z;omega)
 unfold kE;rw[e2];show (if (xl 32 (glu 32 (w::v::ws)) f.length).length=f.length+1/\qK f (xl 32 (glu 32 (w::v::ws)) f.length).tail=true then some (xl 32 (glu 32 (w::v::ws)) f.length) else none)=_;rw[e3,if_pos ⟨by simp;omega,hf⟩]
theorem wt {l:List Nat} (h:nmB l=true):32∉l:=fun z=>by
 unfold nmB at h;rw[Bool.and_eq_true,Bool.and_eq_true,List.all_eq_true] at h;have:=of_decide_eq_true (h.2.2 32 z);omega
theorem xJ {l:List Nat} (h:nmB l=true):l.length<=8/\∀x∈l,x<128:=by
 unfold nmB at h;rw[Bool.and_eq_true,Bool.and_eq_true,List.all_eq_true,decide_eq_true_eq] at h;exact⟨of_decide_eq_true h.2.1,fun x hx=>by have:=of_decide_eq_true (h.2.2 x hx);omega⟩
theorem z8E {n:Int} (h:SgOk n):∀x∈dg n,x<128:=fun x hx=>by
 have:=h.sg x hx;omega
theorem jV {l:List Nat}:z5m "name" l=nmB l:=rfl
theorem z8x {l:List Nat}:z5m "turn" l=z1m l:=rfl
theorem z8y {l:List Nat}:z5m "text" l=true:=rfl
theorem z8F {nm t:List Nat} (h:nmB nm=true):kE (glu 32 [xo,nm,t])=some [xo,nm,t]:=
 z2C (f:=["name", "text"]) (by rfl) rfl (by decide) (fun p hp=>by
  have:p=nm:=by simpa [List.dropLast] using hp
  rw[this];exact wt h) (by simp only [qK,jV,z8y,h];rfl)
theorem z6Q {nm:List Nat} {n:Int} (h:nmB nm=true) (hn:SgOk n):kE (glu 32 [qP,nm,dg n])=some [qP,nm,dg n]:=
 z2C (f:=["name", "turn"]) (by rfl) rfl (by decide) (fun p hp=>by
  have:p=nm:=by simpa [List.dropLast] using hp
  rw[this];exact wt h) (by simp only [qK,jV,z8x,h,hn.turn];rfl)
theorem y2g {n:Int} (h0:-(10^60)<=n) (h1:n<=10^60):y3Q (dg n) n:=by
 have e:(10:Int)^60<2^400:=by decide +kernel
 have e2:(10:Int)^60<10^100:=by decide +kernel
 have ei:((2^400:Nat):Int)=2^400:=by rw[Int.natCast_pow];rfl
 have s:=y1P (n:=n) (by omega) (by omega);refine⟨s.rd,by have:=s.len;omega,?_⟩;rw[←ei] at e;generalize (2:Nat)^400=B at *
 omega
noncomputable def Lb (H:Hp) (p:Addr) (n:Nat) (L:jX):Prop:=∃kvs,H p=some (.dK kvs)/\kvs.length<=n/\BkAt H kvs L
theorem Lb.same {H H':Hp} {p:Addr} {n:Nat} {L:jX} (h:Lb H p n L) (g:Same H H'):Lb H' p n L:=by
 refine pA fun Gb hV=>?_;obtain⟨kvs,hp,hl,hb⟩:=h;refine hV ?_;exact⟨kvs,g _ _ hp,hl,hb.by (fun b xs e=>g _ _ e) fun b xs e=>g _ _ e⟩
theorem z7l (n:Int):Asc (Str.ofString (toString n)):=by
 have pos:∀m:Int,0<=m->∀x∈dg m,x<128:=fun m hm x hx=>by
  refine pA fun Gc gB=>?_;obtain⟨l,e,a,_⟩:=z1C hm;refine gB ?_;have el:dg m=l:=by
   unfold dg;rw[e,zh]
  have:=a x (el▸hx);omega
 rw[yP];refine z2r.mpr fun x hx=>?_;rcases Int.lt_or_le n 0 with c|c
 ·rw[z9b c] at hx;rcases List.mem_cons.mp hx with rfl|hx
  ·decide
  ·exact pos (-n) (by omega) x hx
 ·exact pos n c x hx
theorem y0k (r:Option Int):Asc (y0l r):=by
 cases r with
 | none=>show Asc (Str.ofString "never");unfold Asc;decide +kernel
 | some n=>exact z7l n
theorem jO {z:Str} (h:Asc z):SeqAt.shaped (.str z)=true:=by
 have e:PyData.strOk z=true:=by
  rw[←jp z];exact z7z (z3i.mp h)
 unfold SeqAt.shaped;simp only [PyData.canLay0,PyData.depth,e,Bool.true_and];exact decide_eq_true (by omega)
theorem zg (k l:List Nat):tx k++tx l=tx (k++l):=by
 apply z0f;rw[z6B,zh,zh,zh]
theorem qQ:Str.ofString "awake " = tx (qP++[32]):=by decide +kernel
theorem xq:Str.ofString "worst " = tx (xp++[32]):=by decide +kernel
theorem z4Q:Str.ofString "plan " = tx (xo++[32]):=by decide +kernel
theorem yi:Str.ofString " " = tx [32]:=by decide +kernel
noncomputable def yb (z:Str):HO:=.lst [.str (Str.ofString "told"),.str z]
noncomputable def vT (k:Int):HO:=.lst [.str (Str.ofString "refused"),.int k]
theorem z4y:Asc (Str.ofString "told"):=by unfold Asc;decide +kernel
theorem jW {z:Str} {a b:Addr} {H:Hp} {Q:VK} (hz:Asc z) (ha:H a=some (yb z)) (hb:H b=some (yb z)) (q:Q (.bl true) H):y1V K (.ref a) (.ref b) H Q:=by
 have sh:SeqAt.shaped (.list [.str (Str.ofString "told"),.str z])=true:=by
  have e1:=jO z4y;have e2:=jO hz;unfold SeqAt.shaped at e1 e2 ⊢;simp only [PyData.canLay0,PyData.depth,PyData.canLayAll0,PyData.depthAll,Bool.and_eq_true,decide_eq_true_eq,Bool.and_true] at e1 e2 ⊢;exact⟨⟨e1.1,e2.1⟩,rfl⟩
 refine⟨_,_,.lst (SqL.of ha) (qM [Str.ofString "told",z]),.lst (SqL.of hb) (qM [Str.ofString "told",z]),sh,sh,?_⟩;have:PyData.eqv (.list ([Str.ofString "told",z].map PyData.str)) (.list ([Str.ofString "told",z].map PyData.str))=true:=by simp [PyData.eqv,PyData.eqvAll]
 rw[this];exact q
theorem z1X {k:Int} {a b:Addr} {H:Hp} {Q:VK} (hk:0<=k/\k<=4) (ha:H a=some (vT k)) (hb:H b=some (vT k)) (q:Q (.bl true) H):y1V K (.ref a) (.ref b) H Q:=by
 have sh:SeqAt.shaped (.list [.str (Str.ofString "refused"),.int k])=true:=by
  have:k=0∨k=1∨k=2∨k=3∨k=4:=by omega
  rcases this with rfl|rfl|rfl|rfl|rfl <;> decide +kernel
 have dd:DDs K H [.str (Str.ofString "refused"),.int k] [.str (Str.ofString "refused"),.int k]:=.cons (.str _) (.cons (.int _) .nil);refine⟨_,_,.lst (SqL.of ha) dd,.lst (SqL.of hb) dd,sh,sh,?_⟩;have:PyData.eqv (.list [.str (Str.ofString "refused"),.int k]) (.list [.str (Str.ofString "refused"),.int k])=true:=by simp [PyData.eqv,PyData.eqvAll]
 rw[this];exact q
noncomputable def z1v (C:Addr):Sp:=fun vs H Q _=>∃(d pd p:Addr) (nm:List Nat) (t:Int) (n:Nat) (L:jX),vs=[.ref d,.ref p,.str (tx nm),.int t]/\Dsk C H d pd n L/\Lb H p n L/\n<=1000/\nmB nm=true/\-(10^60)<=t/\t<=10^60/\∀H',Same H H'->Q (.bl true) H'
theorem z3Y {C c_NoPlan c_NoPrimes c_TooMany c_NoName:Addr} (T:TF K mg "_law_awake" jf) (m_list:mg "list" = none) (m_str:mg "str" = none) (G_next_awake:Has P w K mg base 1 "next_awake" ["plan", "turn"] (z3B K)) (G_law_told:Has P w K mg base 9 "_law_told" ["desk", "row"] (jM C c_NoName c_NoPlan c_NoPrimes c_TooMany)):Has P w K mg base 10 "_law_awake" ["desk", "plans", "name", "turn"] (z1v C):=by
 refine T.has yj (fun _ _ _ _ _ _=>L2.bnd4 fun _ _ _ _=>rfl) (fun vs H Q E h=>?_) (fun f cdv A outer s H vs Q E hr h=>?_)
 ·refine pA fun Ge gC=>?_;obtain⟨d,pd,p,nm,t,n,L,rfl,_⟩:=h;refine gC ?_;rfl
 refine pA fun Gf gG=>?_;obtain⟨d,pd,p,nm,t,n,L,rfl,hk,⟨kvs,hp,hlk,hb⟩,hn,hnm,t0,t1,q⟩:=h;refine gG ?_;refine⟨_,(zC (zP (i:=4) yj.nd rfl (Or.inl rfl) (zq (zB zQ (zB zF zE)))) (zC (x4 (zl (z4M (z6a (xX hr) (pv 2) (pv 1))) (zC (zP (i:=5) yj.nd rfl (Or.inl rfl) (zV (G_next_awake.mono (by first|decide|omega)) hr (zB (zb yX rfl m_list (by decide +kernel) (zB (yr (xX hr) (pv 1) (pv 2) (fun _ _=>rfl)) zE)) (zB (pv 3) zE)))) (zC (zP (i:=4) yj.nd rfl (Or.inl rfl) (zq (zB zQ (zB zQ zE)))) (zJ (zl (zN wg (pv 5) ye (zW _)) (zJ (zP (i:=4) yj.nd rfl (Or.inl rfl) (zq (zB zQ (zB (zb zi rfl m_str (by decide +kernel) (zB (pv 5) zE)) zE))))) zL)))) zL)) (zJ (zR (xW (z2L hr.units) (zV (G_law_told.mono (by first|decide|omega)) hr (zB (pv 0) (zB (zM zU (zM zU (zM zU zQ (pv 2)) zQ) (zb zi rfl m_str (by decide +kernel) (zB (pv 3) zE))) zE))) (pv 4) (zW _)))))),?_⟩;walk_at "wpd";intro p1 n1;have g1:=zH n1 (vT 3);have h1:=zG (H:=H) (a:=p1) (o:=vT 3);have dg1:=DGet.k (k:=.inr (tx nm)) (g1 _ _ hp);have e100:(10:Int)^60<10^100:=by decide +kernel
 have sg:=y1P (n:=t) (by omega) (by omega);have kt:=y2g t0 t1;obtain⟨M,hM⟩:∃M:St->Hp->Prop,M=fun σ H'=>∃(b:Addr) (o:Option V),σ=[some (.ref d),some (.ref p),some (.str (tx nm)),some (.int t),some (.ref b),o]/\Same H H'/\((L (tx nm)=none/\H' b=some (vT 3))∨∃ws r,L (tx nm)=some ws/\NxA ws t r/\H' b=some (yb (y0l r))):=⟨_,rfl⟩
 refine⟨M,?_,fun σ H2 h=>?_⟩
 ·change y1D _ _ _ _ _ (upd H p1 (vT 3));generalize upd H p1 (vT 3)=H1 at g1 h1 dg1 ⊢;walk_at "wpd";refine⟨p,_,rfl,dg1,fun c=>?_,fun c=>?_⟩
  ·cases e:L (tx nm) with
   | none=>rw[(hb _).1 e] at c;cases c
   | some ws=>
    refine pA fun Gg gH=>?_;obtain⟨kp,D,xs,e1,e2,e3⟩:=(hb _).2 ws e;refine gH ?_;rw[e1] at dg1;have e2':=g1 _ _ e2;refine⟨p,.ref D,rfl,dg1,D,xs,rfl,.inl (SqL.of e2'),fun F nF=>?_⟩;have gF:=zH nF (.lst xs);refine⟨F,t,xs,ws,rfl,SqL.of zG,(e3.same g1).same gF,fun u hu=>(kp.1 u hu).1,by have:=kp.2.2;omega,fun e0 H3 g3=>?_,fun m H3 m1 m2 g3=>?_⟩
    ·intro p2 n2;have g2:=zH n2 (yb (y0l none));refine⟨fun z=>absurd rfl z,fun _=>?_⟩;rw[hM];exact⟨p2,_,rfl,g1.trans (gF.trans (g3.trans g2)),.inr ⟨ws,none,e,e0,zG⟩⟩
    ·intro p2 n2;have g2:=zH n2 (yb (y0l none));refine⟨fun _=>⟨m,rfl,?_,fun p3 n3=>?_⟩,fun z=>absurd (fun y=>nomatch y) z⟩
     ·refine pA fun Gh gI=>?_;obtain⟨u,mu,rfl⟩:=List.mem_map.mp m1;refine gI ?_;exact z4Y (kp.1 u mu) (kp.2.1 u mu) kt.2.2
     ·have g4:=zH n3 (yb (y0l (some m)));rw[hM];exact⟨p3,_,rfl,g1.trans (gF.trans (g3.trans (g2.trans g4))),.inr ⟨ws,some m,e,⟨m1,m2⟩,zG⟩⟩
  ·rw[hM];refine⟨p1,_,rfl,g1,.inl ⟨?_,h1⟩⟩;cases e:L (tx nm) with
   | none=>rfl
   | some ws=>
    refine pA fun Gi gJ=>?_;obtain⟨_,D,xs,e1,_⟩:=(hb _).2 ws e;refine gJ ?_;exact absurd (by rw[e1];rfl) c
 rw[hM] at h;refine pA fun Gj gK=>?_;obtain⟨b,o,rfl,g2,hv⟩:=h;refine gK ?_;walk_at "wpd";have ln:=xJ hnm;have ld:=sg.len;have la:qP.length=5:=rfl;have eT:Str.ofString "awake " ++ tx nm++Str.ofString " " ++ Str.ofString (toString t)=tx (glu 32 [qP,nm,dg t]):=by
  rw[qQ,yi,yP,zg,zg,zg];congr 1;simp [glu]
 have tok:TxOk (glu 32 [qP,nm,dg t]):=by
  refine⟨Nat.le_trans (ql (M:=101) fun x hx=>?_) (by show 3*102<=100000;decide),qm (Pz:=fun x=>x<128) (by decide) fun x hx=>?_⟩
  ·simp only [List.mem_cons,List.not_mem_nil,or_false] at hx;rcases hx with rfl|rfl|rfl <;> omega
  ·simp only [List.mem_cons,List.not_mem_nil,or_false] at hx;rcases hx with rfl|rfl|rfl
   ·decide
   ·exact ln.2
   ·exact z8E sg
 refine⟨_,_,rfl,rfl,by rw[qQ,zS,zS,List.length_append];simp;omega,_,_,rfl,rfl,by rw[qQ,yi,zg,zS,zS,List.length_append,List.length_append];simp;omega,_,rfl,sg.sz,_,_,rfl,rfl,by rw[qQ,yi,yP,zg,zg,zS,zS,List.length_append,List.length_append,List.length_append];simp;omega,?_⟩;rw[eT];refine⟨d,pd,_,n,L,_,rfl,hk.same g2,hn,tok,z6Q hnm sg,.awake kt (fun e x H3 g3 hx=>⟨x,3,rfl,hx,.inr (.inr (.inl ⟨rfl,rfl⟩)),fun t2 H4 g4 ht2=>?_⟩) fun ws r H3 e g3 hr=>⟨_,rfl,fun t2 H4 g4 ht2=>?_⟩⟩
 ·rcases hv with⟨_,hb2⟩|⟨ws,r,e2,_⟩
  ·exact z1X (by decide) ht2 (g4 _ _ (g3 _ _ hb2)) (q _ (g2.trans (g3.trans g4)))
  ·rw[e] at e2;cases e2
 ·rcases hv with⟨e2,_⟩|⟨us,r2,e2,hr2,hb2⟩
  ·rw[e] at e2;cases e2
  ·rw[e] at e2;cases e2;rw[hr.uniq hr2] at ht2;exact jW (y0k _) ht2 (g4 _ _ (g3 _ _ hb2)) (q _ (g2.trans (g3.trans g4)))
theorem z2B {n1 n2:List Nat} (h1:nmB n1=true) (h2:nmB n2=true):kE (glu 32 [xp,n1,n2])=some [xp,n1,n2]:=
 z2C (f:=["name", "name"]) (by decide +kernel) rfl (by decide) (fun p hp=>by
  simp only [List.dropLast,List.mem_cons,List.not_mem_nil,or_false] at hp;subst hp;exact wt h1) (by
  show (z5m "name" n1 && (z5m "name" n2 && true))=true;rw[jV,jV,h1,h2];rfl)
noncomputable def KQ (ws:List T3):Prop:=KpP ws/\ws.length<=3/\yV (ws.map (·.1))<=10^98
theorem KQ.pos {ws:List T3} (h:KQ ws):∀x∈ws.map (·.1),1<=x:=fun x hx=>by
 refine pA fun Gk gL=>?_;obtain⟨u,mu,rfl⟩:=List.mem_map.mp hx;refine gL ?_;exact (h.1.1 u mu).1
theorem KQ.le {ws:List T3} (h:KQ ws):∀u∈ws,u.1<=10^98:=fun u mu=>
 Int.le_trans (Int.le_of_dvd (by have:=yL h.pos;omega) (yT h.pos _ (List.mem_map_of_mem mu))) h.2.2
theorem e98:(10:Int)^98<=2^1000:=by decide +kernel
theorem KQ.two {ws us:List T3} (h:KQ ws) (g:KQ us):yV [yV (ws.map (·.1)),yV (us.map (·.1))]=Nr ws us/\Nr ws us<=2^900:=by
 have p1:=yL h.pos;have p2:=yL g.pos;have pp:∀x∈[yV (ws.map (·.1)),yV (us.map (·.1))],1<=x:=fun x hx=>by
  simp only [List.mem_cons,List.not_mem_nil,or_false] at hx;rcases hx with rfl|rfl
  ·exact p1
  ·exact p2
 have ap:=z1f h.1.1 g.1.1;have e:yV [yV (ws.map (·.1)),yV (us.map (·.1))]=Nr ws us:=by
  refine kF (yL pp) (yL ap) ((zy pp).mpr fun x hx=>?_) ((zy ap).mpr fun x hx=>?_)
  ·simp only [List.mem_cons,List.not_mem_nil,or_false] at hx;rcases hx with rfl|rfl
   ·exact (zy h.pos).mpr fun x hx=>yT ap x (by rw[List.map_append];exact List.mem_append_left _ hx)
   ·exact (zy g.pos).mpr fun x hx=>yT ap x (by rw[List.map_append];exact List.mem_append_right _ hx)
  ·rw[List.map_append] at hx;rcases List.mem_append.mp hx with z|z
   ·exact Int.dvd_trans (yT h.pos x z) (yT pp _ (by simp))
   ·exact Int.dvd_trans (yT g.pos x z) (yT pp _ (by simp))
 refine⟨e,?_⟩;have m:=z6p (B:=10^98) (by decide +kernel) (xs:=[yV (ws.map (·.1)),yV (us.map (·.1))]) fun x hx=>by
  simp only [List.mem_cons,List.not_mem_nil,or_false] at hx;rcases hx with rfl|rfl
  ·exact⟨p1,h.2.2⟩
  ·exact⟨p2,g.2.2⟩
 rw[e] at m;exact Int.le_trans m (show ((10:Int)^98)^2<=2^900 by decide +kernel)
noncomputable def y3u (L:jX) (z1 z2:Str) (o:HO):Prop:=((L z1=none∨L z2=none)/\o=vT 3)∨∃ws us,L z1=some ws/\L z2=some us/\((v5 ws us/\o=vT 4)∨(¬v5 ws us/\xY (shs ws us) (Gr ws us).toNat≠none/\o=yb (tx vA))∨(¬v5 ws us/\xY (shs ws us) (Gr ws us).toNat=none/\∃W D T,WorstP ws us W D T/\o=yb (tx (wtx W D T))))
theorem Lb.get {H:Hp} {p:Addr} {n:Nat} {L:jX} {z:Str} {ws:List T3} (h:Lb H p n L) (e:L z=some ws):∃D xs,DGet H p (.str z) (some (.ref D))/\H D=some (.lst xs)/\Pl H xs ws:=by
 refine pA fun Gm gM=>?_;obtain⟨kvs,hp,hl,hb⟩:=h;refine gM ?_;refine pA fun Gn gO=>?_;obtain⟨_,D,xs,e1,e2,e3⟩:=(hb z).2 ws e;refine gO ?_;have dg:=DGet.k (k:=.inr z) hp;rw[e1] at dg;exact⟨D,xs,dg,e2,e3⟩
theorem Lb.has {H:Hp} {p:Addr} {n:Nat} {L:jX} (h:Lb H p n L) (z:Str):∃o,DGet H p (.str z) o/\(o.isSome=true ↔ ∃ws,L z=some ws):=by
 refine pA fun Go gP=>?_;obtain⟨kvs,hp,hl,hb⟩:=h;refine gP ?_;refine⟨_,DGet.k (k:=.inr z) hp,?_⟩;cases e:L z with
 | none=>rw[(hb z).1 e];exact⟨(fun c=>nomatch c),fun⟨_,c⟩=>nomatch c⟩
 | some ws=>
  refine pA fun Gp gQ=>?_;obtain⟨_,D,xs,e1,_⟩:=(hb z).2 ws e;refine gQ ?_;rw[e1];exact⟨fun _=>⟨ws,rfl⟩,fun _=>rfl⟩
theorem z7k {W D T:Int}:Asc (tx (wtx W D T)):=by
 have a:∀n:Int,∀x∈dg n,x<128:=fun n=>z2r.mp (by rw[←yP];exact z7l n);refine z2r.mpr fun x hx=>?_;unfold wtx at hx;simp only [List.mem_append,List.mem_cons,List.not_mem_nil,or_false] at hx;rcases hx with (((h|h)|h)|h)|h
 ·exact a _ x h
 ·omega
 ·exact a _ x h
 ·omega
 ·exact a _ x h
noncomputable def z1t (C:Addr):Sp:=fun vs H Q _=>∃(d pd p:Addr) (n1 n2:List Nat) (n:Nat) (L:jX),vs=[.ref d,.ref p,.str (tx n1),.str (tx n2)]/\Dsk C H d pd n L/\Lb H p n L/\(∀z ws,L z=some ws->KQ ws)/\n<=1000/\nmB n1=true/\nmB n2=true/\∀H',Same H H'->Q (.bl true) H'
theorem z3X {C c_NoPlan c_NoPrimes c_TooMany c_NoName:Addr} (T:TF K mg "_law_worst" je) (m_list:mg "list" = none) (m_str:mg "str" = none) (G_least_round:Has P w K mg base 2 "least_round" ["numbers"] (xN K)) (G_plan_round:Has P w K mg base 3 "plan_round" ["plan"] (y6 K)) (G_shifts:Has P w K mg base 3 "shifts" ["one", "other"] (xy K)) (G_worst:Has P w K mg base 6 "worst" ["one", "other"] (kf K)) (G_law_told:Has P w K mg base 9 "_law_told" ["desk", "row"] (jM C c_NoName c_NoPlan c_NoPrimes c_TooMany)):Has P w K mg base 10 "_law_worst" ["desk", "plans", "one", "other"] (z1t C):=by
 refine T.has yH (fun _ _ _ _ _ _=>L2.bnd4 fun _ _ _ _=>rfl) (fun vs H Q E h=>?_) (fun f cdv A outer s H vs Q E hr h=>?_)
 ·refine pA fun Gq gR=>?_;obtain⟨d,pd,p,n1,n2,n,L,rfl,_⟩:=h;refine gR ?_;rfl
 refine pA fun Gu gU=>?_;obtain⟨d,pd,p,n1,n2,n,L,rfl,hk,hL,hQ,hn,hn1,hn2,q⟩:=h;refine gU ?_;refine⟨_,(zC (zP (i:=4) yH.nd rfl (Or.inl rfl) (zq (zB zQ (zB zF zE)))) (zC (x4 (zl (PW.pt (z4L (z4M (z6a (xX hr) (pv 2) (pv 1))) (z0u (z4M (z6a (xX hr) (pv 3) (pv 1)))))) (zC (zP (i:=5) yH.nd rfl (Or.inl rfl) (zV (G_least_round.mono (by first|decide|omega)) hr (zB (zq (zB (zV (G_plan_round.mono (by first|decide|omega)) hr (zB (yr (xX hr) (pv 1) (pv 2) (fun _ _=>rfl)) zE)) (zB (zV (G_plan_round.mono (by first|decide|omega)) hr (zB (yr (xX hr) (pv 1) (pv 3) (fun _ _=>rfl)) zE)) zE))) zE))) (zC (zP (i:=6) yH.nd rfl (Or.inl rfl) (zM jH (zV (G_plan_round.mono (by first|decide|omega)) hr (zB (zV (G_shifts.mono (by first|decide|omega)) hr (zB (yr (xX hr) (pv 1) (pv 2) (fun _ _=>rfl)) (zB (yr (xX hr) (pv 1) (pv 3) (fun _ _=>rfl)) zE))) zE)) (pv 5))) (zC (x4 (zl (PW.pt (z4L (zN z2I zF (pv 6) (zW _)) (z0u (zN z2J (pv 6) zF (zW _))))) (zJ (zR jx)) zL)) (zC (zP (i:=4) yH.nd rfl (Or.inl rfl) (zq (zB zQ (zB zF zE)))) (zJ (zl (zN z2J (pv 6) zF (zW _)) (zC (zP (i:=7) yH.nd rfl (Or.inl rfl) (zV (G_worst.mono (by first|decide|omega)) hr (zB (zb yX rfl m_list (by decide +kernel) (zB (yr (xX hr) (pv 1) (pv 2) (fun _ _=>rfl)) zE)) (zB (zb yX rfl m_list (by decide +kernel) (zB (yr (xX hr) (pv 1) (pv 3) (fun _ _=>rfl)) zE)) zE)))) (zC (zP (i:=4) yH.nd rfl (Or.inl rfl) (zq (zB zQ (zB zQ zE)))) (zJ (zl (zN wg (pv 7) ye (zW _)) (zJ (zP (i:=4) yH.nd rfl (Or.inl rfl) (zq (zB zQ (zB (zM zU (zM zU (zM zU (zM zU (zb zi rfl m_str (by decide +kernel) (zB (zn yW (pv 7) zF (fun _ _=>rfl)) zE)) zQ) (zb zi rfl m_str (by decide +kernel) (zB (zn yW (pv 7) zF (fun _ _=>rfl)) zE))) zQ) (zb zi rfl m_str (by decide +kernel) (zB (zn yW (pv 7) zF (fun _ _=>rfl)) zE))) zE))))) zL)))) zL)))))) zL)) (zJ (zR (xW (z2L hr.units) (zV (G_law_told.mono (by first|decide|omega)) hr (zB (pv 0) (zB (zM zU (zM zU (zM zU zQ (pv 2)) zQ) (pv 3)) zE))) (pv 4) (zW _)))))),?_⟩;walk_at "wpd";intro p1 np1;have g1:=zH np1 (vT 3);have h1:=zG (H:=H) (a:=p1) (o:=vT 3);obtain⟨M,hM⟩:∃M:St->Hp->Prop,M=fun σ H'=>∃(b:Addr) (o1 o2 o3:Option V) (o:HO),σ=[some (.ref d),some (.ref p),some (.str (tx n1)),some (.str (tx n2)),some (.ref b),o1,o2,o3]/\Same H H'/\H' b=some o/\y3u L (tx n1) (tx n2) o:=⟨_,rfl⟩
 refine⟨M,?_,fun σ H2 h=>?_⟩
 ·change y1D _ _ _ _ _ (upd H p1 (vT 3));generalize upd H p1 (vT 3)=H1 at g1 h1 ⊢;have hL1:=hL.same g1;refine pA fun Gv gW=>?_;obtain⟨oA,dA,iA⟩:=hL1.has (tx n1);refine gW ?_;refine pA fun Gw fA=>?_;obtain⟨oB,dB,iB⟩:=hL1.has (tx n2);refine fA ?_;walk_at "wpd";refine⟨p,_,rfl,dA,fun cA=>⟨p,_,rfl,dB,fun cB=>?_,fun cB=>?_⟩,fun cA=>?_⟩
  ·obtain⟨ws,e1⟩:=iA.mp cA;obtain⟨us,e2⟩:=iB.mp cB;have k1:=hQ _ _ e1;have k2:=hQ _ _ e2;refine pA fun Gx fB=>?_;obtain⟨D1,xs,dg1,hD1,hP1⟩:=hL1.get e1;refine fB ?_;refine pA fun Gy fE=>?_;obtain⟨D2,ys,dg2,hD2,hP2⟩:=hL1.get e2;refine fE ?_;have l1:=k1.2.1;have l2:=k2.2.1;have bw:∀u∈ws,1<=u.1/\u.1<=2^1000:=fun u hu=>⟨(k1.1.1 u hu).1,Int.le_trans (k1.le u hu) e98⟩
   have bu:∀u∈us,1<=u.1/\u.1<=2^1000:=fun u hu=>⟨(k2.1.1 u hu).1,Int.le_trans (k2.le u hu) e98⟩
   have get1:∀H',Same H1 H'->∃D xs,DGet H' p (.str (tx n1)) (some (.ref D))/\H' D=some (.lst xs)/\Pl H' xs ws:=fun H' g=>(hL1.same g).get e1;have get2:∀H',Same H1 H'->∃D xs,DGet H' p (.str (tx n2)) (some (.ref D))/\H' D=some (.lst xs)/\Pl H' xs us:=fun H' g=>(hL1.same g).get e2;refine pA fun Gz fF=>?_;obtain⟨D1,xs,dg1,hD1,hP1⟩:=get1 H1 (Same.refl _);refine fF ?_;refine⟨p,.ref D1,rfl,dg1,D1,xs,ws,rfl,SqL.of hD1,hP1,bw,by omega,fun H2 g2=>?_⟩;refine pA fun G0 fG=>?_;obtain⟨D2,ys,dg2,hD2,hP2⟩:=get2 H2 g2;refine fG ?_;refine⟨p,.ref D2,rfl,dg2,D2,ys,us,rfl,SqL.of hD2,hP2,bu,by omega,fun H3 g3 E1 nE1=>?_⟩;have g4:=zH nE1 (.lst [.int (yV (ws.map (·.1))),.int (yV (us.map (·.1)))]);have hE1:=zG (H:=H3) (a:=E1) (o:=.lst [.int (yV (ws.map (·.1))),.int (yV (us.map (·.1)))]);have p1':=yL k1.pos;have p2':=yL k2.pos;have tw:=k1.two k2;obtain⟨zs0,hz0⟩:∃zs:List Int,zs=[yV (ws.map (·.1)),yV (us.map (·.1))]:=⟨_,rfl⟩
   refine⟨E1,zs0,rfl,by rw[hz0];exact SqL.of hE1,by rw[hz0];exact (by decide:2<=200),fun z hz=>?_,?_⟩
   ·rw[hz0] at hz;simp only [List.mem_cons,List.not_mem_nil,or_false] at hz;rcases hz with rfl|rfl
    ·exact⟨p1',Int.le_trans k1.2.2 e98⟩
    ·exact⟨p2',Int.le_trans k2.2.2 e98⟩
   rw[hz0,tw.1];have G4:=g2.trans (g3.trans g4);clear hE1;generalize upd H3 E1 (.lst [.int (yV (ws.map (·.1))),.int (yV (us.map (·.1)))])=H4 at g4 G4 ⊢;refine pA fun Fa fH=>?_;obtain⟨F1,xs3,f1,f2,f3⟩:=get1 H4 G4;refine fH ?_;refine pA fun Fb fI=>?_;obtain⟨F2,ys3,f4,f5,f6⟩:=get2 H4 G4;refine fI ?_;have lm:=Nat.mul_le_mul l1 l2;refine⟨p,.ref F1,rfl,f1,p,.ref F2,rfl,f4,F1,F2,xs3,ys3,ws,us,rfl,SqL.of f2,f3,SqL.of f5,f6,fun u hu=>(bw u hu).1,fun u hu=>(bu u hu).1,by omega,by omega,fun S zs H5 g5 nS hS hZ=>⟨S,zs,_,rfl,SqL.of hS,hZ,z0i k1.1.1 fun u hu=>(bw u hu).2,by rw[qV];omega,fun H6 g6=>?_⟩⟩;rw[show yV ((shs ws us).map (·.1))=Gr ws us from rfl];refine pA fun Ga hU=>?_;obtain⟨G1,Gd,Gl,_⟩:=xL k1.1.1 k2.1.1;refine hU ?_;have G6:=G4.trans (g5.trans g6);have tw2:=tw.2;obtain⟨mm,hmm⟩:∃mm,mm=Gr ws us*Nr ws us:=⟨_,rfl⟩
   walk_at "wpd";refine⟨mok 1000 1000 (by omega) (by omega) (by decide),?_⟩;rw[←hmm];refine⟨fun σ H'=>σ=[some (.ref d),some (.ref p),some (.str (tx n1)),some (.str (tx n2)),some (.ref p1),some (.int (Nr ws us)),some (.int mm),none]/\H'=H6/\(mm<=600∨20000<mm),?_,?_⟩
   ·walk_at "wpd";exact⟨fun c1=>⟨fun c2=>q _ (g1.trans G6),fun c2=>.inr (by omega)⟩,fun c1=>.inl (by omega)⟩
   rintro σ H7 ⟨rfl,rfl,cm⟩;walk_at "wpd";intro E2 nE2;have g7:=zH nE2 (.lst [V.str (Str.ofString "refused"),V.int 4]);have h7:upd H7 E2 (.lst [V.str (Str.ofString "refused"),V.int 4]) E2=some (vT 4):=zG;refine⟨fun c=>?_,fun c=>?_⟩
   ·have G7:=G6.trans g7;generalize upd H7 E2 (.lst [V.str (Str.ofString "refused"),V.int 4])=H8 at g7 h7 G7 ⊢;refine pA fun Gb hV=>?_;obtain⟨F1,xs3,f1,f2,f3⟩:=get1 H8 G7;refine hV ?_;refine⟨p,.ref F1,rfl,f1,F1,xs3,rfl,.inl (SqL.of f2),fun m1 nm1=>?_⟩;have g8:=zH nm1 (.lst xs3);have hm1:=zG (H:=H8) (a:=m1) (o:=.lst xs3);have G8:=G7.trans g8;have f3':=f3.same g8;generalize upd H8 m1 (.lst xs3)=H9 at g8 hm1 G8 f3' ⊢;refine pA fun Gc gB=>?_;obtain⟨F2,ys3,f4,f5,f6⟩:=get2 H9 G8;refine gB ?_;refine⟨p,.ref F2,rfl,f4,F2,ys3,rfl,.inl (SqL.of f5),fun m2 nm2=>?_⟩;have g9:=zH nm2 (.lst ys3);have hm2:=zG (H:=H9) (a:=m2) (o:=.lst ys3);have G9:=G8.trans g9;have f3'':=f3'.same g9;have f6':=f6.same g9;have hm1':=g9 _ _ hm1;generalize upd H9 m2 (.lst ys3)=H10 at g9 hm2 G9 f3'' f6' hm1' ⊢;have nb:¬v5 ws us:=by
     unfold v5;omega
    refine⟨m1,m2,xs3,ys3,ws,us,rfl,SqL.of hm1',f3'',SqL.of hm2,f6',k1.1.1,k2.1.1,fun u hu=>(bw u hu).2,fun u hu=>(bu u hu).2,by omega,by omega,by unfold v5 at nb;omega,fun e H11 g11 E3 nE3=>⟨fun z=>absurd rfl z,fun _=>?_⟩,fun e t W D T H11 g11 ht hW E3 nE3=>⟨fun _=>?_,fun z=>absurd (fun y=>nomatch y) z⟩⟩
    ·rw[hM];exact⟨E3,_,_,_,yb (tx vA),rfl,g1.trans (G9.trans (g11.trans (zH nE3 _))),by rw[zG];rw[show Str.ofString "lonely" = tx vA by decide +kernel];rfl,.inr ⟨ws,us,e1,e2,.inr (.inl ⟨nb,e,rfl⟩)⟩⟩
    ·have gE:=zH nE3 (.lst [V.str (Str.ofString "told"),V.str (Str.ofString "lonely")]);have ht':=gE _ _ ht;have GE:=G9.trans (g11.trans gE);generalize upd H11 E3 (.lst [V.str (Str.ofString "told"),V.str (Str.ofString "lonely")])=H12 at gE ht' GE ⊢;have sm:=hW.small k1.1.1 k2.1.1;have cN:Nr ws us<=20000:=by
      unfold v5 at nb;have:1*Nr ws us<=Gr ws us*Nr ws us:=Int.mul_le_mul_of_nonneg_right G1 (by omega);omega
     have e100:(20000:Int)<10^100:=by decide +kernel
     have d1:=z1Z (n:=W) (by omega) (by omega);have d2:=z1Z (n:=D) (by omega) (by omega);have d3:=z1Z (n:=T) (by omega) (by omega);have j1:=d1.len;have j2:=d2.len;have j3:=d3.len;have y1:atL.length=4:=rfl;have y2:z5e.length=6:=rfl;rw[show Str.ofString " at " = tx atL by decide +kernel,show Str.ofString " from " = tx z5e by decide +kernel];refine⟨_,_,_,.int W,rfl,rfl,SqT.of ht',rfl,W,rfl,d1.sz,?_⟩;rw[yP];refine⟨_,_,rfl,rfl,by simp only [zS];omega,_,_,_,.int D,rfl,rfl,SqT.of ht',rfl,D,rfl,d2.sz,?_⟩;rw[yP,zg];refine⟨_,_,rfl,rfl,by simp only [zS,List.length_append];omega,?_⟩;rw[zg];refine⟨_,_,rfl,rfl,by simp only [zS,List.length_append];omega,_,_,_,.int T,rfl,rfl,SqT.of ht',rfl,T,rfl,d3.sz,?_⟩;rw[yP,zg];refine⟨_,_,rfl,rfl,by simp only [zS,List.length_append];omega,fun E4 nE4=>?_⟩;rw[zg,hM];exact⟨E4,_,_,_,yb (tx (wtx W D T)),rfl,g1.trans (GE.trans (zH nE4 _)),zG,.inr ⟨ws,us,e1,e2,.inr (.inr ⟨nb,e,W,D,T,hW,rfl⟩)⟩⟩
   ·rw[hM];exact⟨E2,_,_,_,vT 4,rfl,g1.trans (G6.trans g7),h7,.inr ⟨ws,us,e1,e2,.inl ⟨by unfold v5;omega,rfl⟩⟩⟩
  ·rw[hM];refine⟨p1,_,_,_,_,rfl,g1,h1,.inl ⟨.inr ?_,rfl⟩⟩;cases e:L (tx n2) with
   | none=>rfl
   | some ws=>exact absurd (iB.mpr ⟨ws,e⟩) cB
  ·rw[hM];refine⟨p1,_,_,_,_,rfl,g1,h1,.inl ⟨.inl ?_,rfl⟩⟩;cases e:L (tx n1) with
   | none=>rfl
   | some ws=>exact absurd (iA.mpr ⟨ws,e⟩) cA
 rw[hM] at h;refine pA fun Ge gC=>?_;obtain⟨b,o1,o2,o3,o,rfl,g2,hb,hv⟩:=h;refine gC ?_;walk_at "wpd";have ln1:=xJ hn1;have ln2:=xJ hn2;have la:xp.length=5:=rfl;have eT:Str.ofString "worst " ++ tx n1++Str.ofString " " ++ tx n2=tx (glu 32 [xp,n1,n2]):=by
  rw[xq,yi,zg,zg,zg];congr 1;simp [glu]
 have tok:TxOk (glu 32 [xp,n1,n2]):=by
  refine⟨Nat.le_trans (ql (M:=101) fun x hx=>?_) (by show 3*102<=100000;decide),qm (Pz:=fun x=>x<128) (by decide) fun x hx=>?_⟩
  ·simp only [List.mem_cons,List.not_mem_nil,or_false] at hx;rcases hx with rfl|rfl|rfl <;> omega
  ·simp only [List.mem_cons,List.not_mem_nil,or_false] at hx;rcases hx with rfl|rfl|rfl
   ·decide
   ·exact ln1.2
   ·exact ln2.2
 refine⟨_,_,rfl,rfl,by rw[xq,zS,zS,List.length_append];simp;omega,_,_,rfl,rfl,by rw[xq,yi,zg,zS,zS,List.length_append,List.length_append];simp;omega,_,_,rfl,rfl,by rw[xq,yi,zg,zg,zS,zS,List.length_append,List.length_append,List.length_append];simp;omega,?_⟩;rw[eT];refine⟨d,pd,_,n,L,_,rfl,hk.same g2,hn,tok,z2B hn1 hn2,.worst (fun e x H3 g3 hx=>⟨x,3,rfl,hx,.inr (.inr (.inl ⟨rfl,rfl⟩)),fun t2 H4 g4 ht2=>?_⟩) fun ws us e1 e2=>?_⟩
 ·rcases hv with⟨_,rfl⟩|⟨ws,us,e1,e2,_⟩
  ·exact z1X (by decide) ht2 (g4 _ _ (g3 _ _ hb)) (q _ (g2.trans (g3.trans g4)))
  ·rcases e with e|e
   ·rw[e] at e1;cases e1
   ·rw[e] at e2;cases e2
 ·have k1:=hQ _ _ e1;have k2:=hQ _ _ e2;rcases hv with⟨z|z,_⟩|⟨ws',us',z1,z2,hv⟩
  ·rw[e1] at z;cases z
  ·rw[e2] at z;cases z
  rw[e1] at z1;rw[e2] at z2;cases z1;cases z2;refine⟨k1.1.1,k2.1.1,fun u hu=>Int.le_trans (k1.le u hu) e98,fun u hu=>Int.le_trans (k2.le u hu) e98,by have:=k1.2.1;omega,by have:=k2.2.1;omega,(k1.two k2).2,fun c x H3 g3 hx=>⟨x,4,rfl,hx,.inr (.inr (.inr ⟨rfl,rfl⟩)),fun t2 H4 g4 ht2=>?_⟩,fun c e H3 g3=>⟨_,rfl,fun t2 H4 g4 ht2=>?_⟩,fun c e W D T H3 g3 hw=>⟨_,rfl,fun t2 H4 g4 ht2=>?_⟩⟩
  ·rcases hv with⟨_,rfl⟩|⟨nc,_⟩|⟨nc,_⟩
   ·exact z1X (by decide) ht2 (g4 _ _ (g3 _ _ hb)) (q _ (g2.trans (g3.trans g4)))
   ·exact absurd c nc
   ·exact absurd c nc
  ·rcases hv with⟨nc,_⟩|⟨_,_,rfl⟩|⟨_,ne,_⟩
   ·exact absurd nc c
   ·exact jW (z2r.mpr (by decide)) ht2 (g4 _ _ (g3 _ _ hb)) (q _ (g2.trans (g3.trans g4)))
   ·exact absurd ne e
  ·rcases hv with⟨nc,_⟩|⟨_,ne,_⟩|⟨_,_,W2,D2,T2,hw2,rfl⟩
   ·exact absurd nc c
   ·exact absurd e ne
   ·refine pA fun Gf gG=>?_;obtain⟨rfl,rfl,rfl⟩:=hw.uniq hw2;refine gG ?_;exact jW z7k ht2 (g4 _ _ (g3 _ _ hb)) (q _ (g2.trans (g3.trans g4)))
theorem z4W (z y:Str) (hi lim i f:Nat):∀(n k:Nat),(∀j,k<=j->j+y.length<=hi->Builtin.Str.subAt z y j=false)->(forIn (List.range' k n) (#[i],f) (StrLaws.occBody z y hi lim)).run=(#[i],f)
 | 0,k,_=>rfl
 | n+1,k,h=>by
  show (forIn (k::List.range' (k+1) n) (#[i],f) (StrLaws.occBody z y hi lim)).run=_;rw[List.forIn_cons];have hb:StrLaws.occBody z y hi lim k (#[i],f)=pure (ForInStep.yield (#[i],f)):=by
   unfold StrLaws.occBody;exact if_neg fun c=>by
    have:=h k (Nat.le_refl _) c.1.2;rw[c.2] at this;cases this
  rw[hb];exact z4W z y hi lim i f n (k+1) fun j h1 h2=>h j (by omega) h2
theorem z4V (z y:Str) (hi lim i m:Nat) (l1:1<=lim) (h1:i+y.length<=hi) (h2:Builtin.Str.subAt z y i=true) (h3:∀j,i<j->j+y.length<=hi->Builtin.Str.subAt z y j=false):∀(n k:Nat),k+n=i->(∀j,k<=j->j<i->Builtin.Str.subAt z y j=false)->(forIn (List.range' k (n+(m+1))) (#[],0) (StrLaws.occBody z y hi lim)).run=(#[i],i+y.length)
 | 0,k,e,_=>by
  have e:k=i:=by omega
  subst e;rw[Nat.zero_add];show (forIn (k::List.range' (k+1) m) (#[],0) (StrLaws.occBody z y hi lim)).run=_;rw[List.forIn_cons];have hb:StrLaws.occBody z y hi lim k (#[],0)=pure (ForInStep.yield (#[k],k+y.length)):=by
   unfold StrLaws.occBody;exact if_pos ⟨⟨⟨by simp;omega,Nat.zero_le _⟩,h1⟩,h2⟩
  rw[hb];exact z4W z y hi lim k _ m (k+1) fun j a b=>h3 j (by omega) b
 | n+1,k,e,hn=>by
  rw[show n+1+(m+1)=(n+(m+1))+1 by omega];show (forIn (k::List.range' (k+1) (n+(m+1))) (#[],0) (StrLaws.occBody z y hi lim)).run=_;rw[List.forIn_cons];have hb:StrLaws.occBody z y hi lim k (#[],0)=pure (ForInStep.yield (#[],0)):=by
   unfold StrLaws.occBody;exact if_neg fun h=>by rw[hn k (Nat.le_refl _) (by omega)] at h;exact nomatch h.2
  rw[hb];exact z4V z y hi lim i m l1 h1 h2 h3 n (k+1) (by omega) fun j h3 h4=>hn j (by omega) h4
noncomputable def zf:List Nat:=[78,65,77,69]
theorem z1E:Str.ofString "NAME" = tx zf:=by decide +kernel
theorem z4X {l r:List Nat} (hl:78∉l) (hr:78∉r):Builtin.Str.occurrences (tx (l++zf++r)) (tx zf) 0 (tx (l++zf++r)).length ((tx (l++zf++r)).length+1)=[l.length]:=by
 have nn:zf.length=4:=rfl;have len:(l++zf++r).length=l.length+4+r.length:=by simp only [List.length_append];omega
 have sb:∀j,j+(tx zf).length<=(tx (l++zf++r)).length->Builtin.Str.subAt (tx (l++zf++r)) (tx zf) j=true->j=l.length:=fun j h2 h=>by
  have:=z6A (l++zf++r) zf j (by decide);rw[h,decide_eq_true h2] at this;have e:=of_decide_eq_true this.symm;have e0:(l++zf++r)[j]?=some 78:=by
   have:(((l++zf++r).drop j).take zf.length)[0]?=some 78:=by rw[e];rfl
   rw[List.getElem?_take,List.getElem?_drop] at this;simpa [nn] using this
  rw[zS,zS,nn,len] at h2;rw[List.append_assoc] at e0;rcases Nat.lt_or_ge j l.length with c|c
  ·rw[List.getElem?_append_left c] at e0;exact absurd (List.mem_of_getElem? e0) hl
  ·rw[List.getElem?_append_right c] at e0;rcases Nat.lt_or_ge (j-l.length) zf.length with c2|c2
   ·rw[List.getElem?_append_left c2] at e0;rw[nn] at c2;have:j-l.length=0∨j-l.length=1∨j-l.length=2∨j-l.length=3:=by omega
    rcases this with z|z|z|z
    ·omega
    ·rw[z] at e0;cases e0
    ·rw[z] at e0;cases e0
    ·rw[z] at e0;cases e0
   ·rw[List.getElem?_append_right c2] at e0;exact absurd (List.mem_of_getElem? e0) hr
 rw[StrLaws.occ_eq];have e:(tx (l++zf++r)).length+1-0=l.length+((4+r.length)+1):=by rw[zS,len];omega
 have h1:l.length+(tx zf).length<=(tx (l++zf++r)).length:=by rw[zS,zS,nn,len];omega
 have no:∀j,j≠l.length->j+(tx zf).length<=(tx (l++zf++r)).length->Builtin.Str.subAt (tx (l++zf++r)) (tx zf) j=false:=fun j hj h2=>by
  cases c:Builtin.Str.subAt (tx (l++zf++r)) (tx zf) j with
  | false=>rfl
  | true=>exact absurd (sb j h2 c) hj
 have at0:Builtin.Str.subAt (tx (l++zf++r)) (tx zf) l.length=true:=by
  have:=z6A (l++zf++r) zf l.length (by decide);have e:((l++zf++r).drop l.length).take zf.length=zf:=by rw[List.append_assoc,List.drop_left,List.take_left]
  rw[decide_eq_true e,Bool.and_eq_true] at this;exact this.2
 rw[e,z4V _ _ _ _ l.length (4+r.length) (by omega) h1 at0 (fun j a b=>no j (by omega) b) l.length 0 (by omega) fun j _ hj=>no j (by omega) (by omega)]
theorem z8G {l r nm:List Nat} (hl:78∉l) (hr:78∉r):Builtin.Str.glued (tx nm) (Builtin.Str.partsBetween (tx (l++zf++r)) (Builtin.Str.occurrences (tx (l++zf++r)) (tx zf) 0 (tx (l++zf++r)).length ((tx (l++zf++r)).length+1)) (tx zf).length)=tx (l++nm++r):=by
 rw[z4X hl hr];show Str.mk _=Str.mk _;congr 1;apply Array.toList_inj.mp;show (((tx (l++zf++r)).cps.extract 0 l.length++(tx nm).cps)++(tx (l++zf++r)).cps.extract (l.length+(tx zf).length) (tx (l++zf++r)).length).toList=_;rw[zS,zS];have e4:zf.length=4:=rfl;rw[Array.toList_append,Array.toList_append,Array.toList_extract,Array.toList_extract];simp only [tx,List.extract_eq_drop_take,List.drop_zero,Nat.sub_zero];rw[show (l++zf++r).drop (l.length+zf.length)=r by rw[←List.length_append,List.drop_left],List.append_assoc l zf r,List.take_left];have:r.take ((l++(zf++r)).length-(l.length+zf.length))=r:=List.take_of_length_le (by simp only [List.length_append];omega);rw[this]
theorem dvA (x y:Int) (h1:2<=y) (h2:y<=1000):y0q x y:=y3M 10 (by omega) (by omega) (by decide)
noncomputable def z4C:Sp:=fun vs H Q _=>∃c:Int,vs=[.int c]/\0<=c/\∀(D:Addr) (xs:List V) (ws:List T3) (H':Hp),Same H H'->H D=none->H' D=some (.lst xs)->Pl H' xs ws->ws.length<=3->(∀u∈ws,Wk u/\u.1<=4)->Q (.ref D) H'
theorem z5W (T:TF K mg "_law_plan" qY) (m_range:mg "range" = none):Has P w K mg base 1 "_law_plan" ["number"] z4C:=by
 refine T.has xB (fun _ _ _ _ _ _=>L2.bnd1 fun _=>rfl) (fun vs H Q E h=>?_) (fun f cdv A outer s H vs Q E hr h=>?_)
 ·refine pA fun Gg gH=>?_;obtain⟨c,rfl,_⟩:=h;refine gH ?_;rfl
 refine pA fun Gh gI=>?_;obtain⟨c,rfl,c0,q⟩:=h;refine gI ?_;refine⟨_,(zC (zP (i:=1) xB.nd rfl (Or.inl rfl) (zq zE)) (zC (xZ PassesOwn.never rfl (x5 rfl m_range (zB (zM zr (pv 0) zF) zE)) (zY (i:=2) xB.nd rfl (Or.inl rfl)) (zC (zP (i:=0) xB.nd rfl (Or.inl rfl) (zM zm (pv 0) zF)) (zC (zP (i:=3) xB.nd rfl (Or.inl rfl) (zM j8 zF (zM zr (pv 0) zF))) (zJ (z0w (qh PySem.F.plainAttrs_list PySem.F.slot_list_append PySem.F.type_list_append qC (pv 1) (zB (yl (zB (pv 3) (zB (zM zr (zM zm (pv 0) zF) (pv 3)) (zB (zM j8 zF (zM zr (zM zm (pv 0) zF) (pv 3))) zE)))) zE))))))) (zJ (zR (pv 1))))),?_⟩;walk_at "wpd";intro D nD;have gD:=zH nD (.lst []);have hD:=zG (H:=H) (a:=D) (o:=.lst []);generalize upd H D (.lst [])=H1 at gD hD ⊢;obtain⟨J,hJ⟩:∃J:Nat->St->Hp->Prop,J=fun m σ H'=>∃(num:Int) (o3 o4:Option V) (xs:List V) (ws:List T3),σ=[some (.int num),some (.ref D),o3,o4]/\0<=num/\Same H H'/\H' D=some (.lst xs)/\Pl H' xs ws/\ws.length<=m/\∀u∈ws,Wk u/\u.1<=4:=⟨_,rfl⟩
 have b4:=z1h c (show (0:Int)<4 by decide);refine⟨by decide,_,rfl,by omega,by omega,?_⟩;refine qo J (by rw[hJ];exact⟨c,none,none,[],[],rfl,c0,gD,hD,.nil,Nat.le_refl _,fun u h=>nomatch h⟩) (fun i σ H' hi z=>?_) (fun σ H' z=>?_)
 ·rw[hJ] at z;refine pA fun Gi gJ=>?_;obtain⟨m,o3,o4,xs,ws,rfl,m0,g,hd,hP,hl,hw⟩:=z;refine gJ ?_;walk_at "wpd";have b6:=z1h (m/50) (show (0:Int)<4 by decide);generalize hper:1+m/50%4=per;have c1:=z1h (m/50/4) (show (0:Int)<per by omega);have c2:=z1h (m/50/16) (show (0:Int)<per by omega);have lx:=hP.1;refine⟨dvA _ _ (by decide) (by decide),by decide,.inl ⟨rfl,_,SqL.of hd⟩,dvA _ _ (by decide) (by decide),by omega,dvA _ _ (by decide) (by decide),by omega,fun p np=>⟨D,xs,_,rfl,rfl,zH np _ _ _ hd,by rw[sizeLine_eq];omega,?_⟩⟩;have gp:=zH np (z2t (per,m/50/4%per,1+m/50/16%per));rw[hJ];refine⟨_,_,_,_,ws++[(per,m/50/4%per,1+m/50/16%per)],rfl,by omega,(g.trans gp).write nD _,zG,((hP.same gp).snoc zG).upd (gp _ _ hd),by simp;omega,fun v hv=>?_⟩;rcases List.mem_append.mp hv with hv|hv
  ·exact hw v hv
  ·rw[List.mem_singleton.mp hv];exact⟨⟨by show 1<=per;omega,c1.1,c1.2,by show 1<=1+m/50/16%per;omega,by show 1+m/50/16%per<=per;omega⟩,by show per<=4;omega⟩
 ·rw[hJ] at z;refine pA fun Gj gK=>?_;obtain⟨m,o3,o4,xs,ws,rfl,m0,g,hd,hP,hl,hw⟩:=z;refine gK ?_;walk_at "wpd";exact q D xs ws _ g nD hd hP (by omega) hw
noncomputable def z7o:List Int:=[2,3,5,7,11,13,29,31,89,97]
noncomputable def z4D:Sp:=fun vs H Q _=>∃c:Int,vs=[.int c]/\0<=c/\∀(D:Addr) (a b:Int) (H':Hp),Same H H'->H' D=some (.lst [.int a,.int b])->0<=a->a<=97->0<=b->b<=97->Q (.ref D) H'
theorem z4P {i:Int} (h0:0<=i) (h1:i<10):∃a,atI (z7o.map V.int) i=some (.int a)/\0<=a/\a<=97:=by
 have:i=0∨i=1∨i=2∨i=3∨i=4∨i=5∨i=6∨i=7∨i=8∨i=9:=by omega
 rcases this with rfl|rfl|rfl|rfl|rfl|rfl|rfl|rfl|rfl|rfl <;> exact⟨_,rfl,by decide,by decide⟩
theorem z5X (T:TF K mg "_law_pair" qZ):Has P w K mg base 1 "_law_pair" ["number"] z4D:=by
 refine T.has wX (fun _ _ _ _ _ _=>L2.bnd1 fun _=>rfl) (fun vs H Q E h=>?_) (fun f cdv A outer s H vs Q E hr h=>?_)
 ·refine pA fun Gk gL=>?_;obtain⟨c,rfl,_⟩:=h;refine gL ?_;rfl
 refine pA fun Gm gM=>?_;obtain⟨c,rfl,c0,q⟩:=h;refine gM ?_;refine⟨_,(zC (zP (i:=1) wX.nd rfl (Or.inl rfl) (zq (zB zF (zB zF (zB zF (zB zF (zB zF (zB zF (zB zF (zB zF (zB zF (zB zF zE)))))))))))) (zC (zl (zN yt (zM zr (pv 0) zF) zF (zW _)) (zJ (zR (zq (zB (zM zr (zM zm (pv 0) zF) zF) (zB (zM zr (zM zm (pv 0) zF) zF) zE))))) zL) (zJ (zR (zq (zB (zn zk (pv 1) (zM zr (zM zm (pv 0) zF) zF) (fun _ _=>rfl)) (zB (zn zk (pv 1) (zM zr (zM zm (pv 0) zF) zF) (fun _ _=>rfl)) zE))))))),?_⟩;walk_at "wpd";intro D nD;have gD:=zH nD (.lst (z7o.map V.int));have hD:=zG (H:=H) (a:=D) (o:=.lst (z7o.map V.int));have b1:=z1h (c/3) (show (0:Int)<31 by decide);have b2:=z1h (c/93) (show (0:Int)<31 by decide);have b3:=z1h (c/3) (show (0:Int)<10 by decide);have b4:=z1h (c/30) (show (0:Int)<10 by decide);refine⟨by decide,fun _=>⟨dvA _ _ (by decide) (by decide),by decide,dvA _ _ (by decide) (by decide),by decide,fun E nE=>q E _ _ _ (gD.trans (zH nE _)) zG b1.1 (by omega) b2.1 (by omega)⟩,fun _=>⟨dvA _ _ (by decide) (by decide),by decide,?_⟩⟩;refine pA fun Gn gO=>?_;obtain⟨x,ex,x0,x1⟩:=z4P b3.1 b3.2;refine gO ?_;refine pA fun Go gP=>?_;obtain⟨y,ey,y0,y1⟩:=z4P b4.1 b4.2;refine gP ?_;refine zX (SqL.of hD) ex ⟨dvA _ _ (by decide) (by decide),by decide,zX (SqL.of hD) ey fun E nE=>q E x y _ (gD.trans (zH nE _)) zG x0 x1 y0 y1⟩
theorem z7M {l:List Nat}:z5m "prime" l=z4m 12 l:=rfl
theorem z5f {l:List Nat}:z5m "number" l=z4m 50 l:=rfl
theorem z7N {k:Int} {m:Nat} (h0:0<=k) (h1:k<10^(m+1)) (hm:(10:Int)^(m+1)<10^100):z4m (m+1) (dg k)=true:=by
 have d:=z1Z h0 (Int.lt_trans h1 hm);refine pA fun Gp gQ=>?_;obtain⟨l,e,a,b,c,dd,f⟩:=z1C h0;refine gQ ?_;have el:dg k=l:=by
  unfold dg;rw[e,zh]
 have l50:(dg k).length<=m+1:=by rw[el];exact f m h1
 have lp:=List.length_pos_iff.mpr d.ne;unfold z4m;have n3:(decide ((dg k)[0]?=some 48) && decide (1<(dg k).length))=false:=by
  rw[Bool.and_eq_false_iff];by_cases c:(dg k)[0]?=some 48
  ·have:=d.zero c;exact .inr (decide_eq_false (by omega))
  ·exact .inl (decide_eq_false c)
 rw[decide_eq_true (show 1<=(dg k).length by omega),decide_eq_true l50,n3];show (dg k).all z9A=true;rw[List.all_eq_true];intro x hx;have:=d.all x hx;unfold z9A;simp;omega
structure RowN (h:List Nat) (rs:List (List Nat)):Prop where
 row:∀nm,nmB nm=true->kE (glu 32 (h::nm::rs))=some (h::nm::rs)
 ne:rs≠[]
 h78:78∉h
 r78:78∉glu 32 rs
 hs:h.length<=10/\∀x∈h,x<128
 rl:(glu 32 rs).length<=5000/\∀x∈glu 32 rs,x<128
theorem dgx {k:Int} (h0:0<=k) (h1:k<10^100):(dg k).length<=100/\∀x∈dg k,48<=x/\x<=57:=by
 have d:=z1Z h0 h1;exact⟨d.len,fun x hx=>d.all x hx⟩
theorem z2D {a b:Int} (a0:0<=a) (a1:a<=97) (b0:0<=b) (b1:b<=97):RowN kG [dg a,dg b]:=by
 have e12:(10:Int)^(11+1)<10^100:=by decide +kernel
 have e98:(97:Int)<10^(11+1):=by decide +kernel
 have fa:=z7N (m:=11) a0 (by omega) e12;have fb:=z7N (m:=11) b0 (by omega) e12;have da:=dgx (k:=a) a0 (by omega);have db:=dgx (k:=b) b0 (by omega);have eg:glu 32 [dg a,dg b]=dg a++32::dg b:=by simp [glu]
 have mem:∀x∈glu 32 [dg a,dg b],x=32∨48<=x/\x<=57:=fun x hx=>by
  rw[eg] at hx;simp only [List.mem_append,List.mem_cons] at hx;rcases hx with h|rfl|h
  ·exact .inr (da.2 x h)
  ·exact .inl rfl
  ·exact .inr (db.2 x h)
 refine⟨fun nm hn=>?_,by simp,by decide,fun z=>by have:=mem _ z;omega,by decide,by rw[eg,List.length_append,List.length_cons];omega,fun x hx=>by have:=mem x hx;omega⟩;refine z2C (f:=["name", "prime", "prime"]) (by rfl) rfl (by decide) (fun p hp=>?_) (by simp only [qK,jV,z7M,hn,fa,fb];rfl);have:p=nm∨p=dg a:=by simpa [List.dropLast] using hp
 rcases this with rfl|rfl
 ·exact wt hn
 ·intro z;have:=da.2 _ z;omega
theorem z2E {a:Int} (a0:0<=a) (a1:a<10^50):RowN z1T [dg a]:=by
 have e50:(10:Int)^(49+1)<10^100:=by decide +kernel
 have fa:=z7N (m:=49) a0 a1 e50;have da:=dgx (k:=a) a0 (Int.lt_trans a1 e50);have eg:glu 32 [dg a]=dg a:=rfl;refine⟨fun nm hn=>?_,by simp,by decide,fun z=>by rw[eg] at z;have:=da.2 _ z;omega,by decide,by rw[eg];omega,fun x hx=>by rw[eg] at hx;have:=da.2 x hx;omega⟩;refine z2C (f:=["name", "number"]) (by rfl) rfl (by decide) (fun p hp=>?_) (by simp only [qK,jV,z5f,hn,fa];rfl);have:p=nm:=by simpa [List.dropLast] using hp
 rw[this];exact wt hn
theorem y0R {a b:Int} (ha:1<=a) (hb:1<=b):yV [a,b]<=a*b:=by
 have pp:∀x∈[a,b],1<=x:=fun x hx=>by
  simp only [List.mem_cons,List.not_mem_nil,or_false] at hx;rcases hx with rfl|rfl
  ·exact ha
  ·exact hb
 exact Int.le_of_dvd (Int.mul_pos (by omega) (by omega)) ((zy pp).mpr fun x hx=>by
  simp only [List.mem_cons,List.not_mem_nil,or_false] at hx;rcases hx with rfl|rfl
  ·exact Int.dvd_mul_right _ _
  ·exact Int.dvd_mul_left _ _)
theorem y0S {a b:Int} (a0:1<=a) (a1:a<=97) (b0:1<=b) (b1:b<=97):KQ [(a,0,1),(b,0,1)]:=by
 have e9:(97:Int)<2^900:=by decide +kernel
 have e98:(97:Int)*97<=10^98:=by decide +kernel
 have m:=Int.mul_le_mul a1 b1 (by omega) (by omega);refine⟨⟨fun u hu=>?_,fun u hu=>?_,(by decide:2<=12)⟩,(by decide:2<=3),Int.le_trans (y0R a0 b0) (show a*b<=_ by omega)⟩ <;> simp only [List.mem_cons,List.not_mem_nil,or_false] at hu
 ·rcases hu with rfl|rfl
  ·exact⟨a0,Int.le_refl _,show (0:Int)<a by omega,Int.le_refl _,a0⟩
  ·exact⟨b0,Int.le_refl _,show (0:Int)<b by omega,Int.le_refl _,b0⟩
 ·rcases hu with rfl|rfl
  ·show a<_;omega
  ·show b<_;omega
theorem y0T {n:Int} (h0:1<=n) (h1:n<10^49):KQ [(n,0,1),(n*n,0,n)]:=by
 have e9:(10:Int)^49*10^49<2^900:=by decide +kernel
 have e98:(10:Int)^49*10^49=10^98:=by decide +kernel
 have m:=Int.mul_le_mul (show n<=10^49 by omega) (show n<=10^49 by omega) (by omega) (by decide);have le:n<=n*n:=by have:=Int.mul_le_mul h0 (Int.le_refl n) (by omega) (by omega);omega
 have pp:∀x∈[n,n*n],1<=x:=fun x hx=>by
  simp only [List.mem_cons,List.not_mem_nil,or_false] at hx;rcases hx with rfl|rfl <;> omega
 refine⟨⟨fun u hu=>?_,fun u hu=>?_,(by decide:2<=12)⟩,(by decide:2<=3),?_⟩
 ·simp only [List.mem_cons,List.not_mem_nil,or_false] at hu;rcases hu with rfl|rfl
  ·exact⟨h0,Int.le_refl _,show (0:Int)<n by omega,Int.le_refl _,h0⟩
  ·exact⟨by show 1<=n*n;omega,Int.le_refl _,by show (0:Int)<n*n;omega,h0,le⟩
 ·simp only [List.mem_cons,List.not_mem_nil,or_false] at hu;rcases hu with rfl|rfl
  ·show n<_;omega
  ·show n*n<_;omega
 ·refine Int.le_trans (Int.le_of_dvd (b:=n*n) (by omega) ((zy pp).mpr fun x hx=>?_)) (by omega);simp only [List.mem_cons,List.not_mem_nil,or_false] at hx;rcases hx with rfl|rfl
  ·exact Int.dvd_mul_right _ _
  ·exact Int.dvd_refl _
noncomputable def y2r (N NP NR NT:Addr) (H':Hp) (o:Option Addr) (ws:List T3) (v:V) (k:Int):Prop:=(o=none/\k=0/\KQ ws/\∃D xs,v=.ref D/\H' D=some (.lst xs)/\Pl H' xs ws)∨∃c,o=some c/\v=.non/\y3R N NP NR NT (.ref c) k
noncomputable def z4E (N NP NR NT:Addr):Sp:=fun vs H Q _=>∃c:Int,vs=[.int c]/\0<=c/\∀(D:Addr) (H':Hp) (h:List Nat) (rs:List (List Nat)) (o:Option Addr) (ws:List T3) (v:V) (k:Int),Same H H'->H' D=some (.lst [.str (tx (glu 32 (h::zf::rs))),v,.int k])->PRow NP NR h rs o ws->RowN h rs->y2r N NP NR NT H' o ws v k->Q (.ref D) H'
theorem z5Y {c_MeetError c_NoPlan c_NoPrimes c_TooMany c_NoName:Addr} (O_NoPlan:OX K mg "NoPlan" c_NoPlan (.ref c_MeetError::VE)) (O_NoPrimes:OX K mg "NoPrimes" c_NoPrimes (.ref c_MeetError::VE)) (T:TF K mg "_law_made" qc) (m_str:mg "str" = none) (G_law_pair:Has P w K mg base 1 "_law_pair" ["number"] z4D) (G_pair_plan:HasX P w K mg base 3 "pair_plan" ["one", "other"] (wP c_NoPrimes)) (G_grid_plan:HasX P w K mg base 1 "grid_plan" ["number"] (wS c_NoPlan)) (G_law_kind:Has P w K mg base 1 "_law_kind" ["e"] (wQ c_NoName c_NoPlan c_NoPrimes c_TooMany)):Has P w K mg base 4 "_law_made" ["number"] (z4E c_NoName c_NoPlan c_NoPrimes c_TooMany):=by
 refine T.has zc (fun _ _ _ _ _ _=>L2.bnd1 fun _=>rfl) (fun vs H Q E h=>?_) (fun f cdv A outer s H vs Q E hr h=>?_)
 ·refine pA fun Gq gR=>?_;obtain⟨c,rfl,_⟩:=h;refine gR ?_;rfl
 refine pA fun Gu gU=>?_;obtain⟨c,rfl,c0,q⟩:=h;refine gU ?_;refine⟨_,(zC (zP (i:=1) zc.nd rfl (Or.inl rfl) ye) (zC (zP (i:=2) zc.nd rfl (Or.inl rfl) ye) (zC (x4 (zl (zN yt (zM zr (pv 0) zF) zF (zW _)) (zC (z4O (zV (G_law_pair.mono (by first|decide|omega)) hr (zB (zM zm (pv 0) zF) zE)) (z9V rfl (zj (zY (i:=3) zc.nd rfl (Or.inl rfl)) (zj (zY (i:=4) zc.nd rfl (Or.inl rfl)) xg)))) (zC (zP (i:=5) zc.nd rfl (Or.inl rfl) (zM zU (zM zU (zM zU zQ (zb zi rfl m_str (by decide +kernel) (zB (pv 3) zE))) zQ) (zb zi rfl m_str (by decide +kernel) (zB (pv 4) zE)))) (zJ (z6T rfl rfl rfl (z3G (i:=2) zc.nd rfl (Or.inl rfl) (z4J rfl (G_pair_plan.mono (by first|decide|omega)) hr (zB (pv 3) (zB (pv 4) zE)))) (z6V (yU (i:=6) rfl zc.nd (fun _=>qy O_NoPrimes O_NoPrimes) (fun _=>(zJ (zP (i:=1) zc.nd rfl (Or.inl rfl) (pv 6)))) qz) (yU (i:=6) rfl zc.nd (fun _=>qy O_NoPlan O_NoPrimes) (fun _=>(zJ (zP (i:=1) zc.nd rfl (Or.inl rfl) (pv 6)))) qz)))))) (zC (zP (i:=7) zc.nd rfl (Or.inl rfl) (zn zk (zq (zB (zM zr (zM zm (pv 0) zF) zF) (zB (zM zr (zM zm (pv 0) zF) zF) (zB (zM zr (zM zm (pv 0) zF) (zM z4T zF zF)) zE)))) (zM zr (zM zm (pv 0) zF) zF) (fun _ _=>rfl))) (zC (zP (i:=5) zc.nd rfl (Or.inl rfl) (zM zU zQ (zb zi rfl m_str (by decide +kernel) (zB (pv 7) zE)))) (zJ (z6T rfl rfl rfl (z3G (i:=2) zc.nd rfl (Or.inl rfl) (z4J rfl (G_grid_plan.mono (by first|decide|omega)) hr (zB (pv 7) zE))) (z6V (yU (i:=6) rfl zc.nd (fun _=>qy O_NoPrimes O_NoPlan) (fun _=>(zJ (zP (i:=1) zc.nd rfl (Or.inl rfl) (pv 6)))) qz) (yU (i:=6) rfl zc.nd (fun _=>qy O_NoPlan O_NoPlan) (fun _=>(zJ (zP (i:=1) zc.nd rfl (Or.inl rfl) (pv 6)))) qz)))))))) (zC (zl (zN z4U (pv 1) ye (zW _)) (zJ (zR (zq (zB (pv 5) (zB (pv 2) (zB zF zE)))))) zL) (zJ (zR (zq (zB (pv 5) (zB ye (zB (zV (G_law_kind.mono (by first|decide|omega)) hr (zB (pv 1) zE)) zE)))))))))),?_⟩;walk_at "wpd";obtain⟨M,hM⟩:∃M:St->Hp->Prop,M=fun σ H'=>∃(cv pv:V) (o3 o4 o6 o7:Option V) (h:List Nat) (rs:List (List Nat)) (o:Option Addr) (ws:List T3),σ=[some (.int c),some cv,some pv,o3,o4,some (.str (tx (glu 32 (h::zf::rs)))),o6,o7]/\Same H H'/\PRow c_NoPlan c_NoPrimes h rs o ws/\RowN h rs/\((o=none/\cv=.non/\KQ ws/\∃D xs,pv=.ref D/\H' D=some (.lst xs)/\Pl H' xs ws)∨∃x cl,cv=.ref x/\o=some cl/\(cl=c_NoPlan∨cl=c_NoPrimes)/\H' x=some (wF x (.ref cl))):=⟨_,rfl⟩
 refine⟨M,?_,fun σ H2 h=>?_⟩
 ·walk_at "wpd";have hc:∀c:Addr,(Value.ref c::Value.ref c_MeetError::VE).contains (Value.ref c)=true:=fun c=>by simp
  have e100:(10:Int)^50<10^100:=by decide +kernel
  have e50:(97:Int)<10^50:=by decide +kernel
  have e60:(97:Int)<2^60:=by decide
  have cp:y2t 10 49:=⟨by decide,by decide,by decide⟩
  refine⟨by decide,fun ce=>⟨dvA _ _ (by decide) (by decide),c/2,rfl,by omega,fun D a b H1 g1 hD a0 a1 b0 b1=>⟨D,[.int a,.int b],rfl,SqL.of hD,rfl,?_⟩⟩,fun ce=>?_⟩
  ·walk_at "wpd";have d1:=z1Z (n:=a) a0 (by omega);have d2:=z1Z (n:=b) b0 (by omega);have s1:=y1P (n:=a) (by omega) (by omega);have s2:=y1P (n:=b) (by omega) (by omega);have l1:=d1.len;have l2:=d2.len;rw[show Str.ofString "pair NAME " = tx (kG++[32]++zf++[32]) by decide +kernel,yi];refine⟨a,rfl,d1.sz,?_⟩;rw[yP];refine⟨_,_,rfl,rfl,by simp only [zS,List.length_append];simp [kG,zf];omega,?_⟩;rw[zg];refine⟨_,_,rfl,rfl,by simp only [zS,List.length_append];simp [kG,zf];omega,?_⟩;rw[zg];refine⟨b,rfl,d2.sz,?_⟩;rw[yP];refine⟨_,_,rfl,rfl,by simp only [zS,List.length_append];simp [kG,zf];omega,?_⟩;rw[zg,show kG++[32]++zf++[32]++dg a++[32]++dg b=glu 32 (kG::zf :: [dg a,dg b]) by simp [glu]];unfold y2K;walk_at "wpd";refine⟨a,b,rfl,by omega,by omega,fun z x H2 g2 hx=>⟨x,rfl,.inl ⟨rfl,?_⟩⟩,fun z D2 xs H2 g2 nD2 hD2 hP=>?_⟩
   ·unfold z3A;rw[hc];unfold x6;walk_at "wpd";rw[hM];exact⟨.ref x,.non,_,_,_,_,kG,[dg a,dg b],_,[],rfl,(g1.trans g2).trans (zH hx _),.pairX z s1 s2 (by omega) (by omega),z2D a0 a1 b0 b1,.inr ⟨x,_,rfl,rfl,.inr rfl,zG⟩⟩
   ·rw[hM];exact⟨.non,.ref D2,_,_,_,_,kG,[dg a,dg b],none,_,rfl,g1.trans g2,.pair z.1 z.2.1 z.2.2 s1 s2 (by omega) (by omega),z2D a0 a1 b0 b1,.inl ⟨rfl,rfl,y0S (by have:=z.1.two;omega) a1 (by have:=z.2.1.two;omega) b1,D2,xs,rfl,hD2,hP⟩⟩
  ·refine⟨dvA _ _ (by decide) (by decide),by decide,dvA _ _ (by decide) (by decide),by decide,dvA _ _ (by decide) (by decide),cp,by decide,fun p np=>⟨dvA _ _ (by decide) (by decide),by decide,?_⟩⟩;have gp:=zH np (.lst [V.int (c/6%7),V.int (c/6%7),V.int (c/6%10^Int.toNat 49)]);have hp:=zG (H:=H) (a:=p) (o:=.lst [V.int (c/6%7),V.int (c/6%7),V.int (c/6%10^Int.toNat 49)]);have e49:(10:Int)^Int.toNat 49=10^49:=rfl;have b7:=z1h (c/6) (show (0:Int)<7 by decide);have b49:=z1h (c/6) (show (0:Int)<10^Int.toNat 49 by decide);have b3:=z1h (c/2) (show (0:Int)<3 by decide);have e7:(7:Int)<10^49:=by decide
   have e5:(10:Int)^49<10^50:=by decide
   have e4:(10:Int)^49<2^400:=by decide +kernel
   obtain⟨n,en,n0,n1⟩:∃n,atI [V.int (c/6%7),V.int (c/6%7),V.int (c/6%10^Int.toNat 49)] (c/2%3)=some (.int n)/\0<=n/\n<10^49:=by
    rw[e49] at b49 ⊢;have:c/2%3=0∨c/2%3=1∨c/2%3=2:=by omega
    rcases this with z|z|z <;> rw[z]
    ·exact⟨_,rfl,b7.1,by omega⟩
    ·exact⟨_,rfl,b7.1,by omega⟩
    ·exact⟨_,rfl,b49.1,b49.2⟩
   refine zX (SqL.of hp) en ?_;generalize upd H p (.lst [V.int (c/6%7),V.int (c/6%7),V.int (c/6%10^Int.toNat 49)])=H1 at gp ⊢;have d1:=z1Z (n:=n) n0 (by omega);have s1:=y1P (n:=n) (by omega) (by omega);have l1:=d1.len;rw[show Str.ofString "grid NAME " = tx (z1T++[32]++zf++[32]) by decide +kernel];refine⟨n,rfl,d1.sz,?_⟩;rw[yP];refine⟨_,_,rfl,rfl,by simp only [zS,List.length_append];simp [z1T,zf];omega,?_⟩;rw[zg,show z1T++[32]++zf++[32]++dg n=glu 32 (z1T::zf :: [dg n]) by simp [glu]];unfold y2K;walk_at "wpd";refine⟨n,rfl,by omega,fun z x H2 g2 hx=>⟨x,rfl,.inr ⟨rfl,?_⟩⟩,fun z D2 xs H2 g2 nD2 hD2 hP=>?_⟩
   ·unfold z3A;rw[hc];unfold x6;walk_at "wpd";rw[hM];exact⟨.ref x,.non,_,_,_,_,z1T,[dg n],_,[],rfl,(gp.trans g2).trans (zH hx _),.gridX z (by omega) s1,z2E n0 (by omega),.inr ⟨x,_,rfl,rfl,.inl rfl,zG⟩⟩
   ·rw[hM];exact⟨.non,.ref D2,_,_,_,_,z1T,[dg n],none,_,rfl,gp.trans g2,.grid z (by omega) s1,z2E n0 (by omega),.inl ⟨rfl,rfl,y0T z n1,D2,xs,rfl,hD2,hP⟩⟩
 rw[hM] at h;refine pA fun Gv gW=>?_;obtain⟨cv,pv,o3,o4,o6,o7,h,rs,o,ws,rfl,g2,pr,rn,hc⟩:=h;refine gW ?_;rcases hc with⟨rfl,rfl,kq,D,xs,rfl,hD,hP⟩|⟨x,cl,rfl,rfl,hcl,hx⟩
 ·walk_at "wpd";intro E nE;have gE:=zH nE (.lst [.str (tx (glu 32 (h::zf::rs))),.ref D,.int 0]);exact q E _ h rs none ws (.ref D) 0 (g2.trans gE) zG pr rn (.inl ⟨rfl,rfl,kq,D,xs,rfl,gE _ _ hD,hP.same gE⟩)
 ·walk_at "wpd";rcases hcl with rfl|rfl
  ·refine .inl ⟨x,rfl,hx,fun H3 g3 E nE=>?_⟩;have gE:=zH nE (.lst [.str (tx (glu 32 (h::zf::rs))),.non,.int 1]);exact q E _ h rs _ ws .non 1 (g2.trans (g3.trans gE)) zG pr rn (.inr ⟨_,rfl,rfl,.inl ⟨rfl,rfl⟩⟩)
  ·refine .inr (.inl ⟨x,rfl,hx,fun H3 g3 E nE=>?_⟩);have gE:=zH nE (.lst [.str (tx (glu 32 (h::zf::rs))),.non,.int 2]);exact q E _ h rs _ ws .non 2 (g2.trans (g3.trans gE)) zG pr rn (.inr ⟨_,rfl,rfl,.inr (.inl ⟨rfl,rfl⟩)⟩)
noncomputable def Off2 (pd p:Addr) (H H':Hp):Prop:=∀b o,b≠pd->b≠p->H b=some o->H' b=some o
theorem Same.off2 {pd p:Addr} {H H':Hp} (g:Same H H'):Off2 pd p H H':=fun b o _ _ e=>g b o e
theorem OffD.off2 {pd p:Addr} {H H':Hp} (g:OffD pd H H'):Off2 pd p H H':=fun b o h _ e=>g b o h e
theorem Off2.trans {pd p:Addr} {H H1 H2:Hp} (g:Off2 pd p H H1) (h:Off2 pd p H1 H2):Off2 pd p H H2:=fun b o n m e=>h b o n m (g b o n m e)
theorem y0N {pd p:Addr} {H:Hp} {o:HO}:Off2 pd p H (upd H p o):=fun b _ _ m e=>by rw[za m];exact e
theorem Dsk.wr {C:Addr} {H:Hp} {d pd p:Addr} {n:Nat} {L:jX} {ks ks':List (Key×V)} (h:Dsk C H d pd n L) (hp:H p=some (.dK ks)) (ne:pd≠p):Dsk C (upd H p (.dK ks')) d pd n L:=by
 refine pA fun Gw fA=>?_;obtain⟨⟨dx,hd⟩,kvs,hpd,hl,hb⟩:=h;refine fA ?_;exact⟨⟨dx,by rw[za (yw hd hp (by intro z;cases z))];exact hd⟩,kvs,by rw[za ne];exact hpd,hl,hb.by (fun b xs e=>by rw[za (yw e hp (by intro z;cases z))];exact e) fun b xs e=>by rw[za (yw e hp (by intro z;cases z))];exact e⟩
theorem Lb.offD {H H':Hp} {pd p:Addr} {n:Nat} {L:jX} {ks:List (Key×V)} (h:Lb H p n L) (g:OffD pd H H') (hpd:H pd=some (.dK ks)) (ne:pd≠p):Lb H' p n L:=by
 refine pA fun Gx fB=>?_;obtain⟨kvs,hp,hl,hb⟩:=h;refine fB ?_;exact⟨kvs,g _ _ (Ne.symm ne) hp,hl,hb.by (fun b xs e=>g _ _ (yw e hpd (by intro z;cases z)) e) fun b xs e=>g _ _ (yw e hpd (by intro z;cases z)) e⟩
theorem Lb.mono {H:Hp} {p:Addr} {n m:Nat} {L:jX} (h:Lb H p n L) (k:n<=m):Lb H p m L:=let ⟨kvs,a,b,c⟩:=h;⟨kvs,a,by omega,c⟩
theorem Dsk.mono {C:Addr} {H:Hp} {d pd:Addr} {n m:Nat} {L:jX} (h:Dsk C H d pd n L) (k:n<=m):Dsk C H d pd m L:=let ⟨x,kvs,a,b,c⟩:=h;⟨x,kvs,a,by omega,c⟩
theorem Dsk.pd {C:Addr} {H:Hp} {d pd:Addr} {n:Nat} {L:jX} (h:Dsk C H d pd n L):∃ks,H pd=some (.dK ks):=let ⟨_,kvs,a,_⟩:=h;⟨kvs,a⟩
theorem Lb.put {C:Addr} {H:Hp} {d pd p D:Addr} {n m:Nat} {L L':jX} {xs:List V} {ws:List T3} {z:Str} {R:Hp->Prop} (h:Lb H p n L) (hk:Dsk C H d pd m L') (ne:pd≠p) (hn:n<=1000) (kp:KpP ws) (hD:H D=some (.lst xs)) (hP:Pl H xs ws)
  (q:∀H',Off2 pd p H H'->(∀b o,b≠p->H b=some o->H' b=some o)->Dsk C H' d pd m L'->Lb H' p (n+1) (kg L z ws)->R H'):∃a H',V.ref p=V.ref a/\DPut H a (.str z) (.ref D) H'/\R H':=by
 refine pA fun Gy fE=>?_;obtain⟨kvs,hp,hl,hb⟩:=h;refine fE ?_;refine⟨p,_,rfl,DPut.k (k:=.inr z) hp (by rw[sizeLine_eq];omega),q _ y0N (fun b o m e=>by rw[za m];exact e) (hk.wr hp ne) ⟨_,zG,?_,?_⟩⟩
 ·have:=xj kvs (Sum.inr z) (.ref D);omega
 ·exact (hb.put kp hD hP).by (fun b ys e=>by rw[za (yw e hp (by intro z;cases z))];exact e) fun b ys e=>by rw[za (yw e hp (by intro z;cases z))];exact e
theorem z3J {ws:List T3} (h:∀u∈ws,WOk u):∀x∈xT ws true,x<128:=by
 unfold xT;split
 ·decide
 ·refine qm (Pz:=fun x=>x<128) (by decide) fun p hp=>?_;refine pA fun Gz fF=>?_;obtain⟨u,hu,rfl⟩:=List.mem_map.mp hp;refine fF ?_;unfold xM;refine qm (Pz:=fun x=>x<128) (by decide) fun p hp x hx=>?_;have w:=h u hu;have k:DgOk u.1/\DgOk u.2.1/\DgOk u.2.2:=w;unfold xG at hp;split at hp <;> simp only [List.mem_cons,List.not_mem_nil,or_false] at hp
  ·rcases hp with rfl|rfl
   ·have:=k.1.all x hx;omega
   ·have:=k.2.1.all x hx;omega
  ·rcases hp with rfl|rfl|rfl
   ·have:=k.1.all x hx;omega
   ·have:=k.2.1.all x hx;omega
   ·have:=k.2.2.all x hx;omega
theorem z9J {u:T3} (h:Wk u) (h1:u.1<10^100):WOk u/\isW u=true:=by
 refine pA fun G0 fG=>?_;obtain⟨a,b,c,d,e⟩:=h;refine fG ?_;exact⟨⟨z1Z (by omega) h1,z1Z b (by omega),z1Z (by omega) (by omega)⟩,decide_eq_true ⟨a,⟨b,c⟩,d,e⟩⟩
noncomputable def vE:Str:= "kept"
theorem z1G:Asc vE:=by unfold Asc;decide +kernel
theorem z1n {C N NP NR NT:Addr} {H:Hp} {d pd:Addr} {n:Nat} {L:jX} {nm:List Nat} {ws:List T3} {Q:VK} {E:XK} (hk:Dsk C H d pd n L) (hn:n<=1000) (hnm:nmB nm=true) (kq:KpP ws) (hw:∀u∈ws,WOk u/\isW u=true)
  (q:∀D H',OffD pd H H'->Dsk C H' d pd (n+1) (kg L (tx nm) ws)->H' D=some (yb vE)->Q (.ref D) H'):jM C N NP NR NT [.ref d,.str (tx (glu 32 [xo,nm,xT ws true]))] H Q E:=by
 have ln:=xJ hnm;have l12:=kq.2.2;have pl:=ju (fun u hu=>(hw u hu).1) l12 true;have tok:TxOk (glu 32 [xo,nm,xT ws true]):=by
  have la:xo.length=4:=rfl;refine⟨Nat.le_trans (ql (M:=5000) fun x hx=>?_) (by show 3*5001<=100000;decide),qm (Pz:=fun x=>x<128) (by decide) fun x hx=>?_⟩
  ·simp only [List.mem_cons,List.not_mem_nil,or_false] at hx;rcases hx with rfl|rfl|rfl <;> omega
  ·simp only [List.mem_cons,List.not_mem_nil,or_false] at hx;rcases hx with rfl|rfl|rfl
   ·decide
   ·exact ln.2
   ·exact z3J fun u hu=>(hw u hu).1
 exact⟨d,pd,_,n,L,_,rfl,hk,hn,tok,z8F hnm,.keep (.plan l12 (fun u hu=>(hw u hu).1) fun u hu=>(hw u hu).2) (fun _=>kq) (fun c e=>nomatch e) fun _ H' o dk=>⟨_,rfl,fun D H2 g2 hD=>q D H2 (o.trans (Same.offD g2)) (dk.same g2) hD⟩⟩
theorem z8Y {z:Str} {a b:Addr} {H:Hp} {Q:VK} (hz:Asc z) (ha:H a=some (yb z)) (hb:H b=some (yb z)) (q:Q (.bl false) H):y3F K (.ref a) (.ref b) H Q:=by
 have sh:SeqAt.shaped (.list [.str (Str.ofString "told"),.str z])=true:=by
  have e1:=jO z4y;have e2:=jO hz;unfold SeqAt.shaped at e1 e2 ⊢;simp only [PyData.canLay0,PyData.depth,PyData.canLayAll0,PyData.depthAll,Bool.and_eq_true,decide_eq_true_eq,Bool.and_true] at e1 e2 ⊢;exact⟨⟨e1.1,e2.1⟩,rfl⟩
 refine⟨_,_,.lst (SqL.of ha) (qM [Str.ofString "told",z]),.lst (SqL.of hb) (qM [Str.ofString "told",z]),sh,sh,?_⟩;have:PyData.eqv (.list ([Str.ofString "told",z].map PyData.str)) (.list ([Str.ofString "told",z].map PyData.str))=true:=by simp [PyData.eqv,PyData.eqvAll]
 rw[this];exact q
theorem HasT.mono {j k:Nat} {x:Str} {ps:List Str} {sp:Nat->Sp} (h:HasT P w K mg base j x ps sp) (hk:j<=k):HasT P w K mg base k x ps sp:=
 let ⟨f,fd,F,b⟩:=h
 ⟨f,fd,⟨F.len,fun n A outer s H args us vs Q E hr=>F.run n A outer s H args us vs Q E (hr.mono hk)⟩,b⟩
noncomputable def BkQ (L:jX):Prop:=∀z ws,L z=some ws->KQ ws
theorem BkQ.set {L:jX} {z:Str} {ws:List T3} (h:BkQ L) (k:KQ ws):BkQ (kg L z ws):=fun y us e=>by
 unfold kg at e;split at e
 ·cases e;exact k
 ·exact h y us e
theorem z8f {ws:List T3} (l:ws.length<=3) (h:∀u∈ws,Wk u/\u.1<=4):KQ ws:=by
 have e9:(4:Int)<2^900:=by decide +kernel
 have e98:(12:Int)<=10^98:=by decide +kernel
 have pp:∀x∈ws.map (·.1),1<=x:=fun x hx=>by
  refine pA fun Fa fH=>?_;obtain⟨u,mu,rfl⟩:=List.mem_map.mp hx;refine fH ?_;exact (h u mu).1.1
 refine⟨⟨fun u hu=>(h u hu).1,fun u hu=>by have:=(h u hu).2;omega,by omega⟩,l,Int.le_trans (Int.le_of_dvd (b:=12) (by decide) ((zy pp).mpr fun x hx=>?_)) e98⟩;refine pA fun Fb fI=>?_;obtain⟨u,mu,rfl⟩:=List.mem_map.mp hx;refine fI ?_;have h1:=(h u mu).1.1;have h2:=(h u mu).2;have:u.1=1∨u.1=2∨u.1=3∨u.1=4:=by omega
 rcases this with e|e|e|e <;> rw[e] <;> decide
theorem y0P {nm:List Nat} (h:nmB nm=true):tx zf≠tx nm:=fun e=>by
 have:zf=nm:=by rw[←zh zf,e,zh]
 rw[←this] at h;exact absurd h (by decide)
theorem z9S {σ:St} {H:Hp} {Q:VK} {m t:Nat} {h nm:List Nat} {rs:List (List Nat)} (e4:σ[4]?=some (some (.str (tx (glu 32 (h::zf::rs)))))) (e2:σ[2]?=some (some (.stk (tx nm) t))) (t0:0<t) (tm:t<m) (hnm:nmB nm=true) (rn:RowN h rs) (q:Q (.str (tx (glu 32 (h::nm::rs)))) H):y2M (z3q 4) (Str.ofString "NAME") 2 m σ H Q:=by
 obtain⟨r0,rs',er⟩:∃a l,rs=a::l:=by
  cases e:rs with
  | nil=>exact absurd e rn.ne
  | cons a l=>exact⟨a,l,rfl⟩
 have eg:∀x:List Nat,glu 32 (h::x::rs)=(h++[32])++x++(32::glu 32 rs):=fun x=>by rw[er];simp [glu]
 have ln:=xJ hnm;have n1:78∉h++[32]:=fun z=>by
  rcases List.mem_append.mp z with z|z
  ·exact rn.h78 z
  ·exact absurd z (by decide)
 have n2:78∉32::glu 32 rs:=fun z=>by
  rcases List.mem_cons.mp z with z|z
  ·exact absurd z (by decide)
  ·exact rn.r78 z
 have rl:=rn.rl.1;have hs:=rn.hs.1;have ro:=z8G (nm:=nm) n1 n2;have oc:=z4X n1 n2;refine⟨_,e4,?_⟩;show ∃(z w:Str) (v:Nat),_;refine⟨tx (glu 32 (h::zf::rs)),tx nm,t,rfl,e2,t0,tm,by rw[z1E];exact y0P hnm,?_,?_,?_⟩
 ·rw[zS,zS,eg];have a1:(h++[32]++zf++32::glu 32 rs).length<=6000:=by
   simp only [List.length_append,List.length_cons,List.length_nil];have:zf.length=4:=rfl;omega
  have:=Nat.mul_le_mul (Nat.add_le_add_right a1 1) ln.1;omega
 ·rw[eg,z1E,ro,zS,sizeLine_eq];simp only [List.length_append,List.length_cons,List.length_nil];omega
 ·rw[eg,z1E,ro,oc];rw[eg] at q;exact q
theorem z4H {h nm:List Nat} {rs:List (List Nat)} (hnm:nmB nm=true) (rn:RowN h rs):TxOk (glu 32 (h::nm::rs)):=by
 obtain⟨r0,rs',er⟩:∃a l,rs=a::l:=by
  cases e:rs with
  | nil=>exact absurd e rn.ne
  | cons a l=>exact⟨a,l,rfl⟩
 have eg:glu 32 (h::nm::rs)=(h++[32])++nm++(32::glu 32 rs):=by rw[er];simp [glu]
 have ln:=xJ hnm;have rl:=rn.rl;have hs:=rn.hs;rw[eg];refine⟨by simp only [List.length_append,List.length_cons,List.length_nil];omega,fun x hx=>?_⟩;simp only [List.mem_append,List.mem_cons,List.not_mem_nil,or_false] at hx;rcases hx with ((z|z)|z)|z|z
 ·exact hs.2 x z
 ·omega
 ·exact ln.2 x z
 ·omega
 ·exact rl.2 x z
noncomputable def z4F (C:Addr):Nat->Sp:=fun m vs H Q _=>∃(d pd p:Addr) (nm:List Nat) (t:Nat) (c:Int) (n:Nat) (L:jX),vs=[.ref d,.ref p,.stk (tx nm) t,.int c]/\0<t/\t<m/\nmB nm=true/\0<=c/\Dsk C H d pd n L/\Lb H p n L/\pd≠p/\n<=900/\BkQ L/\
 ∀L' H',Off2 pd p H H'->Dsk C H' d pd (n+1) L'->Lb H' p (n+1) L'->BkQ L'->Q (.bl true) H'
theorem z5a {C c_NoPlan c_NoPrimes c_TooMany c_NoName:Addr} (T:TF K mg "_law_kept" qd) (G_law_plan:Has P w K mg base 1 "_law_plan" ["number"] z4C) (G_law_made:Has P w K mg base 4 "_law_made" ["number"] (z4E c_NoName c_NoPlan c_NoPrimes c_TooMany)) (G_shown_plan:Has P w K mg base 2 "shown_plan" ["plan"] (x9 K)) (G_law_told:Has P w K mg base 9 "_law_told" ["desk", "row"] (jM C c_NoName c_NoPlan c_NoPrimes c_TooMany)):HasT P w K mg base 10 "_law_kept" ["desk", "plans", "name", "number"] (z4F C):=by
 refine T.hasT yf (fun _ _ _ _ _ _=>L2.bnd4 fun _ _ _ _=>rfl) (fun m vs H Q E h=>?_) (fun m f cdv A outer s H vs Q E hr h=>?_)
 ·refine pA fun Ga hU=>?_;obtain⟨d,pd,p,nm,t,c,n,L,rfl,_⟩:=h;refine hU ?_;rfl
 refine pA fun Gb hV=>?_;obtain⟨d,pd,p,nm,t,c,n,L,rfl,t0,tm,hnm,c0,hk,hL,ne,hn,hQ,q⟩:=h;refine hV ?_;have m0:0<m:=Nat.lt_of_le_of_lt (Nat.zero_le _) tm;refine⟨_,(yG (PS.atN (zl (zN yt (zM zr (pv 3) zF) zF (zW _)) (zC (wb (xX hr) (pv 1) (pv 2) (zV (G_law_plan.mono (by first|decide|omega)) hr (zB (zM zm (pv 3) zF) zE)) rfl) (zJ (zR (xW (z2L hr.units) (zV (G_law_told.mono (by first|decide|omega)) hr (zB (pv 0) (zB (zM zU (zM zU (zM zU zQ (pv 2)) zQ) (zV (G_shown_plan.mono (by first|decide|omega)) hr (zB (yr (xX hr) (pv 1) (pv 2) (fun _ _=>rfl)) zE))) zE))) (zq (zB zQ (zB zQ zE))) (zW _))))) zL)) (yG (PS.atN (z4O (zV (G_law_made.mono (by first|decide|omega)) hr (zB (zM zm (pv 3) zF) zE)) (z9V rfl (zj (zY (i:=4) yf.nd rfl (Or.inl rfl)) (zj (zY (i:=5) yf.nd rfl (Or.inl rfl)) (zj (zY (i:=6) yf.nd rfl (Or.inl rfl)) xg)))))) (yG (PS.atN (zP (i:=7) yf.nd rfl (Or.inl rfl) (zq (zB zQ (zB (pv 6) zE))))) (yG (PS.atN (zl (zN wg (pv 5) ye (zW _)) (zC (wb (xX hr) (pv 1) (pv 2) (pv 5) rfl) (zJ (zP (i:=7) yf.nd rfl (Or.inl rfl) (zq (zB zQ (zB zQ zE)))))) zL)) (jv (z9y (z8R (z2L hr.units) (y0I (G_law_told.mono (by first|decide|omega)) hr (z4S (PE.atN (pv 0)) (z4S (z3M (i:=2) m0 (PE.atN (pv 4)) rfl (Or.inl rfl)) (PA.atN zE)))) (pv 7) rfl))))))),?_⟩;walk_at "wpd";refine⟨by decide,fun ce=>⟨dvA _ _ (by decide) (by decide),c/3,rfl,by omega,fun D xs ws H1 g1 nD hD hP l3 hw=>?_⟩,fun ce=>⟨dvA _ _ (by decide) (by decide),c/3,rfl,by omega,fun D H1 h rs o ws v k g1 hD pr rn mo=>⟨D,_,rfl,SqL.of hD,rfl,?_⟩⟩⟩
 ·have kq:=z8f l3 hw;have e4:(4:Int)<10^100:=by decide +kernel
  have wk:∀u∈ws,WOk u/\isW u=true:=fun u hu=>z9J (hw u hu).1 (by have:=(hw u hu).2;omega);have ln:=xJ hnm;have pl:=ju (fun u hu=>(wk u hu).1) kq.1.2.2 true;refine Lb.put (z:=tx nm) (hL.same g1) (hk.same g1) ne (by omega) kq.1 hD hP fun H2 o2 _ dk2 lb2=>?_;obtain⟨F,ys,dg,hF,hPF⟩:=lb2.get (z:=tx nm) (ws:=ws) (by unfold kg;rw[if_pos rfl]);rw[z4Q,yi];refine⟨_,_,rfl,rfl,by simp only [zS,List.length_append];simp [xo];omega,?_⟩;rw[zg];refine⟨_,_,rfl,rfl,by simp only [zS,List.length_append];simp [xo];omega,p,.ref F,rfl,dg,F,ys,ws,rfl,SqL.of hF,hPF,kq.1.2.2,fun u hu=>(wk u hu).1,fun H3 g3=>?_⟩;rw[zg];refine⟨_,_,rfl,rfl,by simp only [zS,List.length_append];simp [xo];omega,?_⟩;rw[zg,show xo++[32]++nm++[32]++xT ws true=glu 32 [xo,nm,xT ws true] by simp [glu]];refine z1n (dk2.same g3) (by omega) hnm kq.1 wk fun D4 H4 o4 dk4 hD4 p5 np5=>?_;have g5:=zH np5 (yb vE);obtain⟨ks,hks⟩:=(dk2.same g3).pd;exact jW z1G (g5 _ _ hD4) zG (q (kg L (tx nm) ws) _ ((Same.off2 g1).trans (o2.trans ((Same.off2 g3).trans ((OffD.off2 o4).trans (Same.off2 g5))))) (dk4.same g5) (((lb2.same g3).offD o4 hks ne).same g5) (hQ.set kq))
 ·rcases mo with⟨rfl,rfl,kq,F,xs,rfl,hF,hP⟩|⟨cl,rfl,rfl,kd⟩
  ·walk_at "wpd";intro p2 np2;have g2:=zH np2 (vT 0);refine Lb.put (z:=tx nm) ((hL.same g1).same g2) ((hk.same g1).same g2) ne (by omega) kq.1 (g2 _ _ hF) (hP.same g2) fun H3 o3 _ dk3 lb3 p4 np4=>?_;have g4:=zH np4 (yb vE);have h4:upd H3 p4 (yb vE) p4=some (yb vE):=zG;change y2M _ _ _ _ _ (upd H3 p4 (yb vE)) _;generalize upd H3 p4 (yb vE)=H5 at g4 h4 ⊢;refine z9S rfl rfl t0 tm hnm rn ⟨d,pd,_,n,L,_,rfl,dk3.same g4,by omega,z4H hnm rn,rn.row nm hnm,.keep pr (fun _=>kq.1) (fun c e=>nomatch e) fun _ H6 o6 dk6=>⟨_,rfl,fun D7 H7 g7 hD7=>?_⟩⟩;obtain⟨ks,hks⟩:=(dk3.same g4).pd;have h46:H6 p4=some (yb vE):=o6 _ _ (yw h4 hks (by intro z;cases z)) h4;exact jW z1G hD7 (g7 _ _ h46) (q (kg L (tx nm) ws) _ ((Same.off2 g1).trans ((Same.off2 g2).trans (o3.trans ((Same.off2 g4).trans ((OffD.off2 o6).trans (Same.off2 g7)))))) (dk6.same g7) (((lb3.same g4).offD o6 hks ne).same g7) (hQ.set kq))
  ·walk_at "wpd";intro p2 np2;have g2:=zH np2 (vT k);have h2:upd H1 p2 (vT k) p2=some (vT k):=zG;change y2M _ _ _ _ _ (upd H1 p2 (vT k)) _;generalize upd H1 p2 (vT k)=H3 at g2 h2 ⊢;have kr:0<=k/\k<=4:=by rcases kd with⟨_,e⟩|⟨_,e⟩|⟨_,e⟩|⟨_,e⟩ <;> omega
   refine z9S rfl rfl t0 tm hnm rn ⟨d,pd,_,n,L,_,rfl,(hk.same g1).same g2,by omega,z4H hnm rn,rn.row nm hnm,.keep pr (fun e=>nomatch e) (fun c e x H6 g6 hx=>?_) fun e=>nomatch e⟩;cases e;refine⟨x,k,rfl,hx,kd,fun D7 H7 g7 hD7=>?_⟩;have G:=g1.trans (g2.trans (g6.trans g7));exact z1X kr hD7 (g7 _ _ (g6 _ _ h2)) (q L _ (Same.off2 G) ((hk.same G).mono (by omega)) ((hL.same G).mono (by omega)) hQ)
noncomputable def NMS:List (List Nat):=[[120],[120,120],[120,120,121],[121,120,120,120,120,120,120,120]]
theorem y1i:∀x∈NMS,nmB x=true:=by decide
noncomputable def NmL (H:Hp) (NL:Addr) (t:Nat):Prop:=∃o,H NL=some (.frz o (.lst ((NMS.map tx).map V.str)))/\y0n o (NMS.map tx) t
theorem NmL.sq {H:Hp} {NL:Addr} {t:Nat} (h:NmL H NL t):SqL K H NL ((NMS.map tx).map V.str):=let ⟨o,e,_⟩:=h;.inl (.inr ⟨o,e⟩)
theorem NmL.by {H H':Hp} {NL:Addr} {t:Nat} (h:NmL H NL t) (g:∀o u,H NL=some (.frz o u)->H' NL=some (.frz o u)):NmL H' NL t:=let ⟨o,e,k⟩:=h;⟨o,g _ _ e,k⟩
theorem NmL.off {H H':Hp} {NL pd p:Addr} {t:Nat} {k1 k2:List (Key×V)} (h:NmL H NL t) (g:Off2 pd p H H') (h1:H pd=some (.dK k1)) (h2:H p=some (.dK k2)):NmL H' NL t:=h.by fun o u e=>g _ _ (yw e h1 (by intro z;cases z)) (yw e h2 (by intro z;cases z)) e
theorem Lb.pd {H:Hp} {p:Addr} {n:Nat} {L:jX} (h:Lb H p n L):∃ks,H p=some (.dK ks):=let ⟨kvs,a,_⟩:=h;⟨kvs,a⟩
noncomputable def GP (a b:Int):Prop:=(a=24/\b=30)∨(a=60/\b=24)∨(a=90/\b=60)
theorem GP.le {a b:Int} (h:GP a b):24<=a/\a<=90/\24<=b/\b<=60:=by
 rcases h with⟨rfl,rfl⟩|⟨rfl,rfl⟩|⟨rfl,rfl⟩ <;> decide
theorem z9Z {a f l:Int} (h1:Wk (a,f,l)) (h2:a<=90):KQ [(a,f,l)]/\∀u∈[(a,f,l)],WOk u/\isW u=true:=by
 have e9:(90:Int)<2^900:=by decide +kernel
 have e98:(90:Int)<=10^98:=by decide +kernel
 have e100:(90:Int)<10^100:=by decide +kernel
 have p1:1<=a:=h1.1;have pp:∀x∈[a],1<=x:=fun x hx=>by rw[List.mem_singleton.mp hx];exact p1
 refine⟨⟨⟨fun u hu=>?_,fun u hu=>?_,(by decide:1<=12)⟩,(by decide:1<=3),?_⟩,fun u hu=>?_⟩
 ·rw[List.mem_singleton.mp hu];exact h1
 ·rw[List.mem_singleton.mp hu];show a<_;omega
 ·refine Int.le_trans (Int.le_of_dvd (b:=a) (by omega) ((zy pp).mpr fun x hx=>?_)) (by omega);rw[List.mem_singleton.mp hx];exact Int.dvd_refl _
 ·rw[List.mem_singleton.mp hu];exact z9J h1 (by show a<_;omega)
theorem z8q {a b f g:Int} (h:GP a b) (hw:Wk (a,f,a/2)) (hu:Wk (b,g,b/2)):¬v5 [(a,f,a/2)] [(b,g,b/2)]/\xY (shs [(a,f,a/2)] [(b,g,b/2)]) (Gr [(a,f,a/2)] [(b,g,b/2)]).toNat=none:=by
 have e1:∀ {a b:Int},shs [(a,f,a/2)] [(b,g,b/2)]=[sh2 (a,f,a/2) (b,g,b/2)]:=fun {a b}=>by simp [shs]
 have ww:∀u∈[(a,f,a/2)],Wk u:=fun u m=>by rw[List.mem_singleton.mp m];exact hw
 have uu:∀u∈[(b,g,b/2)],Wk u:=fun u m=>by rw[List.mem_singleton.mp m];exact hu
 refine pA fun Gc gB=>?_;obtain⟨G1,G2,G3,G4,G5⟩:=xL ww uu;refine gB ?_;refine⟨?_,(z4i G1 G4).mpr fun d=>?_⟩
 ·unfold v5 Gr Nr;rw[e1];rcases h with⟨rfl,rfl⟩|⟨rfl,rfl⟩|⟨rfl,rfl⟩
  ·exact (by decide +kernel:¬(20000:Int)<yV [zx 24 30]*yV [24,30])
  ·exact (by decide +kernel:¬(20000:Int)<yV [zx 60 24]*yV [60,24])
  ·exact (by decide +kernel:¬(20000:Int)<yV [zx 90 60]*yV [90,60])
 ·rw[e1];unfold zu;rw[List.any_cons,List.any_nil,Bool.or_false];unfold awk sh2;refine decide_eq_true ?_;dsimp only;rcases h with⟨rfl,rfl⟩|⟨rfl,rfl⟩|⟨rfl,rfl⟩
  ·rw[if_neg (by decide +kernel)];exact Int.emod_lt_of_pos _ (by decide +kernel)
  ·rw[if_neg (by decide +kernel)];exact Int.emod_lt_of_pos _ (by decide +kernel)
  ·rw[if_neg (by decide +kernel)];exact Int.emod_lt_of_pos _ (by decide +kernel)
noncomputable def vf (C:Addr):Sp:=fun vs H Q _=>∃(d pd p NL:Addr) (t:Nat) (c:Int) (n:Nat) (L:jX),vs=[.ref d,.ref p,.ref NL,.int c]/\NmL H NL t/\0<=c/\Dsk C H d pd n L/\Lb H p n L/\pd≠p/\n<=900/\BkQ L/\
 ∀L' H',Off2 pd p H H'->Dsk C H' d pd (n+2) L'->Lb H' p (n+2) L'->BkQ L'->Q (.bl true) H'
theorem z2a {C c_NoPlan c_NoPrimes c_TooMany c_NoName:Addr} (T:TF K mg "_law_longer" jE) (m_list:mg "list" = none) (m_str:mg "str" = none) (G_shown_plan:Has P w K mg base 2 "shown_plan" ["plan"] (x9 K)) (G_worst:Has P w K mg base 6 "worst" ["one", "other"] (kf K)) (G_law_told:Has P w K mg base 9 "_law_told" ["desk", "row"] (jM C c_NoName c_NoPlan c_NoPrimes c_TooMany)):Has P w K mg base 10 "_law_longer" ["desk", "plans", "names", "number"] (vf C):=by
 refine T.has yC (fun _ _ _ _ _ _=>L2.bnd4 fun _ _ _ _=>rfl) (fun vs H Q E h=>?_) (fun f cdv A outer s H vs Q E hr h=>?_)
 ·refine pA fun Ge gC=>?_;obtain⟨d,pd,p,NL,t,c,n,L,rfl,_⟩:=h;refine gC ?_;rfl
 refine pA fun Gf gG=>?_;obtain⟨d,pd,p,NL,t,c,n,L,rfl,hNL,c0,hk,hL,ne,hn,hQ,q⟩:=h;refine gG ?_;refine⟨_,(zC (x4 (z4O (zn zk (zq (zB (yl (zB zF (zB zF zE))) (zB (yl (zB zF (zB zF zE))) (zB (yl (zB zF (zB zF zE))) zE)))) (zM zr (pv 3) zF) (fun _ _=>rfl)) (we rfl (zj (zY (i:=4) yC.nd rfl (Or.inl rfl)) (zj (zY (i:=5) yC.nd rfl (Or.inl rfl)) xg))))) (zC (wb (xX hr) (pv 1) (zn zk (pv 2) zF (fun _ _=>rfl)) (zq (zB (yl (zB (pv 4) (zB (zM zr (zM zm (pv 3) zF) (pv 4)) (zB (zM zm (pv 4) zF) zE)))) zE)) rfl) (zC (x4 (wb (xX hr) (pv 1) (zn zk (pv 2) zF (fun _ _=>rfl)) (zq (zB (yl (zB (pv 5) (zB (zM zr (zM zm (pv 3) zF) (pv 5)) (zB (zM zm (pv 5) zF) zE)))) zE)) rfl)) (zC (x4 (xZ PassesOwn.never rfl (y7 (xh wT (pv 2) qf (jG zF))) (zY (i:=6) yC.nd rfl (Or.inl rfl)) (zJ (zl (zN (y1e hr.units) (zV (G_law_told.mono (by first|decide|omega)) hr (zB (pv 0) (zB (zM zU (zM zU (zM zU zQ (pv 6)) zQ) (zV (G_shown_plan.mono (by first|decide|omega)) hr (zB (yr (xX hr) (pv 1) (pv 6) (fun _ _=>rfl)) zE))) zE))) (zq (zB zQ (zB zQ zE))) (zW _)) (zJ (zR jx)) zL)))) (zC (z4O (zV (G_worst.mono (by first|decide|omega)) hr (zB (zb yX rfl m_list (by decide +kernel) (zB (yr (xX hr) (pv 1) (zn zk (pv 2) zF (fun _ _=>rfl)) (fun _ _=>rfl)) zE)) (zB (zb yX rfl m_list (by decide +kernel) (zB (yr (xX hr) (pv 1) (zn zk (pv 2) zF (fun _ _=>rfl)) (fun _ _=>rfl)) zE)) zE))) (we rfl (zj (zY (i:=7) yC.nd rfl (Or.inl rfl)) (zj (zY (i:=8) yC.nd rfl (Or.inl rfl)) (zj (zY (i:=9) yC.nd rfl (Or.inl rfl)) xg))))) (zC (zP (i:=10) yC.nd rfl (Or.inl rfl) (zq (zB zQ (zB (zM zU (zM zU (zM zU (zM zU (zb zi rfl m_str (by decide +kernel) (zB (pv 7) zE)) zQ) (zb zi rfl m_str (by decide +kernel) (zB (pv 8) zE))) zQ) (zb zi rfl m_str (by decide +kernel) (zB (pv 9) zE))) zE)))) (zJ (zR (xW (z2L hr.units) (zV (G_law_told.mono (by first|decide|omega)) hr (zB (pv 0) (zB (zM zU (zM zU (zM zU zQ (zn zk (pv 2) zF (fun _ _=>rfl))) zQ) (zn zk (pv 2) zF (fun _ _=>rfl))) zE))) (pv 10) (zW _)))))))))),?_⟩;walk_at "wpd";refine⟨fun σ H'=>∃a b,σ=[some (.ref d),some (.ref p),some (.ref NL),some (.int c),some (.int a),some (.int b),none,none,none,none,none]/\Same H H'/\GP a b,?_,?_⟩
 ·walk_at "wpd";intro t1 m1 t2 m2 t3 m3 E1 mE;have g1:=zH m1 (.tup [.int 24,.int 30]);have g2:=zH m2 (.tup [.int 60,.int 24]);have g3:=zH m3 (.tup [.int 90,.int 60]);have gE:=zH mE (.lst [.ref t1,.ref t2,.ref t3]);have G:=g1.trans (g2.trans (g3.trans gE));have b3:=z1h c (show (0:Int)<3 by decide);refine⟨by decide,?_⟩;have:c%3=0∨c%3=1∨c%3=2:=by omega
  rcases this with z|z|z <;> rw[z]
  ·refine zX (SqL.of zG) (zZ (j:=0) rfl) ⟨t1,[.int 24,.int 30],rfl,SqT.of (gE _ _ (g3 _ _ (g2 _ _ zG))),rfl,?_⟩;walk_at "wpd";exact⟨24,30,rfl,G,.inl ⟨rfl,rfl⟩⟩
  ·refine zX (SqL.of zG) (zZ (j:=1) rfl) ⟨t2,[.int 60,.int 24],rfl,SqT.of (gE _ _ (g3 _ _ zG)),rfl,?_⟩;walk_at "wpd";exact⟨60,24,rfl,G,.inr (.inl ⟨rfl,rfl⟩)⟩
  ·refine zX (SqL.of zG) (zZ (j:=2) rfl) ⟨t3,[.int 90,.int 60],rfl,SqT.of (gE _ _ zG),rfl,?_⟩;walk_at "wpd";exact⟨90,60,rfl,G,.inr (.inr ⟨rfl,rfl⟩)⟩
 rintro σ H1 ⟨a,b,rfl,g1,gp⟩;have le:=gp.le;obtain⟨w1,hw1⟩:∃w1:T3,w1=(a,c/3%a,a/2):=⟨_,rfl⟩
 obtain⟨u1,hu1⟩:∃u1:T3,u1=(b,c/300%b,b/2):=⟨_,rfl⟩
 have mA:=z1h (c/3) (show (0:Int)<a by omega);have mB':=z1h (c/300) (show (0:Int)<b by omega);have W1:Wk w1:=by rw[hw1];exact⟨by show 1<=a;omega,mA.1,mA.2,by show 1<=a/2;omega,by show a/2<=a;omega⟩
 have U1:Wk u1:=by rw[hu1];exact⟨by show 1<=b;omega,mB'.1,mB'.2,by show 1<=b/2;omega,by show b/2<=b;omega⟩
 obtain⟨kw,okw⟩:KQ [w1]/\∀u∈[w1],WOk u/\isW u=true:=by rw[hw1] at W1 ⊢;exact z9Z W1 (by omega)
 obtain⟨ku,oku⟩:KQ [u1]/\∀u∈[u1],WOk u/\isW u=true:=by rw[hu1] at U1 ⊢;exact z9Z U1 (by omega)
 have gt:¬v5 [w1] [u1]/\xY (shs [w1] [u1]) (Gr [w1] [u1]).toNat=none:=by rw[hw1] at W1 ⊢;rw[hu1] at U1 ⊢;exact z8q gp W1 U1
 obtain⟨M,hM⟩:∃M:jX->Nat->St->Hp->Prop,M=fun L1 m σ H'=>∃o,σ=[some (.ref d),some (.ref p),some (.ref NL),some (.int c),some (.int a),some (.int b),o,none,none,none,none]/\Off2 pd p H H'/\NmL H' NL t/\Dsk C H' d pd m L1/\Lb H' p (n+2) (kg (kg L (tx [120]) [w1]) (tx [120,120]) [u1]):=⟨_,rfl⟩
 walk_at "wpd";refine⟨dvA _ _ (by decide) (by decide),by omega,dvA _ _ (by decide) (by decide),fun p1 np1 p2 np2=>?_⟩;have k1:=zH np1 (.tup [.int a,.int (c/3%a),.int (a/2)]);have k2:=zH np2 (.lst [.ref p1]);have hp2:=zG (H:=upd H1 p1 (.tup [.int a,.int (c/3%a),.int (a/2)])) (a:=p2) (o:=.lst [.ref p1]);have hp1:upd (upd H1 p1 (.tup [.int a,.int (c/3%a),.int (a/2)])) p2 (.lst [.ref p1]) p1=some (z2t w1):=by rw[hw1];exact k2 _ _ zG
 have G2:=g1.trans (k1.trans k2);generalize upd (upd H1 p1 (.tup [.int a,.int (c/3%a),.int (a/2)])) p2 (.lst [.ref p1])=H2 at k2 hp2 hp1 G2 ⊢;have nm2:=hNL.by (H':=H2) fun o u e=>G2 _ _ e;refine zX nm2.sq (zZ (j:=0) rfl) (Lb.put (z:=tx [120]) (hL.same G2) (hk.same G2) ne (by omega) kw.1 hp2 (Pl.one hp1) fun H3 o3 f3 dk3 lb3=>?_);obtain⟨ks,hks⟩:=(hk.same G2).pd;obtain⟨ps,hps⟩:=(hL.same G2).pd;have nm3:=nm2.off o3 hks hps;refine⟨M L n,?_,?_⟩
 ·walk_at "wpd";refine⟨dvA _ _ (by decide) (by decide),by omega,dvA _ _ (by decide) (by decide),fun p3 np3 p4 np4=>?_⟩;have k3:=zH np3 (.tup [.int b,.int (c/300%b),.int (b/2)]);have k4:=zH np4 (.lst [.ref p3]);have hp4:=zG (H:=upd H3 p3 (.tup [.int b,.int (c/300%b),.int (b/2)])) (a:=p4) (o:=.lst [.ref p3]);have hp3:upd (upd H3 p3 (.tup [.int b,.int (c/300%b),.int (b/2)])) p4 (.lst [.ref p3]) p3=some (z2t u1):=by rw[hu1];exact k4 _ _ zG
  have G4:=k3.trans k4;generalize upd (upd H3 p3 (.tup [.int b,.int (c/300%b),.int (b/2)])) p4 (.lst [.ref p3])=H4 at k4 hp4 hp3 G4 ⊢;have nm4:=nm3.by (H':=H4) fun o u e=>G4 _ _ e;refine zX nm4.sq (zZ (j:=1) rfl) (Lb.put (z:=tx [120,120]) (lb3.same G4) (dk3.same G4) ne (by omega) ku.1 hp4 (Pl.one hp3) fun H5 o5 f5 dk5 lb5=>?_);obtain⟨ks,hks⟩:=(dk3.same G4).pd;obtain⟨ps,hps⟩:=(lb3.same G4).pd;rw[hM];exact⟨none,rfl,(Same.off2 G2).trans (o3.trans ((Same.off2 G4).trans o5)),nm4.off o5 hks hps,dk5,lb5⟩
 intro σ H6 h6;walk_at "wpd";refine⟨M (kg (kg L (tx [120]) [w1]) (tx [120,120]) [u1]) (n+2),?_,?_⟩
 ·rw[hM] at h6 ⊢;refine pA fun Gg gH=>?_;obtain⟨o,rfl,o6,nm6,dk6,lb6⟩:=h6;refine gH ?_;walk_at "wpd";obtain⟨LL,hL2⟩:∃LL,LL=kg (kg L (tx [120]) [w1]) (tx [120,120]) [u1]:=⟨_,rfl⟩
  obtain⟨Lk,hLk⟩:∃Lk:Nat->jX,Lk=fun i=>if i=0 then L else if i=1 then kg L (tx [120]) [w1] else LL:=⟨_,rfl⟩
  rw[←hL2] at lb6 ⊢;refine⟨NL,_,rfl,nm6.sq,fun S nS=>?_⟩;have gS:=zH nS (.lst [V.str (tx [120]),V.str (tx [120,120])]);have hS:upd H6 S (.lst [V.str (tx [120]),V.str (tx [120,120])]) S=some (.lst [V.str (tx [120]),V.str (tx [120,120])]):=zG;change ∃a_1,V.ref S=V.ref a_1/\(∃xs,SqL K (upd H6 S (.lst [V.str (tx [120]),V.str (tx [120,120])])) a_1 xs)/\y0p _ _ _ _ _ (upd H6 S (.lst [V.str (tx [120]),V.str (tx [120,120])]));generalize upd H6 S (.lst [V.str (tx [120]),V.str (tx [120,120])])=H7 at gS hS ⊢;refine⟨S,rfl,⟨_,SqL.of hS⟩,?_⟩;obtain⟨W,hW⟩:∃W:Nat->St->Hp->Prop,W=fun i σ H'=>∃o,σ=[some (.ref d),some (.ref p),some (.ref NL),some (.int c),some (.int a),some (.int b),o,none,none,none,none]/\Off2 pd p H H'/\NmL H' NL t/\H' S=some (.lst [V.str (tx [120]),V.str (tx [120,120])])/\Dsk C H' d pd (n+i) (Lk i)/\Lb H' p (n+2) LL:=⟨_,rfl⟩
  refine ym (xs:=[V.str (tx [120]),V.str (tx [120,120])]) W ?_ (fun i σ H' _ z=>?_) (fun i x σ H' hx z=>?_) (fun σ H' z=>?_)
  ·rw[hW];exact⟨o,rfl,o6.trans (Same.off2 gS),nm6.by fun o u e=>gS _ _ e,hS,by rw[hLk];exact dk6.same gS,lb6.same gS⟩
  ·rw[hW] at z;refine pA fun Gh gI=>?_;obtain⟨_,_,_,_,hS',_⟩:=z;refine gI ?_;exact SqL.of hS'
  ·rw[hW] at z;refine pA fun Gi gJ=>?_;obtain⟨o,rfl,o8,nm8,hS8,dk8,lb8⟩:=z;refine gJ ?_;obtain⟨nm,ws,rfl,hnm,hz,kp,wk,i2,hs⟩:∃nm ws,x=V.str (tx nm)/\nmB nm=true/\LL (tx nm)=some ws/\KQ ws/\(∀u∈ws,WOk u/\isW u=true)/\i<2/\kg (Lk i) (tx nm) ws=Lk (i+1):=by
    have ne2:¬tx [120]=tx [120,120]:=by decide +kernel
    match i,hx with
    | 0,hx=>
     cases hx;exact⟨[120],[w1],rfl,by decide,by rw[hL2];unfold kg;rw[if_neg ne2,if_pos rfl],kw,okw,by omega,by rw[hLk];rfl⟩
    | 1,hx=>
     cases hx;exact⟨[120,120],[u1],rfl,by decide,by rw[hL2];unfold kg;rw[if_pos rfl],ku,oku,by omega,by rw[hLk,hL2];rfl⟩
    | k+2,hx=>simp at hx
   walk_at "wpd";have ln:=xJ hnm;have pl:=ju (fun u hu=>(wk u hu).1) kp.1.2.2 true;refine pA fun Gj gK=>?_;obtain⟨F,ys,dg,hF,hPF⟩:=lb8.get hz;refine gK ?_;rw[z4Q,yi];refine⟨_,_,rfl,rfl,by simp only [zS,List.length_append];simp [xo];omega,?_⟩;rw[zg];refine⟨_,_,rfl,rfl,by simp only [zS,List.length_append];simp [xo];omega,p,.ref F,rfl,dg,F,ys,ws,rfl,SqL.of hF,hPF,kp.1.2.2,fun u hu=>(wk u hu).1,fun H3 g3=>?_⟩;rw[zg];refine⟨_,_,rfl,rfl,by simp only [zS,List.length_append];simp [xo];omega,?_⟩;rw[zg,show xo++[32]++nm++[32]++xT ws true=glu 32 [xo,nm,xT ws true] by simp [glu]];refine z1n (dk8.same g3) (by omega) hnm kp.1 wk fun D4 H4 o4 dk4 hD4 p5 np5=>?_;have g5:=zH np5 (yb vE);obtain⟨ks,hks⟩:=(dk8.same g3).pd;obtain⟨ps,hps⟩:=(lb8.same g3).pd;have Of:Off2 pd p H3 (upd H4 p5 (yb vE)):=(OffD.off2 o4).trans (Same.off2 g5);refine z8Y z1G (g5 _ _ hD4) zG ⟨_,rfl,(fun z=>nomatch z),fun _=>?_⟩;rw[hW];refine⟨_,rfl,o8.trans ((Same.off2 g3).trans Of),?_,Of _ _ (yw (g3 _ _ hS8) hks (by intro z;cases z)) (yw (g3 _ _ hS8) hps (by intro z;cases z)) (g3 _ _ hS8),?_,((lb8.same g3).offD o4 hks ne).same g5⟩
   ·exact (nm8.by (H':=H3) fun o u e=>g3 _ _ e).off Of hks hps
   ·rw[←hs];exact dk4.same g5
  ·rw[hW] at z;refine pA fun Gk gL=>?_;obtain⟨o,rfl,o8,nm8,hS8,dk8,lb8⟩:=z;refine gL ?_;exact⟨o,rfl,o8,nm8,by rw[hLk] at dk8;exact dk8,lb8⟩
 intro σ H7 h7;rw[hM] at h7;refine pA fun Gm gM=>?_;obtain⟨o,rfl,o7,nm7,dk7,lb7⟩:=h7;refine gM ?_;walk_at "wpd";obtain⟨LL,hLL⟩:∃LL,LL=kg (kg L (tx [120]) [w1]) (tx [120,120]) [u1]:=⟨_,rfl⟩
 rw[←hLL] at dk7 lb7;have ne2:¬tx [120]=tx [120,120]:=by decide +kernel
 have z1:LL (tx [120])=some [w1]:=by rw[hLL];unfold kg;rw[if_neg ne2,if_pos rfl]
 have z2:LL (tx [120,120])=some [u1]:=by rw[hLL];unfold kg;rw[if_pos rfl]
 have QL:BkQ LL:=by rw[hLL];exact (hQ.set kw).set ku
 have ww:∀u∈[w1],Wk u:=fun u m=>by rw[List.mem_singleton.mp m];exact W1
 have uu:∀u∈[u1],Wk u:=fun u m=>by rw[List.mem_singleton.mp m];exact U1
 refine pA fun Gn gO=>?_;obtain⟨F1,xs,dg1,hF1,hP1⟩:=lb7.get z1;refine gO ?_;refine zX nm7.sq (zZ (j:=0) rfl) ⟨p,.ref F1,rfl,dg1,F1,xs,rfl,.inl (SqL.of hF1),fun l1 nl1=>?_⟩;have g8:=zH nl1 (.lst xs);have hl1:=zG (H:=H7) (a:=l1) (o:=.lst xs);generalize upd H7 l1 (.lst xs)=H8 at g8 hl1 ⊢;refine pA fun Go gP=>?_;obtain⟨F2,ys,dg2,hF2,hP2⟩:=(lb7.same g8).get z2;refine gP ?_;have nm8:=nm7.by (H':=H8) fun o u e=>g8 _ _ e;refine zX nm8.sq (zZ (j:=1) rfl) ⟨p,.ref F2,rfl,dg2,F2,ys,rfl,.inl (SqL.of hF2),fun l2 nl2=>?_⟩;have g9:=zH nl2 (.lst ys);have hl2:=zG (H:=H8) (a:=l2) (o:=.lst ys);have hl1':=g9 _ _ hl1;have P1:=(hP1.same g8).same g9;have P2:=hP2.same g9;generalize upd H8 l2 (.lst ys)=H9 at g9 hl2 hl1' P1 P2 ⊢;have nm9:=nm8.by (H':=H9) fun o u e=>g9 _ _ e;refine⟨l1,l2,xs,ys,[w1],[u1],rfl,SqL.of hl1',P1,SqL.of hl2,P2,ww,uu,fun u m=>Int.le_trans (kw.le u m) e98,fun u m=>Int.le_trans (ku.le u m) e98,(by decide:1<=14),(by decide:1<=14),by have:=gt.1;unfold v5 at this;omega,fun e=>absurd gt.2 e,fun e tt W D T H10 g10 ht hW=>⟨tt,[.int W,.int D,.int T],rfl,SqT.of ht,rfl,?_⟩⟩;walk_at "wpd";have sm:=hW.small ww uu;refine pA fun Gp gQ=>?_;obtain⟨G1,Gd,Gl,_⟩:=xL ww uu;refine gQ ?_;have cN:Nr [w1] [u1]<=20000:=by
  have nb:=gt.1;unfold v5 at nb;have:1*Nr [w1] [u1]<=Gr [w1] [u1]*Nr [w1] [u1]:=Int.mul_le_mul_of_nonneg_right G1 (by omega);omega
 have e100:(20000:Int)<10^100:=by decide +kernel
 have d1:=z1Z (n:=W) (by omega) (by omega);have d2:=z1Z (n:=D) (by omega) (by omega);have d3:=z1Z (n:=T) (by omega) (by omega);have j1:=d1.len;have j2:=d2.len;have j3:=d3.len;have y1:atL.length=4:=rfl;have y2:z5e.length=6:=rfl;have nm10:=nm9.by (H':=H10) fun o u e=>g10 _ _ e;rw[show Str.ofString " at " = tx atL by decide +kernel,show Str.ofString " from " = tx z5e by decide +kernel];refine⟨W,rfl,d1.sz,?_⟩;rw[yP];refine⟨_,_,rfl,rfl,by simp only [zS];omega,D,rfl,d2.sz,?_⟩;rw[yP,zg];refine⟨_,_,rfl,rfl,by simp only [zS,List.length_append];omega,?_⟩;rw[zg];refine⟨_,_,rfl,rfl,by simp only [zS,List.length_append];omega,T,rfl,d3.sz,?_⟩;rw[yP,zg];refine⟨_,_,rfl,rfl,by simp only [zS,List.length_append];omega,fun E4 nE4=>?_⟩;rw[zg];have g11:=zH nE4 (yb (tx (wtx W D T)));have h11:upd H10 E4 (yb (tx (wtx W D T))) E4=some (yb (tx (wtx W D T))):=zG;change y0r K (V.ref NL) (V.int 0) (upd H10 E4 (yb (tx (wtx W D T)))) _;generalize upd H10 E4 (yb (tx (wtx W D T)))=H11 at g11 h11 ⊢;have nm11:=nm10.by (H':=H11) fun o u e=>g11 _ _ e;rw[xq,yi];refine zX nm11.sq (zZ (j:=0) rfl) ⟨_,_,rfl,rfl,by simp only [zS,List.length_append];decide,?_⟩;rw[zg];refine⟨_,_,rfl,rfl,by simp only [zS,List.length_append];decide,zX nm11.sq (zZ (j:=1) rfl) ?_⟩;rw[zg];refine⟨_,_,rfl,rfl,by simp only [zS,List.length_append];decide,?_⟩;rw[zg,show xp++[32]++[120]++[32]++[120,120]=glu 32 [xp,[120],[120,120]] by decide];have G:=g8.trans (g9.trans (g10.trans g11));have out:∀D7 H12 H13,Same H11 H12->Same H12 H13->H13 D7=some (yb (tx (wtx W D T)))->y1V K (.ref D7) (.ref E4) H13 Q:=fun D7 H12 H13 a1 a2 hD7=>
  jW z7k hD7 (a2 _ _ (a1 _ _ h11)) (q LL _ (o7.trans (Same.off2 (G.trans (a1.trans a2)))) (dk7.same (G.trans (a1.trans a2))) (lb7.same (G.trans (a1.trans a2))) QL)
 refine⟨d,pd,_,n+2,LL,_,rfl,dk7.same G,by omega,⟨by decide,by decide⟩,z2B (by decide) (by decide),.worst (fun e=>?_) fun ws us f1 f2=>?_⟩
 ·rcases e with e|e
  ·rw[z1] at e;cases e
  ·rw[z2] at e;cases e
 ·rw[z1] at f1;rw[z2] at f2;cases f1;cases f2;exact⟨ww,uu,fun u m=>Int.le_trans (kw.le u m) e98,fun u m=>Int.le_trans (ku.le u m) e98,(by decide:1<=14),(by decide:1<=14),(kw.two ku).2,fun c=>absurd c gt.1,fun _ e=>absurd gt.2 e,fun _ _ W2 D2 T2 H12 g12 hW2=>⟨_,rfl,fun D7 H13 g13 hD7=>by
   refine pA fun Gq gR=>?_;obtain⟨rfl,rfl,rfl⟩:=hW.uniq hW2;refine gR ?_;exact out D7 H12 H13 g12 g13 hD7⟩⟩
end
section
variable {P:Program} {w:World} {K:PySem.W.Frag} {mg:Str->Option Value} {base:Heap}
local macro_rules | `(tactic| walk_at "wpd")=>`(tactic| try simp only [z0L,z0Z,z1L,z0X,z2y,qS,z0q,wL,z5x,z0T,z0c,wD,z0N,kK,kN,jr,kU,kT,z7x,z3p,z3o,z0J,z0F,z0H,z3l,z0I,z0G,z3u,z3r,z4I,z8J,z8I,z0t,z0s,kJ,z7y,z9B,z4o,z4p,z0d,z3t,z0Q,kZ,z0P,kM,z3v,z0R,kW,z0K,z0S,kY,z3w,jq,z0O,z4n,z0b,z4h,z3s,jL,kL,z3x,z0a,kI,z1V,wE,z1W,z0U,kx,ko,km,kn,kl,ky,z0M,wA,z1M,z1O,z1K,kj,wC,qG,z1N,z0V,z1H,ki,kS,z0W,z0p,jS,kP,kR,x8,kO,kQ,kX,z1I,L2.yo,z4r,wH,qO,List.map_cons,List.map_nil,List.length_cons,List.length_nil,List.replicate,List.cons_append,List.nil_append,List.append_nil,List.set_cons_zero,List.set_cons_succ,decide_eq_true_eq,Bool.not_eq_true',decide_eq_false_iff_not,Bool.not_eq_eq_eq_not,Bool.not_true,Bool.not_false,sizeLine_eq,oV,reduceCtorEq,z4e,z4f,z4d,z4g,Nat.reduceAdd,Nat.reduceSub,Nat.reduceLeDiff,Nat.zero_add,true_and,and_true,forall_const,Bool.false_eq_true,if_true,if_false,false_implies,true_implies,not_false_eq_true,not_true_eq_false,implies_true])
noncomputable def sp_law (K:PySem.W.Frag):Sp:=fun vs H Q _=>∃(a:Addr) (ns:List Int),vs=[.ref a]/\SqL K H a (ns.map V.int)/\ns.length<=63/\(∀z∈ns,Builtin.Int.intBits z<=2^20)/\∀H',Q (.bl true) H'
theorem sp_start (K:PySem.W.Frag) (H:Hp) (a:Addr) (ns:List Int) (h1:ns.length<=63) (hb:∀z∈ns,Builtin.Int.intBits z<=2^20) (h2:SqL K H a (ns.map V.int)):sp_law K [.ref a] H (fun v _=>v=.bl true) fun _ _ _=>False:=⟨a,ns,rfl,h2,h1,hb,fun _=>rfl⟩
theorem z8p {C:Addr} (X:DkTx K C) (T:TM K C "__init__" "Desk.__init__" xD):z9I P w K mg base 1 C "__init__" ["self"] (z4G C):=by
 refine T.has1 kD (fun _ _ _ _ _ _=>L2.bnd1 fun _=>rfl) (fun vs H Q E h=>?_) (fun f cdv A outer s H vs Q E hr h=>?_)
 ·refine pA fun Gu gU=>?_;obtain⟨x,dx,rfl,_⟩:=h;refine gU ?_;rfl
 refine pA fun Gv gW=>?_;obtain⟨x,dx,rfl,hx,q⟩:=h;refine gW ?_;refine⟨_,(z8L (pv 0) z4R rfl),?_⟩;walk_at "wpd";intro p np;have nx:x≠p:=zd hx np;have gp:=zH np (.dK []);refine⟨x,C,dx,[],rfl,gp _ _ hx,X.cl,X.nP,by decide,q p _ ⟨⟨dx,zG⟩,[],by rw[za (Ne.symm nx),zG],Nat.le_refl _,fun z=>⟨fun _=>rfl,fun ws e=>nomatch e⟩⟩ np fun b o hb e=>?_⟩;rw[za hb];exact gp _ _ e
theorem y0A {X:Cx} {n:Nat} {st:Stmt} {t:TS} (h:PSN X n st t):PSN X n st (y3A t):=by
 intro pins s σ H D hn I hw;refine pA fun Gw fA=>?_;obtain⟨M,h1,h2⟩:=hw;refine fA ?_;refine thn (h pins s σ H _ hn I h1) fun f s1 q=>?_;cases f with
 | next=>obtain⟨σ',H',I',q⟩:=q;exact⟨σ',H',I',h2 σ' H' q⟩
 | ret v=>exact q
 | brk=>exact q
 | cont=>exact q
theorem z3y {n:Nat}:∀l:List Int,(∀z∈l,Builtin.Int.intBits z<=n)->Builtin.Int.intBits l.sum<=n+l.length
 | [],_=>by simp [Builtin.Int.intBits]
 | z::l,h=>by
  have ih:=z3y l fun y hy=>h y (by simp [hy]);rw[List.sum_cons];exact z7h (n:=n+l.length) (Nat.le_trans (h z (by simp)) (by omega)) ih
theorem z4s {ns:List Int} {lo hi:Option Int}:∀z∈z4t ns lo hi,z∈ns:=fun z hz=>List.mem_of_mem_drop (List.mem_of_mem_take hz)
theorem z6C {H H':Hp} {a:Addr} {xs:List V} (h:SqL K H a xs) (g:∀o,H a=some o->H' a=some o):SqL K H' a xs:=by
 rcases h with (h|⟨o,h⟩)|h
 ·exact .inl (.inl (g _ h))
 ·exact .inl (.inr ⟨o,g _ h⟩)
 ·exact .inr h
theorem y1J {H H':Hp} {c a b:Addr} {xs:List V} {ka kb:List (Key×V)} (h:SqL K H c xs) (ha:H a=some (.dK ka)) (hb:H b=some (.dK kb)) (g:Off2 a b H H'):SqL K H' c xs:=by
 rcases h with (h|⟨o,h⟩)|h
 ·exact .inl (.inl (g _ _ (yw h ha (by intro z;cases z)) (yw h hb (by intro z;cases z)) h))
 ·exact .inl (.inr ⟨o,g _ _ (yw h ha (by intro z;cases z)) (yw h hb (by intro z;cases z)) h⟩)
 ·exact .inr h
theorem y1k {k:Int} (h0:0<=k) (h1:k<4):∃nm,(NMS.map tx)[k.toNat]?=some (tx nm)/\nmB nm=true:=by
 have:k=0∨k=1∨k=2∨k=3:=by omega
 rcases this with rfl|rfl|rfl|rfl
 ·exact⟨_,rfl,by decide⟩
 ·exact⟨_,rfl,by decide⟩
 ·exact⟨_,rfl,by decide⟩
 ·exact⟨_,rfl,by decide⟩
theorem y1j {k:Int} (h0:0<=k) (h1:k<4):∃nm,atI ((NMS.map tx).map V.str) k=some (.str (tx nm))/\nmB nm=true:=by
 have:k=0∨k=1∨k=2∨k=3:=by omega
 rcases this with rfl|rfl|rfl|rfl
 ·exact⟨_,rfl,by decide⟩
 ·exact⟨_,rfl,by decide⟩
 ·exact⟨_,rfl,by decide⟩
 ·exact⟨_,rfl,by decide⟩
theorem y1h:([Str.ofString "x",Str.ofString "xx",Str.ofString "xxy",Str.ofString "yxxxxxxx"]:List Str)=NMS.map tx:=by decide +kernel
theorem y2n {C:Addr} (cl_Desk:Cls K C) (mk_Desk:PySem.W.makesIn K C=true) (kc_Desk:PySem.W.keepIn K (.ref C)=true) (mg_Desk:mg "Desk" = some (.ref C)) (T:TF K mg "law" z9r) (m_sum:mg "sum" = none) (G_Desk___init__:z9I P w K mg base 1 C "__init__" ["self"] (z4G C)) (G_law_big:Has P w K mg base 1 "_law_big" ["cell"] z9R) (G_law_longer:Has P w K mg base 10 "_law_longer" ["desk", "plans", "names", "number"] (vf C)) (G_law_kept:HasT P w K mg base 10 "_law_kept" ["desk", "plans", "name", "number"] (z4F C)) (G_law_worst:Has P w K mg base 10 "_law_worst" ["desk", "plans", "one", "other"] (z1t C)) (G_law_awake:Has P w K mg base 10 "_law_awake" ["desk", "plans", "name", "turn"] (z1v C)):Has P w K mg base 11 "law" ["script"] (sp_law K):=by
 refine T.has xm (fun _ _ _ _ _ _=>L2.bnd1 fun _=>rfl) (fun vs H Q E h=>?_) (fun f cdv A outer s H vs Q E hr h=>?_)
 ·refine pA fun Gx fB=>?_;obtain⟨a,ns,rfl,_⟩:=h;refine fB ?_;rfl
 refine pA fun Gy fE=>?_;obtain⟨a,ns,rfl,hS,h63,hbits,q⟩:=h;refine fE ?_;refine⟨_,(z6S (y0B (i:=1) xm.nd rfl (Or.inl rfl) G_Desk___init__ mk_Desk kc_Desk (hr.mono (by first|decide|omega)) rfl mg_Desk) (z5J (p:=⟨0,0,0,0⟩) (i:=2) (Nat.le_refl _) xm.nd rfl (Or.inl rfl) (fun m=>(yG (PS.atN (zP (i:=3) xm.nd rfl (Or.inl rfl) z4R)) (yG (PS.atN (x4 (zl (PW.pt (z4L (zN yt (zM zr (zV (G_law_big.mono (by first|decide|omega)) hr (zB (ze (z2l rfl) rfl m_sum (by decide +kernel) (zB (xh wT (pv 0) qf (jG zF)) zE)) zE)) zF) zF (zW _)) (z0u (xn (yd (zV (G_law_longer.mono (by first|decide|omega)) hr (zB (pv 1) (zB (pv 3) (zB (pv 2) (zB (zV (G_law_big.mono (by first|decide|omega)) hr (zB (ze (z2l rfl) rfl m_sum (by decide +kernel) (zB (xh wT (pv 0) (jG zF) (jG zF)) zE)) zE)) zE))))) (fun _=>rfl)))))) (zJ (zR jx)) zL))) (yG (z9z PassesOwn.never rfl (y7 (zM y1g (xh wT (pv 0) qf (jG zF)) (zq (zB zF zE)))) (zY (i:=4) xm.nd rfl (Or.inl rfl)) (yG (PS.atN (zP (i:=5) xm.nd rfl (Or.inl rfl) (zV (G_law_big.mono (by first|decide|omega)) hr (zB (zM j8 (pv 4) zF) zE)))) (yG (z8M (i:=6) xm.nd rfl (Or.inl rfl) (pv 2) (zM zr (pv 5) zF) (fun _ _=>rfl)) (yG (PS.atN (zP (i:=5) xm.nd rfl (Or.inl rfl) (zM zm (pv 5) zF))) (yG (PS.atN (zP (i:=7) xm.nd rfl (Or.inl rfl) jx)) (yG (y0A (y1X (zN z2I (zM zr (pv 5) zF) zF (zW _)) (jv (z9x (i:=7) xm.nd rfl (Or.inl rfl) (z8Q (HasT.mono G_law_kept (by first|decide|omega)) hr (z0z (pv 1) (z0z (pv 3) (y0K (i:=6) rfl (Or.inl rfl) (z0z (zM zm (pv 5) zF) y0L))))))) (jv (PS.atN (zl (zN z2I (zM zr (pv 5) zF) zF (zW _)) (zJ (zP (i:=7) xm.nd rfl (Or.inl rfl) (zV (G_law_worst.mono (by first|decide|omega)) hr (zB (pv 1) (zB (pv 3) (zB (pv 6) (zB (zn zk (pv 2) (zM zr (zM zm (pv 5) zF) zF) (fun _ _=>rfl)) zE))))))) zL))))) (jv (PS.atN (zl (PW.pt (z3H (xn (yd (pv 7) (fun _=>rfl))) (z4K (xn (yd (zV (G_law_awake.mono (by first|decide|omega)) hr (zB (pv 1) (zB (pv 3) (zB (pv 6) (zB (zM j7 (zM zr (zM zm (pv 5) zF) (zM jH zF (zM z4T zF zF))) (zM z4T zF zF)) zE))))) (fun _=>rfl)))))) (zJ (zR jx)) zL))))))))) (yG (PS.atN (xZ PassesOwn.never rfl (y7 (pv 2)) (zY (i:=6) xm.nd rfl (Or.inl rfl)) (zJ (zl (xn (yd (zV (G_law_awake.mono (by first|decide|omega)) hr (zB (pv 1) (zB (pv 3) (zB (pv 6) (zB zF zE))))) (fun _=>rfl))) (zJ (zR jx)) zL)))) (jv (PS.atN (zR jx)))))))))),?_⟩;walk_at "wpd";intro x dx nx ndx hne;have gx:Same H (upd (upd H dx (HO.own x)) x (HO.ins C dx [])):=(zH ndx _).trans (zH (by rw[za (Ne.symm hne)];exact nx) _);have hx1:=zG (H:=upd H dx (HO.own x)) (a:=x) (o:=HO.ins C dx []);refine⟨x,dx,rfl,hx1,fun pd H1 hk1 npd off1=>⟨rfl,?_⟩⟩;have hS1:SqL K H1 a (ns.map V.int):=z6C hS fun o e=>off1 _ _ (zd e nx) (gx _ _ e);intro NL o t m nNL t1 tm hO;rw[y1h] at hO tm ⊢;have gN:=zH nNL (.frz o (.lst ((NMS.map tx).map V.str)));have hN:NmL (upd H1 NL (.frz o (.lst ((NMS.map tx).map V.str)))) NL t:=⟨o,zG,hO⟩
 generalize upd H1 NL (.frz o (.lst ((NMS.map tx).map V.str)))=H2 at gN hN ⊢;have l4:(NMS.map tx).length=4:=rfl;walk_at "wpd";intro p np;have gp:=zH np (.dK []);have lp:Lb (upd H2 p (.dK [])) p 0 (fun _=>none):=⟨[],zG,Nat.le_refl _,fun z=>⟨fun _=>rfl,fun ws e=>nomatch e⟩⟩
 obtain⟨ks0,hks0⟩:=(hk1.same gN).pd;have ne:pd≠p:=zd hks0 np;have hk3:=(hk1.same gN).same gp;have hN3:=hN.by (H':=upd H2 p (.dK [])) fun o u e=>gp _ _ e;have hS3:SqL K (upd H2 p (.dK [])) a (ns.map V.int):=z6C hS1 fun o e=>gp _ _ (gN _ _ e);generalize upd H2 p (.dK [])=H3 at gp lp hk3 hN3 hS3 ⊢;have bitC:∀lo hi,Builtin.Int.intBits (z4t ns lo hi).sum<=2^21:=fun lo hi=>by
  have h1:=z3y (n:=2^20) (z4t ns lo hi) fun z hz=>hbits z (z4s z hz);have h2:=vM ns lo hi;have e:(2:Nat)^21=2^20+2^20:=rfl;omega
 obtain⟨M,hM⟩:∃M:St->Hp->Prop,M=fun σ H'=>∃(n:Nat) (L:jX),σ=[some (.ref a),some (.ref x),some (.ref NL),some (.ref p),none,none,none,none]/\SqL K H' a (ns.map V.int)/\NmL H' NL t/\Dsk C H' x pd n L/\Lb H' p n L/\BkQ L/\n<=2:=⟨_,rfl⟩
 refine⟨M,?_,?_⟩
 ·walk_at "wpd";refine⟨a,_,rfl,hS3,fun S nS=>?_⟩;rw[z1a];have gS:=zH nS (.lst ((z4t ns none (some 1)).map V.int));refine⟨S,_,rfl,SqL.of zG,_,rfl,bitC _ _,fun d1 d10 d11=>?_⟩;walk_at "wpd";refine⟨by decide,fun c=>⟨a,_,rfl,z6C hS3 fun o e=>gS _ _ e,fun S2 nS2=>?_⟩,fun c=>?_⟩
  ·rw[z1a];have gS2:=zH nS2 (.lst ((z4t ns (some 1) (some 2)).map V.int));have G:=gS.trans gS2;refine⟨S2,_,rfl,SqL.of zG,_,rfl,bitC _ _,fun d2 d20 d21=>⟨x,pd,p,NL,t,d2,0,_,rfl,hN3.by fun o u e=>G _ _ e,d20,hk3.same G,lp.same G,ne,by omega,(fun z ws e=>nomatch e),fun LL H5 o5 dk5 lb5 q5=>⟨_,rfl,(fun z=>nomatch z),fun _=>?_⟩⟩⟩;obtain⟨k1,hk1⟩:=(hk3.same G).pd;obtain⟨k2,hk2⟩:=(lp.same G).pd;rw[hM];exact⟨2,LL,rfl,y1J (z6C hS3 fun o e=>G _ _ e) hk1 hk2 o5,(hN3.by fun o u e=>G _ _ e).off o5 hk1 hk2,dk5,lb5,q5,Nat.le_refl _⟩
  ·rw[hM];exact⟨0,_,rfl,z6C hS3 fun o e=>gS _ _ e,hN3.by fun o u e=>gS _ _ e,hk3.same gS,lp.same gS,(fun z ws e=>nomatch e),by omega⟩
 intro σ H4 h4;rw[hM] at h4;refine pA fun Gz fF=>?_;obtain⟨n4,L4,rfl,hS4,hN4,hk4,lb4,q4,n42⟩:=h4;refine fF ?_;walk_at "wpd";refine⟨a,_,rfl,hS4,fun S nS E1 nE1=>?_⟩;rw[z1a] at nE1 ⊢;have gS:=zH nS (.lst ((z4t ns none (some 24)).map V.int));have hSl:=zG (H:=H4) (a:=S) (o:=.lst ((z4t ns none (some 24)).map V.int));generalize upd H4 S (.lst ((z4t ns none (some 24)).map V.int))=H5 at gS hSl nE1 ⊢;have gE:=zH nE1 (.lst [V.int 1]);have hE1:=zG (H:=H5) (a:=E1) (o:=.lst [V.int 1]);have hSl':=gE _ _ hSl;generalize upd H5 E1 (.lst [V.int 1])=H6 at gE hE1 hSl' ⊢;have lc:=vM ns none (some 24);refine⟨S,E1,_,_,rfl,rfl,hSl',hE1,by rw[sizeLine_eq,List.length_map];simp;omega,fun Z nZ=>?_⟩;obtain⟨cs,hcs⟩:∃cs:List Int,cs=z4t ns none (some 24)++[1]:=⟨_,rfl⟩
 have ecs:(z4t ns none (some 24)).map V.int++[V.int 1]=cs.map V.int:=by rw[hcs,List.map_append];rfl
 rw[ecs];have lcs:cs.length<=64:=by rw[hcs,List.length_append];simp;omega
 have bcs:∀z∈cs,Builtin.Int.intBits z<=2^20:=fun z hz=>by
  rw[hcs] at hz;rcases List.mem_append.mp hz with hz|hz
  ·exact hbits z (z4s z hz)
  ·rw[List.mem_singleton.mp hz];decide
 have gZ:=zH nZ (.lst (cs.map V.int));have hZ:=zG (H:=H6) (a:=Z) (o:=.lst (cs.map V.int));have G7:=gS.trans (gE.trans gZ);generalize upd H6 Z (.lst (cs.map V.int))=H7 at gZ hZ G7 ⊢;refine⟨Z,rfl,⟨_,SqL.of hZ⟩,?_⟩;obtain⟨W,hW⟩:∃W:Nat->St->Hp->Prop,W=fun i σ H'=>∃(o4 o5 o6 o7:Option V) (n:Nat) (L:jX),σ=[some (.ref a),some (.ref x),some (.ref NL),some (.ref p),o4,o5,o6,o7]/\NmL H' NL t/\H' Z=some (.lst (cs.map V.int))/\Dsk C H' x pd n L/\Lb H' p n L/\BkQ L/\n<=2+i:=⟨_,rfl⟩
 refine ym (xs:=cs.map V.int) W ?_ (fun i σ H' _ z=>?_) (fun i y σ H' hy z=>?_) (fun σ H' z=>?_)
 ·rw[hW];exact⟨_,_,_,_,n4,L4,rfl,hN4.by fun o u e=>G7 _ _ e,hZ,hk4.same G7,lb4.same G7,q4,by omega⟩
 ·rw[hW] at z;refine pA fun G0 fG=>?_;obtain⟨_,_,_,_,_,_,_,_,hZ',_⟩:=z;refine fG ?_;exact SqL.of hZ'
 ·rw[hW] at z;refine pA fun Fa fH=>?_;obtain⟨o4,o5,o6,o7,n,L,rfl,hN8,hZ8,hk8,lb8,q8,n8⟩:=z;refine fH ?_;rw[List.getElem?_map] at hy;refine pA fun Fb fI=>?_;obtain⟨cell,hcell,rfl⟩:=Option.map_eq_some_iff.mp hy;refine fI ?_;have hi:=(List.getElem?_eq_some_iff.mp hcell).1;have bc:=bcs cell (List.mem_of_getElem? hcell);walk_at "wpd";refine⟨cell+1,rfl,Nat.le_trans (z7h bc (by decide)) (by decide),fun num n0 n1=>⟨NL,rfl,?_⟩⟩;walk_at "wpd";refine pA fun Ga hU=>?_;obtain⟨ob,eb,ob2⟩:=id hN8;refine hU ?_;have m4:=z1h num (show (0:Int)<4 by decide);refine pA fun Gb hV=>?_;obtain⟨nm,enm,hnm⟩:=y1k m4.1 m4.2;refine hV ?_;refine⟨by decide,ob,NMS.map tx,t,(num%4).toNat,tx nm,by rw[Int.toNat_of_nonneg m4.1],eb,ob2,enm,by omega,?_⟩;walk_at "wpd";refine⟨dvA _ _ (by decide) (by decide),fun σ H'=>∃(n':Nat) (L':jX),σ=[some (.ref a),some (.ref x),some (.ref NL),some (.ref p),some (.int cell),some (.int (num/4)),some (.stk (tx nm) (t+(num%4).toNat)),some (.bl true)]/\NmL H' NL t/\H' Z=some (.lst (cs.map V.int))/\Dsk C H' x pd n' L'/\Lb H' p n' L'/\BkQ L'/\n'<=2+i+1,?_,?_⟩
  ·walk_at "wpd";refine⟨by decide,fun c1=>?_,fun c1=>⟨by decide,fun c2=>?_,fun c2=>⟨n,L,hN8,hZ8,hk8,lb8,q8,by omega⟩⟩⟩
   ·unfold z9Q;walk_at "wpd";refine⟨tx nm,t+(num%4).toNat,rfl,?_⟩;walk_at "wpd";refine⟨dvA _ _ (by decide) (by decide),x,pd,p,nm,t+(num%4).toNat,num/4/5,n,L,rfl,by omega,by omega,hnm,by omega,hk8,lb8,ne,by omega,q8,fun L' H9 o9 dk9 lb9 q9=>⟨n+1,L',rfl,?_⟩⟩;obtain⟨k1,hk1⟩:=hk8.pd;obtain⟨k2,hk2⟩:=lb8.pd;exact⟨hN8.off o9 hk1 hk2,o9 _ _ (yw hZ8 hk1 (by intro z;cases z)) (yw hZ8 hk2 (by intro z;cases z)) hZ8,dk9,lb9,q9,by omega⟩
   ·have m5:=z1h (num/4/5) (show (0:Int)<4 by decide);refine pA fun Gc gB=>?_;obtain⟨nm2,en2,hnm2⟩:=y1j m5.1 m5.2;refine gB ?_;exact⟨dvA _ _ (by decide) (by decide),by decide,zX hN8.sq en2 ⟨x,pd,p,nm,nm2,n,L,rfl,hk8,lb8,q8,by omega,hnm,hnm2,fun H9 g9=>⟨n,L,rfl,hN8.by fun o u e=>g9 _ _ e,g9 _ _ hZ8,hk8.same g9,lb8.same g9,q8,by omega⟩⟩⟩
  rintro σ H9 ⟨n9,L9,rfl,hN9,hZ9,hk9,lb9,q9,n99⟩;walk_at "wpd";have cp:y2t 10 59:=⟨by decide,by decide,by decide⟩
  have e59:(10:Int)^Int.toNat 59=10^59:=rfl;have e60:(10:Int)^60=10*10^59:=by decide +kernel
  have e0:(1000:Int)<=10^59:=by decide +kernel
  have b2:=z1h (num/4/20) (show (0:Int)<2*10^Int.toNat 59 by decide);refine⟨dvA _ _ (by decide) (by decide),cp,mok 10 300 (by decide) (by decide) (by decide),by decide,cp,?_⟩;rw[e59] at b2 ⊢;refine⟨x,pd,p,nm,_,n9,L9,rfl,hk9,lb9,by omega,hnm,by omega,by omega,fun H10 g10=>⟨true,rfl,(fun z=>nomatch z),fun _=>?_⟩⟩;rw[hW];exact⟨_,_,_,_,n9,L9,rfl,hN9.by fun o u e=>g10 _ _ e,g10 _ _ hZ9,hk9.same g10,lb9.same g10,q9,by omega⟩
 ·rw[hW] at z;refine pA fun Ge gC=>?_;obtain⟨o4,o5,o6,o7,n,L,rfl,hN8,hZ8,hk8,lb8,q8,n8⟩:=z;refine gC ?_;rw[List.length_map] at n8;walk_at "wpd";refine⟨⟨_,hN8.sq⟩,?_⟩;obtain⟨W2,hW2⟩:∃W2:Nat->St->Hp->Prop,W2=fun _ σ H''=>∃(o4 o5 o6 o7:Option V),σ=[some (.ref a),some (.ref x),some (.ref NL),some (.ref p),o4,o5,o6,o7]/\NmL H'' NL t/\Dsk C H'' x pd n L/\Lb H'' p n L:=⟨_,rfl⟩
  refine ym (xs:=(NMS.map tx).map V.str) W2 ?_ (fun i σ H9 _ z=>?_) (fun i y σ H9 hy z=>?_) (fun σ H9 z=>?_)
  ·rw[hW2];exact⟨_,_,_,_,rfl,hN8,hk8,lb8⟩
  ·rw[hW2] at z;refine pA fun Gf gG=>?_;obtain⟨_,_,_,_,_,hN9,_⟩:=z;refine gG ?_;exact hN9.sq
  ·rw[hW2] at z;refine pA fun Gg gH=>?_;obtain⟨o4,o5,o6,o7,rfl,hN9,hk9,lb9⟩:=z;refine gH ?_;obtain⟨nm,hnm,rfl⟩:∃nm,nmB nm=true/\y=.str (tx nm):=by
    rw[List.map_map,List.getElem?_map] at hy;refine pA fun Gh gI=>?_;obtain⟨nm,hnm,rfl⟩:=Option.map_eq_some_iff.mp hy;refine gI ?_;exact⟨nm,y1i nm (List.mem_of_getElem? hnm),rfl⟩
   walk_at "wpd";refine⟨x,pd,p,nm,0,n,L,rfl,hk9,lb9,by omega,hnm,by decide,by decide,fun H10 g10=>⟨true,rfl,(fun z=>nomatch z),fun _=>?_⟩⟩;rw[hW2];exact⟨_,_,_,_,rfl,hN9.by fun o u e=>g10 _ _ e,hk9.same g10,lb9.same g10⟩
  ·walk_at "wpd";exact q _
theorem fin {fa:Addr} {h:Heap} (KX:K.In h) (G:h.Ns mainGlobals mg) (hfa:mg "law" = some (.ref fa)) (T_divisor:TF K mg "divisor" wa) (T_least_round:TF K mg "least_round" xf) (T_least_part:TF K mg "least_part" jD) (T_pair_plan:TF K mg "pair_plan" jd) (T_is_prime:TF K mg "is_prime" qe) (T_grid_plan:TF K mg "grid_plan" ji) (T_plan_of:TF K mg "plan_of" w5) (T_is_waking:TF K mg "is_waking" jg) (T_awake:TF K mg "awake" z3F) (T_next_awake:TF K mg "next_awake" jC) (T_plan_round:TF K mg "plan_round" jB) (T_hole:TF K mg "hole" z6N) (T_shifts_of_two:TF K mg "shifts_of_two" xC) (T_shifts:TF K mg "shifts" z0o) (T_lonely_shift:TF K mg "lonely_shift" xR) (T_worst:TF K mg "worst" z0n) (T_longest_wait:TF K mg "longest_wait" xQ) (T_shown_plan:TF K mg "shown_plan" jA) (T_shown_waking:TF K mg "shown_waking" xP) (T_read_plan:TF K mg "read_plan" jc) (T_read_waking:TF K mg "read_waking" xb) (T_read_number:TF K mg "read_number" xc) (T_is_figures:TF K mg "is_figures" jF) (T_words_of:TF K mg "words_of" qW) (T_fits:TF K mg "fits" z6O) (T_is_name:TF K mg "is_name" w9) (T_is_turn:TF K mg "is_turn" w8) (T_told_plan:TF K mg "told_plan" jb) (T_turn_answer:TF K mg "turn_answer" xa) (T_worst_answer:TF K mg "worst_answer" xO) (T_law_big:TF K mg "_law_big" w6) (T_law_kind:TF K mg "_law_kind" jR) (T_law_told:TF K mg "_law_told" qX) (T_law_plan:TF K mg "_law_plan" qY) (T_law_pair:TF K mg "_law_pair" qZ) (T_law_made:TF K mg "_law_made" qc) (T_law_kept:TF K mg "_law_kept" qd) (T_law_worst:TF K mg "_law_worst" je) (T_law_awake:TF K mg "_law_awake" jf) (T_law_longer:TF K mg "_law_longer" jE) (T_law:TF K mg "law" z9r) (m_len:mg "len" = none) (m_min:mg "min" = none) (m_all:mg "all" = none) (m_zip:mg "zip" = none) (m_int:mg "int" = none) (m_str:mg "str" = none) (m_list:mg "list" = none) (m_tuple:mg "tuple" = none) (m_range:mg "range" = none) (m_isinstance:mg "isinstance" = none) (m_sum:mg "sum" = none) (m_ValueError:mg "ValueError" = none) (D_FORMS:CDT P w K mg "FORMS" vQ) (c_MOST_FIGURES:CI mg "MOST_FIGURES" 100) (c_MOST_WAKINGS:CI mg "MOST_WAKINGS" 12) (c_MOST_LETTERS:CI mg "MOST_LETTERS" 8) (c_PRIME_FIGURES:CI mg "PRIME_FIGURES" 12) (c_GRID_FIGURES:CI mg "GRID_FIGURES" 50) (c_LONGEST_ROUND:CI mg "LONGEST_ROUND" 5000) (c_MOST_TRIED:CI mg "MOST_TRIED" 20000) (c_FIGURES:CS mg "FIGURES" "0123456789") (c_LETTERS:CS mg "LETTERS" "abcdefghijklmnopqrstuvwxyz") {c_MeetError c_NoPlan c_NoPaper c_NoPrimes c_TooMany c_NoText c_NoName c_NoRow:Addr} (O_MeetError:OX K mg "MeetError" c_MeetError VE) (O_NoPlan:OX K mg "NoPlan" c_NoPlan (.ref c_MeetError::VE)) (O_NoPaper:OX K mg "NoPaper" c_NoPaper (.ref c_MeetError::VE)) (O_NoPrimes:OX K mg "NoPrimes" c_NoPrimes (.ref c_MeetError::VE)) (O_TooMany:OX K mg "TooMany" c_TooMany (.ref c_MeetError::VE)) (O_NoText:OX K mg "NoText" c_NoText (.ref c_MeetError::VE)) (O_NoName:OX K mg "NoName" c_NoName (.ref c_MeetError::VE)) (O_NoRow:OX K mg "NoRow" c_NoRow (.ref c_MeetError::VE)) (Z_NoPlan:OC K c_NoPlan) (Z_NoPrimes:OC K c_NoPrimes) (Z_TooMany:OC K c_TooMany) (Z_NoName:OC K c_NoName) (ndE:[c_MeetError,c_NoPlan,c_NoPaper,c_NoPrimes,c_TooMany,c_NoText,c_NoName,c_NoRow].Nodup) {C_Desk:Addr} (cl_Desk:Cls K C_Desk) (na_Desk_plans:NoAttr K C_Desk "plans") (mk_Desk:PySem.W.makesIn K C_Desk=true) (kc_Desk:PySem.W.keepIn K (.ref C_Desk)=true) (mg_Desk:mg "Desk" = some (.ref C_Desk)) (T_Desk___init__:TM K C_Desk "__init__" "Desk.__init__" xD) (T_Desk_told:TM K C_Desk "told" "Desk.told" jk) (T_Desk_plan_by:TM K C_Desk "plan_by" "Desk.plan_by" xS) :
  ∃fd:FuncData,(∀(s:Shared) (v:Value),BindsTo s fd ⟨[v],[]⟩ [("script",v)])/\∀base:Heap,K.In base->base.Ns mainGlobals mg->FnOk P w K mg base CX0 11 fa fd ["script"] (sp_law K):=
 y0X KX G hfa fun _ _ _=>
  have X:DkTx K C_Desk:=⟨cl_Desk,na_Desk_plans⟩
  have fgM:=z1S T_is_figures m_len m_all c_FIGURES;have rn:=vY T_read_number m_int c_MOST_FIGURES fgM;have rp:=z3W T_read_plan m_len c_MOST_WAKINGS (z1Q T_read_waking m_len m_tuple rn) (z7B T_plan_of m_list (z3Z T_is_waking));have dv:=z7G T_divisor;have sh:=z8m T_shifts (vJ T_shifts_of_two m_min dv);have lr:=z1R T_least_round dv;have pr:=z2X T_plan_round lr;have aw:=y0Z T_awake;have lo:=v0 T_lonely_shift sh (y1z T_hole m_range c_LONGEST_ROUND pr aw);have wr:=y0Y T_worst m_range c_MOST_TRIED aw pr sh lo (vZ T_longest_wait m_range m_len);have wx:=y0W (z8k T_worst m_range c_MOST_TRIED O_TooMany pr sh) wr;have na:=z2Y T_next_awake m_min;have ip:=z5b T_is_prime (z2Z T_least_part);have pp:=z8n T_pair_plan O_NoPrimes ip;have gp:=z8o T_grid_plan O_NoPlan;have wo:=z5U T_words_of m_len m_zip m_isinstance m_str O_NoRow D_FORMS (y2A T_fits c_PRIME_FIGURES c_GRID_FIGURES fgM (z7F T_is_name m_len m_all c_LETTERS c_MOST_LETTERS) (z7E T_is_turn c_MOST_FIGURES fgM));have td:=z8l X cl_Desk T_Desk_told m_int wo (z3V T_told_plan m_int rp pp gp) (z7C X T_Desk_plan_by O_NoName) (z1P T_turn_answer m_str) na (vW T_worst_answer wx);have kd:=z5Z O_NoPlan O_NoPaper O_NoPrimes O_TooMany O_NoText O_NoName O_NoRow Z_NoPlan Z_NoPrimes Z_NoName Z_TooMany ndE T_law_kind m_isinstance m_ValueError m_sum m_int;have lt:=z5V cl_Desk O_MeetError O_NoPlan O_NoPrimes O_TooMany O_NoName T_law_told m_isinstance m_str td kd;have sp:=z2W T_shown_plan m_len (vX T_shown_waking m_str);have bg:=z7D T_law_big
  y2n cl_Desk mk_Desk kc_Desk mg_Desk T_law m_sum (z8p X T_Desk___init__) bg (z2a T_law_longer m_list m_str sp wr lt) (z5a T_law_kept (z5W T_law_plan m_range) (z5Y O_NoPlan O_NoPrimes T_law_made m_str (z5X T_law_pair) pp gp kd) sp lt) (z3X T_law_worst m_list m_str lr pr sh wr lt) (z3Y T_law_awake m_list m_str na lt)
end
end SMk84
local macro_rules | `(tactic| walk_at "cdt_one")=>`(tactic| (refine' L2.CPairs.cons ?kk ?hh ?vv ?ll ?cc ?dd ?zz ?ww ?rr;(case kk=>rfl);(case vv=>rfl);(case ll=>k_is);(case cc=>rfl);(case dd=>rfl);(case zz=>decide);(case hh=>rfl);(case ww=>repeat (first|exact Paired.nil|refine Paired.cons ⟨_,rfl⟩ ?_))))
local macro_rules | `(tactic| walk_at "cdt_all")=>`(tactic| (walk_at "cdt_one";walk_at "cdt_one";walk_at "cdt_one";walk_at "cdt_one";walk_at "cdt_one";walk_at "cdt_one";walk_at "cdt_one";walk_at "cdt_one";exact L2.CPairs.nil))
namespace PySem.W.Fast
def tw10004237101216987758:=Nat
def tw10017942483906870538:=Nat
def tw10034278184711885666:=Nat
def tw10122761519808203379:=Nat
def tw10129913276910178859:=Nat
def tw1018192800168944777:=Nat
def tw10185982871677003647:=Nat
def tw10207457785365714630:=Nat
def tw10251050428570576142:=Nat
def tw10267088973873660166:=Nat
def tw10280445398351122759:=Nat
def tw10293143428016682654:=Nat
def tw10294158896460127818:=Nat
def tw1033569722031144282:=Nat
def tw10366350589766947545:=Nat
def tw10391449140490462346:=Nat
def tw10424933382682234311:=Nat
def tw10431051812758161342:=Nat
def tw10440434516612924928:=Nat
def tw10449453382196169455:=Nat
def tw10456007562857438857:=Nat
def tw10458230321071861504:=Nat
def tw10472339548703383930:=Nat
def tw10473801093866263663:=Nat
def tw10496166815226319384:=Nat
def tw10525961777786448109:=Nat
def tw10573899777915080207:=Nat
def tw10601650457796913845:=Nat
def tw10609484562367183462:=Nat
def tw10651598637631665355:=Nat
def tw10656754767861003881:=Nat
def tw10663394594626863281:=Nat
def tw1070830758563208078:=Nat
def tw10740833464530653171:=Nat
def tw10749045060565889370:=Nat
def tw10760046543540688055:=Nat
def tw10777191238026285776:=Nat
def tw10785910118042425927:=Nat
def tw10828290595859323764:=Nat
def tw10833175751818740090:=Nat
def tw10857601125903549324:=Nat
def tw10868746747253320515:=Nat
def tw10882834836088928180:=Nat
def tw10913797599105536200:=Nat
def tw10976838702951576256:=Nat
def tw10999106642000731259:=Nat
def tw11005108629063351495:=Nat
def tw11036602672368594990:=Nat
def tw11066868526159937872:=Nat
def tw11073503411570649571:=Nat
def tw11110808934974934695:=Nat
def tw11121709441026524175:=Nat
def tw11159781379766279843:=Nat
def tw11194413549915429720:=Nat
def tw11200300964585762562:=Nat
def tw11267263466397482543:=Nat
def tw11329198723863921797:=Nat
def tw11363502087790332068:=Nat
def tw11367163802071731141:=Nat
def tw11381165098362509834:=Nat
def tw11413081195073678924:=Nat
def tw11426967687730332482:=Nat
def tw11439134318009749821:=Nat
def tw11439470559499126462:=Nat
def tw11458264622348572796:=Nat
def tw11481130530557620000:=Nat
def tw11518132553773325368:=Nat
def tw11521498343375016731:=Nat
def tw11549473078336398810:=Nat
def tw11604168726944379922:=Nat
def tw11642813414576302672:=Nat
def tw11685351629711215122:=Nat
def tw11693973163265290946:=Nat
def tw11710334166875584209:=Nat
def tw1172689047601307713:=Nat
def tw11734945680782357003:=Nat
def tw11767537413105993076:=Nat
def tw11775255693542321080:=Nat
def tw11779054021630984498:=Nat
def tw11780824745002800566:=Nat
def tw1181854391209613427:=Nat
def tw11847070216255583582:=Nat
def tw11847142715129231282:=Nat
def tw11858671466693856037:=Nat
def tw11870868830429020975:=Nat
def tw11883797279448800773:=Nat
def tw1189359527398419136:=Nat
def tw11939091347856952491:=Nat
def tw11968443954198781475:=Nat
def tw11971960861508178903:=Nat
def tw11976842489504555086:=Nat
def tw11977000134846824172:=Nat
def tw12021092065636695235:=Nat
def tw12028262125243133918:=Nat
def tw12043324172176564709:=Nat
def tw12086163243599967071:=Nat
def tw12135137896456987051:=Nat
def tw12141140184957787509:=Nat
def tw12158454739131103746:=Nat
def tw12162941753586802166:=Nat
def tw12186701024717314201:=Nat
def tw12206618100183531448:=Nat
def tw12288228499563336693:=Nat
def tw12298825744613278544:=Nat
def tw12336569516934915422:=Nat
def tw1245294360083092355:=Nat
def tw12454856734918261768:=Nat
def tw12470215943934562315:=Nat
def tw12470644478281375305:=Nat
def tw12476563099008278582:=Nat
def tw1248317124905523630:=Nat
def tw12528623080244975779:=Nat
def tw12539690398282239930:=Nat
def tw12557830537477598405:=Nat
def tw12566057617202850196:=Nat
def tw12593415008098786782:=Nat
def tw12621207852359041518:=Nat
def tw12636699324006311100:=Nat
def tw12642745365358925070:=Nat
def tw12653614296465607214:=Nat
def tw12685998313884828644:=Nat
def tw12688664111212510226:=Nat
def tw12698393147204075582:=Nat
def tw12701988504761365801:=Nat
def tw1274275031580939472:=Nat
def tw12756042287747053418:=Nat
def tw12813210164558825621:=Nat
def tw12819051189315362154:=Nat
def tw12846805189508765881:=Nat
def tw12884715290463973840:=Nat
def tw12890737795161067042:=Nat
def tw12913079230633069801:=Nat
def tw12924878582677689190:=Nat
def tw12950552307143419005:=Nat
def tw12986710120401268049:=Nat
def tw12992121923838816980:=Nat
def tw12998646286236761111:=Nat
def tw13032938522656024157:=Nat
def tw13061431715027177669:=Nat
def tw13095937697297121967:=Nat
def tw13105922171914224496:=Nat
def tw13153444741659266392:=Nat
def tw13227798875549636221:=Nat
def tw13237306972242914795:=Nat
def tw13318645796562997459:=Nat
def tw13474413868427514628:=Nat
def tw13486303810179190840:=Nat
def tw13503301040357117244:=Nat
def tw13504871525219829266:=Nat
def tw13507522324507658166:=Nat
def tw1352494523808539229:=Nat
def tw135430792615695885:=Nat
def tw13547492757937630132:=Nat
def tw13558606757380672429:=Nat
def tw13574156583251446966:=Nat
def tw13594133332421878469:=Nat
def tw13600494729908220787:=Nat
def tw13630248297688774504:=Nat
def tw13655581598583753676:=Nat
def tw13660292218041265227:=Nat
def tw13664983002214993095:=Nat
def tw13753929590506749457:=Nat
def tw13772402647937698624:=Nat
def tw13797894264789404624:=Nat
def tw13836988514091249272:=Nat
def tw13882944799201602019:=Nat
def tw13904910488848762357:=Nat
def tw13922622946900648507:=Nat
def tw1395529702195241441:=Nat
def tw13984689891700556793:=Nat
def tw14004059219569748000:=Nat
def tw14032890172038752181:=Nat
def tw14064183356413758726:=Nat
def tw14071868304388164932:=Nat
def tw14104236011550516328:=Nat
def tw14115111576332768946:=Nat
def tw14168443293904310826:=Nat
def tw14191130936809383898:=Nat
def tw14203889226389117482:=Nat
def tw14361690938313778466:=Nat
def tw1437400615938471944:=Nat
def tw14390368262199602169:=Nat
def tw14407858161089944003:=Nat
def tw14430165044771101837:=Nat
def tw14463727956294038851:=Nat
def tw14483264857435586102:=Nat
def tw14523779372331823499:=Nat
def tw1455169062540223662:=Nat
def tw14553008350301850582:=Nat
def tw14617016049241325918:=Nat
def tw14621470097990279569:=Nat
def tw14640341568852808700:=Nat
def tw14661561994768796412:=Nat
def tw14695216735675352813:=Nat
def tw14699155468424365115:=Nat
def tw14709991765686535153:=Nat
def tw14721914462409750987:=Nat
def tw14723023963869914646:=Nat
def tw14743993762153896708:=Nat
def tw14831515782775801796:=Nat
def tw14840741740368971061:=Nat
def tw14843698237820767098:=Nat
def tw14877488548469539004:=Nat
def tw14885629779715070109:=Nat
def tw14906295866963265819:=Nat
def tw14908180438121031374:=Nat
def tw14958540786739870613:=Nat
def tw14970021592306489343:=Nat
def tw14992117134165026555:=Nat
def tw14999240659864629969:=Nat
def tw15004913311751686557:=Nat
def tw15010676754635197445:=Nat
def tw15048262891521598603:=Nat
def tw15055401444478224677:=Nat
def tw15197481273831079222:=Nat
def tw15207717374622418069:=Nat
def tw15213521759891167740:=Nat
def tw1524495153173270222:=Nat
def tw15261303140290544816:=Nat
def tw15263292720915751053:=Nat
def tw15291598938204545504:=Nat
def tw15304830542443866754:=Nat
def tw153072559950589232:=Nat
def tw15328908317595875518:=Nat
def tw15351496047173831816:=Nat
def tw15353218184743400476:=Nat
def tw15364788447108720062:=Nat
def tw15447702457104696186:=Nat
def tw15453046846523526666:=Nat
def tw1545947253744741778:=Nat
def tw15485284943876619227:=Nat
def tw15508150431145839395:=Nat
def tw15508367701949596960:=Nat
def tw15524206565521947602:=Nat
def tw15527292382249235701:=Nat
def tw15543588362135349291:=Nat
def tw15568772918143429630:=Nat
def tw15601302197741486197:=Nat
def tw15623144156297525820:=Nat
def tw15661262784917256782:=Nat
def tw15784333268340015752:=Nat
def tw15784439266204740836:=Nat
def tw15807108500856569603:=Nat
def tw15885918281541646654:=Nat
def tw15919209646301685399:=Nat
def tw1601858964268247892:=Nat
def tw16056600741579680424:=Nat
def tw16060566447986264455:=Nat
def tw16070043047901875744:=Nat
def tw16087359876234167755:=Nat
def tw16101853332245668629:=Nat
def tw16124181565178311282:=Nat
def tw16134429114799455122:=Nat
def tw16135605305801501852:=Nat
def tw16163167551870412738:=Nat
def tw16164026584171333489:=Nat
def tw16169944511587647192:=Nat
def tw16187947432192734493:=Nat
def tw1618834218987629234:=Nat
def tw16191359428644136348:=Nat
def tw16199671051506524693:=Nat
def tw16243847191152989012:=Nat
def tw16245531008578474637:=Nat
def tw16252754653229321665:=Nat
def tw16256786554423158782:=Nat
def tw16259689930126750865:=Nat
def tw16274335304874930059:=Nat
def tw16286928156804296397:=Nat
def tw16294621678916568434:=Nat
def tw16336755476024480702:=Nat
def tw16378932472000933616:=Nat
def tw16406100665905150117:=Nat
def tw1645549281864955632:=Nat
def tw16463239549622715597:=Nat
def tw16468599180750978446:=Nat
def tw16477090818658243534:=Nat
def tw16488674439615862402:=Nat
def tw1650765215031856069:=Nat
def tw16513928281089195084:=Nat
def tw16550276978626414277:=Nat
def tw16604710222030002695:=Nat
def tw16610931617141222092:=Nat
def tw1669965040095561463:=Nat
def tw16733401609749282739:=Nat
def tw16776712958172484897:=Nat
def tw16781571384398489904:=Nat
def tw16808147813776090362:=Nat
def tw16825946971404690402:=Nat
def tw16837362205238070867:=Nat
def tw16837896352259224697:=Nat
def tw1683864511399830979:=Nat
def tw16867618722849659424:=Nat
def tw16907082882412968966:=Nat
def tw16916145062724839822:=Nat
def tw1692064059195166394:=Nat
def tw16928243066034316079:=Nat
def tw16963461327098350260:=Nat
def tw16975471845312084945:=Nat
def tw16987014462760213453:=Nat
def tw16991937656607432867:=Nat
def tw17002467367701284894:=Nat
def tw17004510230817358522:=Nat
def tw17054324660904494829:=Nat
def tw17076452662602146760:=Nat
def tw17094373983932645954:=Nat
def tw17105605618035092970:=Nat
def tw17127695890663129847:=Nat
def tw17155186881333798256:=Nat
def tw17180372494507303010:=Nat
def tw17192755833029531481:=Nat
def tw17205573698015786366:=Nat
def tw17287982933678221361:=Nat
def tw17310323589263138100:=Nat
def tw17316737963410169852:=Nat
def tw17348874135306643654:=Nat
def tw17512202414071199600:=Nat
def tw17521445454866627125:=Nat
def tw17553191118326068674:=Nat
def tw17697645191691313812:=Nat
def tw17703600573982057225:=Nat
def tw17711601747284109339:=Nat
def tw17714824615110315524:=Nat
def tw17724978730668802324:=Nat
def tw17737858217201105851:=Nat
def tw17739885853732944768:=Nat
def tw17797377146691497115:=Nat
def tw17798701525870796232:=Nat
def tw17809838201650417942:=Nat
def tw1781816075882270865:=Nat
def tw1783036298526751512:=Nat
def tw17836256402560475514:=Nat
def tw17854337053724434141:=Nat
def tw17872816439684401563:=Nat
def tw17890878334466228998:=Nat
def tw17904592515412889337:=Nat
def tw17953837852332952739:=Nat
def tw17970958462212116895:=Nat
def tw18010618360660669327:=Nat
def tw18045961134718987535:=Nat
def tw1804902800951987167:=Nat
def tw18053718805224379323:=Nat
def tw18071750124660003051:=Nat
def tw18090066743448769179:=Nat
def tw18090681071124649524:=Nat
def tw18092730143371268559:=Nat
def tw18095606567083423348:=Nat
def tw18127197118018419172:=Nat
def tw18138875463465665686:=Nat
def tw1815388920428108768:=Nat
def tw18166372469120777147:=Nat
def tw18176228604159322240:=Nat
def tw18186194880822632405:=Nat
def tw18204041074389745797:=Nat
def tw18210390275284139974:=Nat
def tw18222737734548672179:=Nat
def tw18253425045573366174:=Nat
def tw18261645302012247281:=Nat
def tw18349461169450906721:=Nat
def tw18349718774707510551:=Nat
def tw18379305707429589414:=Nat
def tw18396111976432813082:=Nat
def tw1841945866673798049:=Nat
def tw18420073981435633222:=Nat
def tw1943556011120804294:=Nat
def tw1953605377928726317:=Nat
def tw1956242570853519605:=Nat
def tw1976668844157695918:=Nat
def tw1994118496701053231:=Nat
def tw2010320603893259708:=Nat
def tw2029506655020050599:=Nat
def tw2086801085342405991:=Nat
def tw2102867205723181087:=Nat
def tw2140114405419625405:=Nat
def tw2161410774616366976:=Nat
def tw2178445684806677906:=Nat
def tw2206862651216678588:=Nat
def tw2243509163868526942:=Nat
def tw2274630147683694832:=Nat
def tw2320655612548730421:=Nat
def tw2368512791895095460:=Nat
def tw2375550563508766001:=Nat
def tw2398660468991936832:=Nat
def tw2426261206303361390:=Nat
def tw2442831581007753292:=Nat
def tw2490914269803796879:=Nat
def tw2498855930559291879:=Nat
def tw2500875662445273994:=Nat
def tw250662157287907370:=Nat
def tw2520594534022627888:=Nat
def tw2541254119628723847:=Nat
def tw2542824130847499843:=Nat
def tw2551878817808499218:=Nat
def tw2560142484242636512:=Nat
def tw2650993279438442331:=Nat
def tw2658014998873379811:=Nat
def tw2668398224760595024:=Nat
def tw2671966580170816535:=Nat
def tw2683095933590739660:=Nat
def tw269063319607604153:=Nat
def tw2705653452832219824:=Nat
def tw2707742582976499929:=Nat
def tw2768656486162148010:=Nat
def tw2819022020919943777:=Nat
def tw2830396519190186548:=Nat
def tw2836797461840568393:=Nat
def tw2870042022068646441:=Nat
def tw2871889041245921032:=Nat
def tw288208109936194830:=Nat
def tw2886287756632993286:=Nat
def tw2944544258741857844:=Nat
def tw2952667115930778909:=Nat
def tw2972989554937944577:=Nat
def tw3006100634226912552:=Nat
def tw3027249487535999610:=Nat
def tw3049548430063526166:=Nat
def tw3054556785569011427:=Nat
def tw3069222587383848690:=Nat
def tw3103656340082504764:=Nat
def tw3111274657635581344:=Nat
def tw3123266466981410473:=Nat
def tw3156212762167770533:=Nat
def tw3163590978001905718:=Nat
def tw3166079519435207358:=Nat
def tw3176577818396908611:=Nat
def tw3182927532754473038:=Nat
def tw3185446257754453392:=Nat
def tw3196114191552027636:=Nat
def tw32039340216396625:=Nat
def tw332730812858557442:=Nat
def tw3351178794409082437:=Nat
def tw3383341333169293420:=Nat
def tw3447535431772276637:=Nat
def tw3451374622086271663:=Nat
def tw3453728678309089486:=Nat
def tw3458919426187496812:=Nat
def tw3466741827687063248:=Nat
def tw3510446209274811957:=Nat
def tw3517269965385931624:=Nat
def tw3545166906589774097:=Nat
def tw3559660542128994906:=Nat
def tw3596891148063156119:=Nat
def tw3616171894058459263:=Nat
def tw3638627986188000947:=Nat
def tw3673947586894016540:=Nat
def tw3687939995182175756:=Nat
def tw3743694837134765054:=Nat
def tw3783440513582047161:=Nat
def tw3787483541885034826:=Nat
def tw3811145967559877792:=Nat
def tw3821077483967659758:=Nat
def tw3845998867495463645:=Nat
def tw3846887474598516153:=Nat
def tw3895782385573313756:=Nat
def tw3915267878472830063:=Nat
def tw3954242959815866024:=Nat
def tw3971579068131495345:=Nat
def tw3986771782231200458:=Nat
def tw3994112295010339411:=Nat
def tw4016193936723895179:=Nat
def tw4046818854160972893:=Nat
def tw406071791850149058:=Nat
def tw4077834626764969025:=Nat
def tw407922959294900803:=Nat
def tw4090898824219268012:=Nat
def tw4105900987426448347:=Nat
def tw4139590734679041740:=Nat
def tw4153851829391436250:=Nat
def tw4158702790310578086:=Nat
def tw4162351176100562859:=Nat
def tw4166473942709727251:=Nat
def tw4173139821311202567:=Nat
def tw4256575347028239968:=Nat
def tw4291404406351304168:=Nat
def tw4364223022637020213:=Nat
def tw4372498350993436152:=Nat
def tw4433818864653653950:=Nat
def tw4460487161389811197:=Nat
def tw446163611132549038:=Nat
def tw4475706735136537182:=Nat
def tw4489043863778556447:=Nat
def tw4499371283902869476:=Nat
def tw450106364488061707:=Nat
def tw4525768369739727314:=Nat
def tw4530807472023661056:=Nat
def tw4635775130848890067:=Nat
def tw463797223049989215:=Nat
def tw465413620088209894:=Nat
def tw4750960784744287479:=Nat
def tw4776712458220957822:=Nat
def tw4788443382915485797:=Nat
def tw4789614481567821747:=Nat
def tw4798861981776221036:=Nat
def tw482495813462067119:=Nat
def tw4835629657125504002:=Nat
def tw4848574165544085401:=Nat
def tw4866231466967029708:=Nat
def tw4893085900165456961:=Nat
def tw4918928512205556509:=Nat
def tw4918954020281318833:=Nat
def tw4995400712259380255:=Nat
def tw5042878572656678550:=Nat
def tw508535386422020681:=Nat
def tw5099375506759545412:=Nat
def tw5116552189749439925:=Nat
def tw5146990283985872658:=Nat
def tw5157940619117112050:=Nat
def tw516591164190590191:=Nat
def tw51682558565668725:=Nat
def tw5176875775791828965:=Nat
def tw5187689129846629148:=Nat
def tw5212927784969024969:=Nat
def tw5216311608903172639:=Nat
def tw5231347365248098331:=Nat
def tw5281071466671600543:=Nat
def tw5347811153223673718:=Nat
def tw5376644441976967939:=Nat
def tw5392898166683377908:=Nat
def tw5478502257084803864:=Nat
def tw5509118307485235738:=Nat
def tw5511049506205852614:=Nat
def tw5594392874606665475:=Nat
def tw5634151543844647495:=Nat
def tw5721405437757628598:=Nat
def tw5723614705819522712:=Nat
def tw5725297185680152973:=Nat
def tw57570876568446408:=Nat
def tw5759310744181390599:=Nat
def tw5760654860311465171:=Nat
def tw5804219833084993859:=Nat
def tw5848514920336999184:=Nat
def tw5849156996650723547:=Nat
def tw5853246966247252521:=Nat
def tw5859643357903160408:=Nat
def tw5873928177355556453:=Nat
def tw5885086283910593280:=Nat
def tw5920527569875963991:=Nat
def tw592067018716427037:=Nat
def tw5926878641070201698:=Nat
def tw5967686986505093213:=Nat
def tw6031537258912316538:=Nat
def tw6037855844461427511:=Nat
def tw6111335620925361839:=Nat
def tw6117979098247368694:=Nat
def tw6145391679341674195:=Nat
def tw6151204423882694573:=Nat
def tw6156135004080900323:=Nat
def tw6167650142976727793:=Nat
def tw6176568098159116988:=Nat
def tw6178011472895437603:=Nat
def tw6178619220128063487:=Nat
def tw6194666750414528609:=Nat
def tw6210679871841644908:=Nat
def tw6210901517599379649:=Nat
def tw6290344513964323982:=Nat
def tw6298915433490736080:=Nat
def tw6359805897090515562:=Nat
def tw6368194358086074144:=Nat
def tw6389354861303839420:=Nat
def tw6392130577989213651:=Nat
def tw6421640629815968666:=Nat
def tw6455067605483395476:=Nat
def tw648681392896838193:=Nat
def tw6517278167307003671:=Nat
def tw652267733237627921:=Nat
def tw6558646895355757026:=Nat
def tw6673681861041586127:=Nat
def tw667480559143680089:=Nat
def tw6707647210254980580:=Nat
def tw6710039849062988265:=Nat
def tw6718773032489265447:=Nat
def tw6724686689614033152:=Nat
def tw6766641813099975363:=Nat
def tw6777956508541180129:=Nat
def tw6784742997909264896:=Nat
def tw6860146139053407370:=Nat
def tw6893311950852815946:=Nat
def tw6920815494672615835:=Nat
def tw6927703950267767570:=Nat
def tw694020085945184866:=Nat
def tw6949917657875121538:=Nat
def tw6984614335834978838:=Nat
def tw7009321812613985194:=Nat
def tw7012870970534038650:=Nat
def tw7017396698123766196:=Nat
def tw7044101631859079451:=Nat
def tw7047035210892729704:=Nat
def tw7052526001954118661:=Nat
def tw7061675140687171975:=Nat
def tw7075194349547099870:=Nat
def tw7135576100521564291:=Nat
def tw7149955626321056680:=Nat
def tw7201847772358580568:=Nat
def tw7214562553743029324:=Nat
def tw7245854496416525599:=Nat
def tw7273449172811184661:=Nat
def tw7315342748086432328:=Nat
def tw7325615327765198938:=Nat
def tw7354539695336336318:=Nat
def tw7362339762281641876:=Nat
def tw7368406435443203476:=Nat
def tw7372773039389987083:=Nat
def tw73862062633669035:=Nat
def tw7396328990127518638:=Nat
def tw7419362849619581998:=Nat
def tw7452766033722433859:=Nat
def tw748192103699897034:=Nat
def tw7485997244560490799:=Nat
def tw7486710669458674853:=Nat
def tw7501967399457869283:=Nat
def tw7556766950586879662:=Nat
def tw7556875603715307791:=Nat
def tw7660587211192291779:=Nat
def tw767214281109795180:=Nat
def tw7703634214066013627:=Nat
def tw7714439411243974138:=Nat
def tw7756506516891632943:=Nat
def tw7828426411193445225:=Nat
def tw7849221156513900067:=Nat
def tw7850407886123822547:=Nat
def tw7862006700194422268:=Nat
def tw7874070099238285109:=Nat
def tw789998355140999205:=Nat
def tw7908177207566605181:=Nat
def tw791076761581722575:=Nat
def tw7977001082111338376:=Nat
def tw8001320975593983714:=Nat
def tw8068394069455150680:=Nat
def tw8069943844295576471:=Nat
def tw8084443638818994457:=Nat
def tw8091461269669034647:=Nat
def tw8127031873746978805:=Nat
def tw8130053569824193918:=Nat
def tw8136520244905173475:=Nat
def tw8179939129998461760:=Nat
def tw8195447795325680928:=Nat
def tw8212095693695978100:=Nat
def tw8212938287102647731:=Nat
def tw8245478546332034994:=Nat
def tw8246170107763378679:=Nat
def tw8282550567196082621:=Nat
def tw8285620222657105621:=Nat
def tw8330797114914559116:=Nat
def tw8354975946323705064:=Nat
def tw8358758374043665996:=Nat
def tw8366955524570839627:=Nat
def tw8421375367726749119:=Nat
def tw8462329478421689657:=Nat
def tw8493881785156290287:=Nat
def tw8498933062035889068:=Nat
def tw8503629274613782759:=Nat
def tw8531435874689641581:=Nat
def tw858561018866118419:=Nat
def tw8586990961206733613:=Nat
def tw8588279117350195002:=Nat
def tw8603419879120025786:=Nat
def tw8637105426266717419:=Nat
def tw8639535627222680604:=Nat
def tw8648087954476507760:=Nat
def tw8686226515428275575:=Nat
def tw86915850467953233:=Nat
def tw8696338289484720175:=Nat
def tw8735539414450449091:=Nat
def tw8747725684254661237:=Nat
def tw8758139731531928427:=Nat
def tw8775388731669940699:=Nat
def tw8793911592572128427:=Nat
def tw8795574271766199621:=Nat
def tw8803713969721193724:=Nat
def tw8807192093965690177:=Nat
def tw8817498497681326737:=Nat
def tw8821698604267280980:=Nat
def tw8827329038656975353:=Nat
def tw8828548844905048622:=Nat
def tw8831594043209316765:=Nat
def tw887001777777188006:=Nat
def tw8904305828883296162:=Nat
def tw8904764712622416741:=Nat
def tw8932007951686071886:=Nat
def tw8936086235887940804:=Nat
def tw8950059091445138611:=Nat
def tw8977541934543140255:=Nat
def tw90154785428482742:=Nat
def tw9020658648098672030:=Nat
def tw9091078773343828640:=Nat
def tw9172463346237346816:=Nat
def tw9196666695285009563:=Nat
def tw922349154283278963:=Nat
def tw9228159835808685622:=Nat
def tw9306239856333846988:=Nat
def tw9321986275787839340:=Nat
def tw9322970412086062729:=Nat
def tw9372007633515966218:=Nat
def tw9381419835445081746:=Nat
def tw9402314100417942573:=Nat
def tw9427360048890892871:=Nat
def tw9475568119441694133:=Nat
def tw9503968977668222186:=Nat
def tw9534149331179916134:=Nat
def tw9563486748504058075:=Nat
def tw9564875713093371258:=Nat
def tw9589786698877296272:=Nat
def tw9648628821279943361:=Nat
def tw9678222257051214459:=Nat
def tw9709231430099111356:=Nat
def tw9773941369285208535:=Nat
def tw9787930799957491302:=Nat
def tw9789798648504855777:=Nat
def tw9798861963103554915:=Nat
def tw9819457872718727337:=Nat
def tw9842377081389774075:=Nat
def tw9888252004008731751:=Nat
def tw9921348785433007789:=Nat
def tw9965954011142736844:=Nat
def tw9968247869085462846:=Nat
def tw9974891326913843335:=Nat
def tw9982115752388881864:=Nat
end PySem.W.Fast
set_option maxRecDepth 100000 in
set_option maxHeartbeats 0 in
theorem PySem.Challenge.cw_shiftmeet_k84_worst_pair_grid_holds : PySem.Challenge.rw_shiftmeet_k84_worst_pair_grid.Holds := by
  w_on;o_law;k_head;(case hw=>w_witness2)
  k_fill
  refine L2.z8d (l:=PySem.Challenge.rw_shiftmeet_k84_worst_pair_grid) (k:=11) (sp:=SMk84.sp_law) rfl rfl ⟨rfl,by decide,by decide⟩ (fun w h Y=>PySem.W.kIn_of Y) ?F SMk84.sp_start
  case F=>
    intro w mg fa h KX G hmg;refine' SMk84.fin KX G hmg (L2.yE KX G ?a0 ?l0 ?c0 ?k0) (L2.yE KX G ?a1 ?l1 ?c1 ?k1) (L2.yE KX G ?a2 ?l2 ?c2 ?k2) (L2.yE KX G ?a3 ?l3 ?c3 ?k3) (L2.yE KX G ?a4 ?l4 ?c4 ?k4) (L2.yE KX G ?a5 ?l5 ?c5 ?k5) (L2.yE KX G ?a6 ?l6 ?c6 ?k6) (L2.yE KX G ?a7 ?l7 ?c7 ?k7) (L2.yE KX G ?a8 ?l8 ?c8 ?k8) (L2.yE KX G ?a9 ?l9 ?c9 ?k9) (L2.yE KX G ?a10 ?l10 ?c10 ?k10) (L2.yE KX G ?a11 ?l11 ?c11 ?k11) (L2.yE KX G ?a12 ?l12 ?c12 ?k12) (L2.yE KX G ?a13 ?l13 ?c13 ?k13) (L2.yE KX G ?a14 ?l14 ?c14 ?k14) (L2.yE KX G ?a15 ?l15 ?c15 ?k15) (L2.yE KX G ?a16 ?l16 ?c16 ?k16) (L2.yE KX G ?a17 ?l17 ?c17 ?k17) (L2.yE KX G ?a18 ?l18 ?c18 ?k18) (L2.yE KX G ?a19 ?l19 ?c19 ?k19) (L2.yE KX G ?a20 ?l20 ?c20 ?k20) (L2.yE KX G ?a21 ?l21 ?c21 ?k21) (L2.yE KX G ?a22 ?l22 ?c22 ?k22) (L2.yE KX G ?a23 ?l23 ?c23 ?k23) (L2.yE KX G ?a24 ?l24 ?c24 ?k24) (L2.yE KX G ?a25 ?l25 ?c25 ?k25) (L2.yE KX G ?a26 ?l26 ?c26 ?k26) (L2.yE KX G ?a27 ?l27 ?c27 ?k27) (L2.yE KX G ?a28 ?l28 ?c28 ?k28) (L2.yE KX G ?a29 ?l29 ?c29 ?k29) (L2.yE KX G ?a30 ?l30 ?c30 ?k30) (L2.yE KX G ?a31 ?l31 ?c31 ?k31) (L2.yE KX G ?a32 ?l32 ?c32 ?k32) (L2.yE KX G ?a33 ?l33 ?c33 ?k33) (L2.yE KX G ?a34 ?l34 ?c34 ?k34) (L2.yE KX G ?a35 ?l35 ?c35 ?k35) (L2.yE KX G ?a36 ?l36 ?c36 ?k36) (L2.yE KX G ?a37 ?l37 ?c37 ?k37) (L2.yE KX G ?a38 ?l38 ?c38 ?k38) (L2.yE KX G ?a39 ?l39 ?c39 ?k39) (L2.yE KX G ?a40 ?l40 ?c40 ?k40) (PySem.W.mg_none_of KX G ?z0) (PySem.W.mg_none_of KX G ?z1) (PySem.W.mg_none_of KX G ?z2) (PySem.W.mg_none_of KX G ?z3) (PySem.W.mg_none_of KX G ?z4) (PySem.W.mg_none_of KX G ?z5) (PySem.W.mg_none_of KX G ?z6) (PySem.W.mg_none_of KX G ?z7) (PySem.W.mg_none_of KX G ?z8) (PySem.W.mg_none_of KX G ?z9) (PySem.W.mg_none_of KX G ?z10) (PySem.W.mg_none_of KX G ?z11) (L2.y2I KX G ?de0 ?dl0 ?dm0 ?dx0 ?dd0 ?dc0 ?dn0) (L2.z3e KX G ?q1) (L2.z3e KX G ?q2) (L2.z3e KX G ?q3) (L2.z3e KX G ?q4) (L2.z3e KX G ?q5) (L2.z3e KX G ?q6) (L2.z3e KX G ?q7) (L2.y2H KX G ?q8) (L2.y2H KX G ?q9) (L2.z2H KX G ?ea0 ?el0 ?ex0) (L2.z2H KX G ?ea1 ?el1 ?ex1) (L2.z2H KX G ?ea2 ?el2 ?ex2) (L2.z2H KX G ?ea3 ?el3 ?ex3) (L2.z2H KX G ?ea4 ?el4 ?ex4) (L2.z2H KX G ?ea5 ?el5 ?ex5) (L2.z2H KX G ?ea6 ?el6 ?ex6) (L2.z2H KX G ?ea7 ?el7 ?ex7) ⟨?oa0,?ob0,?oc0⟩ ⟨?oa1,?ob1,?oc1⟩ ⟨?oa2,?ob2,?oc2⟩ ⟨?oa3,?ob3,?oc3⟩ ?nd ⟨?pg0,?hd0,?po0,?sa0⟩ ?nf0_0 ?mk0 ?kc0 (PySem.W.mg_of KX G ?aC0) (L2.z9g ?ma0_0 ?mi0_0 ?ml0_0 ?mc0_0 ?mp0_0) (L2.z9g ?ma0_1 ?mi0_1 ?ml0_1 ?mc0_1 ?mp0_1) (L2.z9g ?ma0_2 ?mi0_2 ?ml0_2 ?mc0_2 ?mp0_2)
    (case aC0=>k_is)
    (case a0=>k_is);(case l0=>k_is);(case c0=>k_is);(case k0=>k_is)
    (case a1=>k_is);(case l1=>k_is);(case c1=>k_is);(case k1=>k_is)
    (case a2=>k_is);(case l2=>k_is);(case c2=>k_is);(case k2=>k_is)
    (case a3=>k_is);(case l3=>k_is);(case c3=>k_is);(case k3=>k_is)
    (case a4=>k_is);(case l4=>k_is);(case c4=>k_is);(case k4=>k_is)
    (case a5=>k_is);(case l5=>k_is);(case c5=>k_is);(case k5=>k_is)
    (case a6=>k_is);(case l6=>k_is);(case c6=>k_is);(case k6=>k_is)
    (case a7=>k_is);(case l7=>k_is);(case c7=>k_is);(case k7=>k_is)
    (case a8=>k_is);(case l8=>k_is);(case c8=>k_is);(case k8=>k_is)
    (case a9=>k_is);(case l9=>k_is);(case c9=>k_is);(case k9=>k_is)
    (case a10=>k_is);(case l10=>k_is);(case c10=>k_is);(case k10=>k_is)
    (case a11=>k_is);(case l11=>k_is);(case c11=>k_is);(case k11=>k_is)
    (case a12=>k_is);(case l12=>k_is);(case c12=>k_is);(case k12=>k_is)
    (case a13=>k_is);(case l13=>k_is);(case c13=>k_is);(case k13=>k_is)
    (case a14=>k_is);(case l14=>k_is);(case c14=>k_is);(case k14=>k_is)
    (case a15=>k_is);(case l15=>k_is);(case c15=>k_is);(case k15=>k_is)
    (case a16=>k_is);(case l16=>k_is);(case c16=>k_is);(case k16=>k_is)
    (case a17=>k_is);(case l17=>k_is);(case c17=>k_is);(case k17=>k_is)
    (case a18=>k_is);(case l18=>k_is);(case c18=>k_is);(case k18=>k_is)
    (case a19=>k_is);(case l19=>k_is);(case c19=>k_is);(case k19=>k_is)
    (case a20=>k_is);(case l20=>k_is);(case c20=>k_is);(case k20=>k_is)
    (case a21=>k_is);(case l21=>k_is);(case c21=>k_is);(case k21=>k_is)
    (case a22=>k_is);(case l22=>k_is);(case c22=>k_is);(case k22=>k_is)
    (case a23=>k_is);(case l23=>k_is);(case c23=>k_is);(case k23=>k_is)
    (case a24=>k_is);(case l24=>k_is);(case c24=>k_is);(case k24=>k_is)
    (case a25=>k_is);(case l25=>k_is);(case c25=>k_is);(case k25=>k_is)
    (case a26=>k_is);(case l26=>k_is);(case c26=>k_is);(case k26=>k_is)
    (case a27=>k_is);(case l27=>k_is);(case c27=>k_is);(case k27=>k_is)
    (case a28=>k_is);(case l28=>k_is);(case c28=>k_is);(case k28=>k_is)
    (case a29=>k_is);(case l29=>k_is);(case c29=>k_is);(case k29=>k_is)
    (case a30=>k_is);(case l30=>k_is);(case c30=>k_is);(case k30=>k_is)
    (case a31=>k_is);(case l31=>k_is);(case c31=>k_is);(case k31=>k_is)
    (case a32=>k_is);(case l32=>k_is);(case c32=>k_is);(case k32=>k_is)
    (case a33=>k_is);(case l33=>k_is);(case c33=>k_is);(case k33=>k_is)
    (case a34=>k_is);(case l34=>k_is);(case c34=>k_is);(case k34=>k_is)
    (case a35=>k_is);(case l35=>k_is);(case c35=>k_is);(case k35=>k_is)
    (case a36=>k_is);(case l36=>k_is);(case c36=>k_is);(case k36=>k_is)
    (case a37=>k_is);(case l37=>k_is);(case c37=>k_is);(case k37=>k_is)
    (case a38=>k_is);(case l38=>k_is);(case c38=>k_is);(case k38=>k_is)
    (case a39=>k_is);(case l39=>k_is);(case c39=>k_is);(case k39=>k_is)
    (case a40=>k_is);(case l40=>k_is);(case c40=>k_is);(case k40=>k_is)
    (case z0=>k_is)
    (case z1=>k_is)
    (case z2=>k_is)
    (case z3=>k_is)
    (case z4=>k_is)
    (case z5=>k_is)
    (case z6=>k_is)
    (case z7=>k_is)
    (case z8=>k_is)
    (case z9=>k_is)
    (case z10=>k_is)
    (case z11=>k_is)
    (case de0=>k_is);(case dl0=>k_is);(case dm0=>decide);(case dx0=>exact⟨rfl,rfl,rfl⟩);(case dd0=>rfl);(case dc0=>walk_at "cdt_all");(case dn0=>decide +kernel)
    (case q1=>k_is)
    (case q2=>k_is)
    (case q3=>k_is)
    (case q4=>k_is)
    (case q5=>k_is)
    (case q6=>k_is)
    (case q7=>k_is)
    (case q8=>k_is)
    (case q9=>k_is)
    (case ea0=>k_is);(case el0=>k_is);(case ex0=>k_exc)
    (case ea1=>k_is);(case el1=>k_is);(case ex1=>k_exc)
    (case ea2=>k_is);(case el2=>k_is);(case ex2=>k_exc)
    (case ea3=>k_is);(case el3=>k_is);(case ex3=>k_exc)
    (case ea4=>k_is);(case el4=>k_is);(case ex4=>k_exc)
    (case ea5=>k_is);(case el5=>k_is);(case ex5=>k_exc)
    (case ea6=>k_is);(case el6=>k_is);(case ex6=>k_exc)
    (case ea7=>k_is);(case el7=>k_is);(case ex7=>k_exc)
    (case oa0=>k_is);(case ob0=>k_is);(case oc0=>k_is)
    (case oa1=>k_is);(case ob1=>k_is);(case oc1=>k_is)
    (case oa2=>k_is);(case ob2=>k_is);(case oc2=>k_is)
    (case oa3=>k_is);(case ob3=>k_is);(case oc3=>k_is)
    (case nd=>decide +kernel)
    (case pg0=>k_is);(case hd0=>k_is);(case po0=>k_is);(case sa0=>k_is)
    (case nf0_0=>(unfold L2.NoAttr;k_is))
    (case mk0=>k_is);(case kc0=>k_is)
    (case ma0_0=>k_is);(case mi0_0=>k_is);(case ml0_0=>k_is);(case mc0_0=>k_is);(case mp0_0=>k_is)
    (case ma0_1=>k_is);(case mi0_1=>k_is);(case ml0_1=>k_is);(case mc0_1=>k_is);(case mp0_1=>k_is)
    (case ma0_2=>k_is);(case mi0_2=>k_is);(case ml0_2=>k_is);(case mc0_2=>k_is);(case mp0_2=>k_is)

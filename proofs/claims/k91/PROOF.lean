import PyProof.Rows.All
import Wide.All
import OpenK.AllK
import Wide.FinOn
import PyProof.EqAt
import PyProof.EqKinds
import PyProof.TupleCall
import Lean
import PySem.Challenge.RW_shiftmeet_k91_whole_sure_or_lonely
set_option Elab.async false
set_option linter.all false
set_option maxRecDepth 100000
namespace L2
open PySem PySem.Spec PyProof.Rows
noncomputable abbrev Key:=Sum Int Str
noncomputable def z7T:Key->Value->Bool
 | .inl k,v=>Value.isInt k v
 | .inr x,v=>Value.isStrOf x v
noncomputable def y6s (w:World):Key->Int
 | .inl k=>hashInt k
 | .inr x=>hashStr w x
theorem yQ:∀ {k:Key} {v:Value},z7T k v=true->(∃i t,k=Sum.inl i/\v=Value.int i t)∨(∃x t,k=Sum.inr x/\v=Value.str x t)
 | .inl i,v,h=>by
  obtain⟨t,e⟩:=Value.isInt_shape (k:=i) (v:=v) h;exact .inl ⟨i,t,rfl,e⟩
 | .inr x,v,h=>by
  obtain⟨t,e⟩:=Value.isStrOf_shape (x:=x) (v:=v) h;exact .inr ⟨x,t,rfl,e⟩
theorem z9P (i:Int) (t:Tok):z7T (.inl i) (.int i t)=true:=by simp [z7T,Value.isInt]
theorem z9O (x:Str) (t:Tok):z7T (.inr x) (.str x t)=true:=by simp [z7T,Value.isStrOf]
theorem y5A (a b:Int):decide ((Sum.inl a:Key)=Sum.inl b)=(a == b):=by
 by_cases e:a=b
 ·subst e;simp
 ·have h:¬(Sum.inl a:Key)=Sum.inl b:=fun q=>e (Sum.inl.inj q);rw[decide_eq_false h];exact (beq_eq_false_iff_ne.mpr e).symm
theorem y4x (a b:Str):decide ((Sum.inr a:Key)=Sum.inr b)=decide (a=b):=by
 by_cases e:a=b
 ·subst e;simp
 ·have h:¬(Sum.inr a:Key)=Sum.inr b:=fun q=>e (Sum.inr.inj q);rw[decide_eq_false h,decide_eq_false e]
theorem y4z (a:Int) (b:Str):decide ((Sum.inl a:Key)=Sum.inr b)=false:=decide_eq_false (fun q=>nomatch q)
theorem y4y (a:Str) (b:Int):decide ((Sum.inr a:Key)=Sum.inl b)=false:=decide_eq_false (fun q=>nomatch q)
noncomputable def yP (prog:Program) (w:World):PySem.KeyKind prog w Key where
 is:=z7T
 hash:=y6s w
 inj:=fun v a b ha hb=>by
  rcases yQ ha with⟨i,t,rfl,rfl⟩|⟨x,t,rfl,rfl⟩
  ·rcases yQ hb with⟨j,u,rfl,e⟩|⟨y,u,rfl,e⟩
   ·injection e with e1 _;rw[e1]
   ·exact nomatch e
  ·rcases yQ hb with⟨j,u,rfl,e⟩|⟨y,u,rfl,e⟩
   ·exact nomatch e
   ·injection e with e1 _;rw[e1]
 byValue:=fun k v h=>by
  rcases yQ h with⟨i,t,rfl,rfl⟩|⟨x,t,rfl,rfl⟩ <;> rfl
 pyHash:=fun hv h=>by
  rcases yQ hv with⟨i,t,rfl,rfl⟩|⟨x,t,rfl,rfl⟩
  ·exact wpAny_pyHash_int h
  ·exact wpAny_pyHash_str h
 eqBool:=fun hu hv h=>by
  rcases yQ hu with⟨i,t,rfl,rfl⟩|⟨x,t,rfl,rfl⟩
  ·rcases yQ hv with⟨j,u,rfl,rfl⟩|⟨y,u,rfl,rfl⟩
   ·rw[y5A] at h;exact wpAny_eqBool_int h
   ·rw[y4z] at h;exact SeqAt.EqAt.int_str i t y u _ _ _ _ h
  ·rcases yQ hv with⟨j,u,rfl,rfl⟩|⟨y,u,rfl,rfl⟩
   ·rw[y4y] at h;exact SeqAt.EqAt.str_int x t j u _ _ _ _ h
   ·rw[y4x] at h;exact wpAny_eqBool_str h
 «strs»:=fun k x t v h=>by
  rcases yQ h with⟨i,u,rfl,e⟩|⟨y,u,rfl,e⟩
  ·exact nomatch e
  ·injection e with e1 _;subst e1;cases v <;> rfl
theorem z4z (prog:Program) (w:World) (i:Int) (t:Tok):(yP prog w).is (.inl i) (.int i t)=true:=z9P i t
theorem vc (prog:Program) (w:World) (x:Str) (t:Tok):(yP prog w).is (.inr x) (.str x t)=true:=z9O x t
inductive V where
 | non|bl (b:Bool)|int (i:Int)|str (x:Str)|byt (b:Array UInt8)|flt (b:UInt64)|ref (a:Addr)|ty (n:String)
 deriving DecidableEq
noncomputable def RelV:V->Value->Prop
 | .non,u=>u=Value.none
 | .bl b,u=>u=Value.bool b
 | .int i,u=>∃t,u=Value.int i t
 | .str x,u=>∃t,u=Value.str x t
 | .byt b,u=>∃t,u=Value.bytes b t
 | .flt b,u=>∃t,u=Value.float b t
 | .ref a,u=>u=Value.ref a
 | .ty n,u=>u=Value.type n
noncomputable abbrev Vals:List V->List Value->Prop:=Paired RelV
theorem Vals.length {xs:List V} {us:List Value} (r:Vals xs us):xs.length=us.length:=Paired.length r
theorem Vals.get:∀ {xs:List V} {us:List Value} {i:Nat} {x:V},Vals xs us->xs[i]?=some x->∃u,us[i]?=some u/\RelV x u
 | _,_,_,_,.nil,e=>by simp at e
 | _,_,0,_,.cons r _,e=>by simp at e;subst e;exact⟨_,rfl,r⟩
 | _,_,i+1,x,.cons _ t,e=>by
  obtain⟨u,h1,h2⟩:=Vals.get (i:=i) (x:=x) t (by simpa using e);exact⟨u,by simpa using h1,h2⟩
theorem Vals.set {x:V} {u:Value} (r:RelV x u):∀ {xs:List V} {us:List Value} (i:Nat),Vals xs us->Vals (xs.set i x) (us.set i u)
 | _,_,_,.nil=>.nil
 | _,_,0,.cons _ t=>.cons r t
 | _,_,i+1,.cons q t=>.cons q (Vals.set r i t)
theorem Vals.append:∀ {xs ys:List V} {us ws:List Value},Vals xs us->Vals ys ws->Vals (xs++ys) (us++ws)
 | _,_,_,_,.nil,s=>s
 | _,_,_,_,.cons r t,s=>.cons r (Vals.append t s)
theorem Vals.take:∀ {xs:List V} {us:List Value} (n:Nat),Vals xs us->Vals (xs.take n) (us.take n)
 | _,_,0,_=>.nil
 | _,_,_+1,.nil=>.nil
 | _,_,n+1,.cons r t=>.cons r (Vals.take n t)
theorem Vals.drop:∀ {xs:List V} {us:List Value} (n:Nat),Vals xs us->Vals (xs.drop n) (us.drop n)
 | _,_,0,r=>r
 | _,_,_+1,.nil=>.nil
 | _,_,n+1,.cons _ t=>Vals.drop n t
noncomputable def RelO:Option V->Option Value->Prop
 | some v,some u=>RelV v u
 | none,none=>True
 | _,_=>False
noncomputable def KV {κ:Type}:List (κ×V)->List (κ×Value)->Prop:=Paired fun (p:κ×V) (q:κ×Value)=>p.1=q.1/\RelV p.2 q.2
noncomputable def kV:Key->V
 | .inl i=>.int i
 | .inr x=>.str x
inductive HO where
 | lst (xs:List V)
 | tup (xs:List V)
 | dK (kvs:List (Key×V))|dT (kvs:List (List Key×V))
 | set (S:Int->Bool) (n:Nat)
 | ins (C dx:Addr) (fs:List (Str×V))
 | own (x:Addr)
 | xd (fs:List (Str×V))
 | met (f x:Addr)
 | rng (lo hi:Int)
 | frz (o:Obj) (u:HO)
 | tbl (ps:Array Value)
 | ext (φ:Heap->Prop)
noncomputable abbrev Hp:=Addr->Option HO
noncomputable def upd (H:Hp) (a:Addr) (o:HO):Hp:=fun b=>if b=a then some o else H b
theorem zH {H:Hp} {a:Addr} {o:HO}:upd H a o a=some o:=by unfold upd;rw[if_pos rfl]
theorem za {H:Hp} {a b:Addr} {o:HO} (h:b≠a):upd H a o b=H b:=by unfold upd;rw[if_neg h]
theorem wC {H:Hp} {a b:Addr} {o u:HO} (h:H a=some o) (h':H b=some u) (d:o≠u):a≠b:=by
 intro e;subst e;rw[h] at h';exact d (Option.some.inj h')
theorem zV {H:Hp} {a b:Addr} {o:HO} (h:H a=some o) (h':H b=none):a≠b:=by
 intro e;subst e;rw[h] at h';cases h'
section
variable (P:Program) (w:World)
noncomputable def ObjOk (H:Hp) (h:Heap) (a:Addr):HO->Prop
 | .lst xs=>xs.length<=sizeLine/\∃(its:List Value) (n:Nat),Vals xs its/\h.get? a=some { cls:=.type "list",data:=.seq its.toArray n }
 | .tup xs=>xs.length<=sizeLine/\∃its:List Value,Vals xs its/\IsTup h a its.toArray
 | .dK kvs=>kvs.length<=sizeLine/\(a == sysModules)=false/\∃vs,KV kvs vs/\h.DictOf (yP P w) a vs
 | .dT kvs=>kvs.length<=sizeLine/\(a == sysModules)=false/\∃xs:List (List Key×Addr×Value),
   Paired (fun (p:List Key×V) (q:List Key×Addr×Value)=>p.1=q.1/\H q.2.1=some (.tup (p.1.map kV))/\RelV p.2 q.2.2) kvs xs/\
   ∃o es ep,h.get? a=some o/\o.ExactDict/\o.data=.dict es ep/\es.toList=xs.map (entryOfKey (tupleKind (yP P w)))/\(xs.map (·.1)).Nodup
 | .set S n=>h.SetOf (intKind P w) a S n
 | .ins C dx fs=>H dx=some (.own a)/\fs.length<=1000/\dx≠a/\h.get? a=some (PySem.W.instObj C dx)/\
   ∃mA,h.Ns1 dx mA/\(∀f,RelO (fs.lookup f) (mA f))/\PySem.Within mA (fs.map (·.1))
 | .own _=>∃o,h.get? a=some o
 | .xd fs=>∃mA,h.Ns1 a mA/\∀f,RelO (fs.lookup f) (mA f)
 | .rng lo hi=>∃t u v,h.get? a=some { cls:=.type "range",data:=.fields #[.int lo t,.int hi u,.int 1 v] }
 | .frz o u=>h.get? a=some o/\ObjOk H h a u
 | .tbl ps=>h.get? a=some { cls:=.none,data:=.fields ps }
 | .met f x=>h.get? a=some (PySem.W.methodObj (.ref f) (.ref x))
 | .ext φ=>φ h/\(∃o,h.get? a=some o)/\∀h1 h2:Heap,φ h1->(∀o,h1.get? a=some o->h2.get? a=some o)->φ h2
noncomputable def HOk (H:Hp) (h:Heap):Prop:=∀a o,H a=some o->ObjOk P w H h a o
end
section
variable {P:Program} {w:World} {H H':Hp} {h h':Heap} {a:Addr} {o:HO}
theorem ObjOk.lt (x:ObjOk P w H h a o):a<h.objs.size:=by
 cases o with
 | lst xs=>obtain⟨_,_,_,_,e⟩:=x;exact Heap.lt_size e
 | tup xs=>obtain⟨_,_,_,p⟩:=x;exact p.lt
 | dK kvs=>obtain⟨_,_,_,_,o,_,_,e,_⟩:=x;exact Heap.lt_size e
 | dT kvs=>obtain⟨_,_,_,_,o,_,_,e,_⟩:=x;exact Heap.lt_size e
 | set S n=>obtain⟨o,_,_,_,e,_⟩:=x;exact Heap.lt_size e
 | ins C dx fs=>obtain⟨_,_,_,e,_⟩:=x;exact Heap.lt_size e
 | own y=>obtain⟨_,e⟩:=x;exact Heap.lt_size e
 | xd fs=>obtain⟨_,⟨_,_,_,e,_⟩,_⟩:=x;exact Heap.lt_size e
 | rng lo hi=>obtain⟨_,_,_,e⟩:=x;exact Heap.lt_size e
 | frz ob u=>obtain⟨e,_⟩:=x;exact Heap.lt_size e
 | tbl ps=>exact Heap.lt_size (show h.get? a=some _ from x)
 | met f y=>exact Heap.lt_size (show h.get? a=some _ from x)
 | ext φ=>obtain⟨_,⟨_,e⟩,_⟩:=x;exact Heap.lt_size e
theorem Paired.mapP {α β:Type} {F G:α->β->Prop}:∀ {l₁:List α} {l₂:List β},Paired F l₁ l₂->(∀a b,F a b->G a b)->Paired G l₁ l₂
 | _,_,.nil,_=>.nil
 | _,_,.cons r t,f=>.cons (f _ _ r) (Paired.mapP t f)
theorem ObjOk.stay (x:ObjOk P w H h a o) (k:∀b u,(b=a∨H b=some (.own a))->h.get? b=some u->h'.get? b=some u)
  (ho:∀b,H b=some (.own a)->H' b=some (.own a)) (ht:∀b xs,H b=some (.tup xs)->H' b=some (.tup xs)):ObjOk P w H' h' a o:=by
 induction o with
 | lst xs=>obtain⟨z,its,n,r,e⟩:=x;exact⟨z,its,n,r,k _ _ (.inl rfl) e⟩
 | tup xs=>obtain⟨z,its,r,ob,e,c⟩:=x;exact⟨z,its,r,ob,k _ _ (.inl rfl) e,c⟩
 | dK kvs=>obtain⟨z,y,vs,r,ob,es,ep,e,c⟩:=x;exact⟨z,y,vs,r,ob,es,ep,k _ _ (.inl rfl) e,c⟩
 | dT kvs=>
  obtain⟨z,y,xs,r,ob,es,ep,e,c⟩:=x;exact⟨z,y,xs,Paired.mapP r fun p q z=>⟨z.1,ht _ _ z.2.1,z.2.2⟩,ob,es,ep,k _ _ (.inl rfl) e,c⟩
 | set S n=>obtain⟨ob,es,ep,t,e,c⟩:=x;exact⟨ob,es,ep,t,k _ _ (.inl rfl) e,c⟩
 | ins C dx fs=>
  obtain⟨d,z,ne,e,mA,⟨od,es,ep,e2,c⟩,r⟩:=x;exact⟨ho _ d,z,ne,k _ _ (.inl rfl) e,mA,⟨od,es,ep,k _ _ (.inr d) e2,c⟩,r⟩
 | own y=>obtain⟨ob,e⟩:=x;exact⟨ob,k _ _ (.inl rfl) e⟩
 | xd fs=>obtain⟨mA,⟨od,es,ep,e,c⟩,r⟩:=x;exact⟨mA,⟨od,es,ep,k _ _ (.inl rfl) e,c⟩,r⟩
 | rng lo hi=>obtain⟨t,u,v,e⟩:=x;exact⟨t,u,v,k _ _ (.inl rfl) e⟩
 | frz ob u ih=>obtain⟨e,q⟩:=x;exact⟨k _ _ (.inl rfl) e,ih q⟩
 | tbl ps=>
  have e:h.get? a=some { cls:=.none,data:=.fields ps }:=x;show h'.get? a=some { cls:=.none,data:=.fields ps };exact k a _ (.inl rfl) e
 | met f y=>
  have e:h.get? a=some (PySem.W.methodObj (.ref f) (.ref y)):=x;show h'.get? a=some (PySem.W.methodObj (.ref f) (.ref y));exact k a _ (.inl rfl) e
 | ext φ=>obtain⟨p,⟨o,e⟩,st⟩:=x;exact⟨st _ _ p fun o q=>k _ _ (.inl rfl) q,⟨o,k _ _ (.inl rfl) e⟩,st⟩
theorem HOk.lt (x:HOk P w H h) (e:H a=some o):a<h.objs.size:=(x a o e).lt
theorem HOk.fresh (x:HOk P w H h) (e:h.objs.size<=a):H a=none:=by
 cases q:H a with
 | none=>rfl
 | some u=>exact absurd (Nat.lt_of_lt_of_le (x.lt q) e) (Nat.lt_irrefl _)
theorem HOk.kept (x:HOk P w H h) (k:∀b u,h.get? b=some u->h'.get? b=some u):HOk P w H h':=fun a o e=>
 (x a o e).stay (fun b u _ q=>k b u q) (fun _ q=>q) fun _ _ q=>q
theorem HOk.laid (x:HOk P w H h) (k:∀b u,h.get? b=some u->h'.get? b=some u) (hp:h.objs.size<=a) (new:ObjOk P w (upd H a o) h' a o):HOk P w (upd H a o) h':=fun b u e=>by
 have hn:=x.fresh hp;by_cases hb:b=a
 ·subst hb;rw[zH] at e;cases e;exact new
 ·rw[za hb] at e;exact (x b u e).stay (fun c v _ q=>k c v q) (fun c q=>by rw[za (zV q hn)];exact q) fun c xs q=>by rw[za (zV q hn)];exact q
end
noncomputable def Rd (H:Hp) (a:Addr) (u:HO):Prop:=H a=some u∨∃o,H a=some (.frz o u)
theorem Rd.ok {P:Program} {w:World} {H:Hp} {h:Heap} {a:Addr} {u:HO} (r:Rd H a u) (x:HOk P w H h):ObjOk P w H h a u:=by
 rcases r with r|⟨o,r⟩
 ·exact x a u r
 ·obtain⟨_,q⟩:=x a _ r;exact q
noncomputable def Mut:Option HO->Prop
 | some (.lst _)=>True
 | some (.dK _)=>True
 | some (.dT _)=>True
 | some (.set _ _)=>True
 | some (.ins _ _ _)=>True
 | some (.ext _)=>True
 | _=>False
section
variable {P:Program} {w:World} {H:Hp} {h h':Heap} {x e:Addr} {o':HO}
theorem HOk.write (ok:HOk P w H h) (mu:Mut (H x)) (he:e=x∨H e=some (.own x)) (k:∀b u,b≠e->h.get? b=some u->h'.get? b=some u) (heo:∃u,h'.get? e=some u)
  (new:ObjOk P w (upd H x o') h' x o'):HOk P w (upd H x o') h':=fun b u q=>by
 have nown:∀c y,H c=some (.own y)->c≠x:=fun c y r z=>by subst z;rw[r] at mu;exact mu
 have ntup:∀c xs,H c=some (.tup xs)->c≠x:=fun c xs r z=>by subst z;rw[r] at mu;exact mu
 by_cases hb:b=x
 ·subst hb;rw[zH] at q;cases q;exact new
 ·rw[za hb] at q;by_cases hbe:b=e
  ·have q':H b=some (.own x):=by
    rcases he with z|z
    ·exact absurd (hbe.trans z) hb
    ·rw[hbe];exact z
   rw[q] at q';cases q';obtain⟨v,hv⟩:=heo;exact⟨v,by rw[hbe];exact hv⟩
  ·refine (ok b u q).stay (fun c v hc r=>k c v ?_ r) (fun c r=>by rw[za (nown c b r)];exact r) fun c xs r=>by rw[za (ntup c xs r)];exact r
   rcases hc with rfl|hc
   ·exact hbe
   ·rintro rfl;rcases he with z|z
    ·exact nown c b hc z
    ·rw[hc] at z;cases z;exact hb rfl
end
structure Un (fs ex:List Addr) (H H':Hp) (h h':Heap):Prop where
 keep:∀b o,h.get? b=some o->H b=none->b∉fs->b∉ex->h'.get? b=some o
 slot:∀b o,h.get? b=some o->H b=none->b∈fs->b∉ex->∃sl,h'.get? b=some { o with slots:=sl }
 free:∀b o,h.get? b=some o->H b=none->b∉ex->H' b=none
 there:∀b o,h.get? b=some o->b∉ex->∃o',h'.get? b=some o'
 tups:∀b xs,H b=some (.tup xs)->H' b=some (.tup xs)
 frzs:∀b o u,H b=some (.frz o u)->H' b=some (.frz o u)
 tbls:∀b ps,H b=some (.tbl ps)->∃more,H' b=some (.tbl (ps++more))
section
variable {fs fs' ex ex':List Addr} {H H1 H2:Hp} {h h1 h2 h':Heap} {a x e:Addr} {o:HO}
theorem Un.any (u:Un fs ex H H1 h h1) {b:Addr} {ob:Obj} (q:h.get? b=some ob) (n:H b=none) (hx:b∉ex):∃sl,h1.get? b=some { ob with slots:=sl }:=by
 by_cases hb:b∈fs
 ·exact u.slot b ob q n hb hx
 ·exact⟨ob.slots,u.keep b ob q n hb hx⟩
theorem Un.trans (a:Un fs ex H H1 h h1) (b:Un fs ex H1 H2 h1 h2):Un fs ex H H2 h h2 where
 keep:=fun c ob q n hc hx=>b.keep c ob (a.keep c ob q n hc hx) (a.free c ob q n hx) hc hx
 slot:=fun c ob q n hc hx=>by
  obtain⟨sl,e1⟩:=a.slot c ob q n hc hx;obtain⟨sl',e2⟩:=b.slot c _ e1 (a.free c ob q n hx) hc hx;exact⟨sl',e2⟩
 free:=fun c ob q n hx=>by
  obtain⟨o',e1⟩:=a.there c ob q hx;exact b.free c o' e1 (a.free c ob q n hx) hx
 there:=fun c ob q hx=>by
  obtain⟨o',e1⟩:=a.there c ob q hx;exact b.there c o' e1 hx
 tups:=fun c xs q=>b.tups c xs (a.tups c xs q)
 frzs:=fun c ob xs q=>b.frzs c ob xs (a.frzs c ob xs q)
 tbls:=fun c ps q=>by
  obtain⟨m1,e1⟩:=a.tbls c ps q;obtain⟨m2,e2⟩:=b.tbls c _ e1;exact⟨m1++m2,by rw[e2,Array.append_assoc]⟩
theorem Un.kept (k:∀b u,h.get? b=some u->h'.get? b=some u):Un fs ex H H h h':=
 ⟨fun b ob q _ _ _=>k b ob q,fun b ob q _ _ _=>⟨ob.slots,k b ob q⟩,fun _ _ _ n _=>n,fun b ob q _=>⟨ob,k b ob q⟩,fun _ _ q=>q,fun _ _ _ q=>q,fun _ ps q=>⟨#[],by rw[q];simp⟩⟩
theorem Un.refl:Un fs ex H H h h:=Un.kept fun _ _ q=>q
theorem Un.laid (k:∀b u,h.get? b=some u->h'.get? b=some u) (hp:h.objs.size<=a) (hn:H a=none):Un fs ex H (upd H a o) h h' where
 keep:=fun b u q _ _ _=>k b u q
 slot:=fun b u q _ _ _=>⟨u.slots,k b u q⟩
 free:=fun b u q n _=>by rw[za (Nat.ne_of_lt (Nat.lt_of_lt_of_le (Heap.lt_size q) hp))];exact n
 there:=fun b u q _=>⟨u,k b u q⟩
 tups:=fun b xs q=>by rw[za (zV q hn)];exact q
 frzs:=fun b u xs q=>by rw[za (zV q hn)];exact q
 tbls:=fun b ps q=>⟨#[],by rw[za (zV q hn),q];simp⟩
theorem Un.write (mu:Mut (H x)) (he:e=x∨H e=some (.own x)) (k:∀b u,b≠e->h.get? b=some u->h'.get? b=some u) (heo:∃u,h'.get? e=some u):Un fs ex H (upd H x o) h h':=by
 have hx:∀b,H b=none->b≠x:=fun b n z=>by subst z;rw[n] at mu;exact mu
 have hb:∀b,H b=none->b≠e:=fun b n z=>by
  subst z;rcases he with r|r
  ·exact hx b n r
  ·rw[n] at r;cases r
 have hm:∀b u,H b=some u->¬Mut (some u)->b≠x:=fun b u q nm z=>by subst z;rw[q] at mu;exact nm mu
 refine⟨fun b u q n _ _=>k b u (hb b n) q,fun b u q n _ _=>⟨u.slots,k b u (hb b n) q⟩,fun b u q n _=>by rw[za (hx b n)];exact n,fun b u q _=>?_,
  fun b xs q=>by rw[za (hm b _ q fun z=>z)];exact q,fun b u xs q=>by rw[za (hm b _ q fun z=>z)];exact q,fun b ps q=>⟨#[],by rw[za (hm b _ q fun z=>z),q];simp⟩⟩
 by_cases hbe:b=e
 ·subst hbe;exact heo
 ·exact⟨u,k b u hbe q⟩
theorem Un.mono (u:Un fs ex H H1 h h1) (hs:∀b∈fs,b∈fs') (hx:∀b∈ex,b∈ex'):Un fs' ex' H H1 h h1:=
 ⟨fun b ob q n hb he=>u.keep b ob q n (fun z=>hb (hs b z)) fun z=>he (hx b z),fun _ _ q n _ he=>u.any q n fun z=>he (hx _ z),fun b ob q n he=>u.free b ob q n fun z=>he (hx b z),fun b ob q he=>u.there b ob q fun z=>he (hx b z),u.tups,u.frzs,u.tbls⟩
end
noncomputable def trk (h:Heap) (H:Hp):List Addr:=(List.range h.objs.size).filter fun a=>(H a).isSome
noncomputable def y1i (h:Heap) (H:Hp):Heap:=PySem.W.hideAll h (trk h H)
theorem z9e (h:Heap) (H:Hp):(y1i h H).objs.size=h.objs.size:=PySem.W.hideAll_size _ _
theorem y1h {h:Heap} {H:Hp} {b:Addr} {o:Obj} (e:h.get? b=some o) (n:H b=none):(y1i h H).get? b=some o:=
 PySem.W.hideAll_get _ e fun hm=>by
  have q:(H b).isSome=true:=(List.mem_filter.mp hm).2;rw[n] at q;simp at q
theorem y3Y {h:Heap} {H:Hp} {b:Addr} {o:Obj} (e:(y1i h H).get? b=some o):h.get? b=some o/\H b=none:=by
 have e':h.get? b=some o:=PySem.W.of_hideAll (trk h H) e;refine⟨e',?_⟩;cases q:H b with
 | none=>rfl
 | some x=>
  have hm:b∈trk h H:=List.mem_filter.mpr ⟨List.mem_range.mpr (Heap.lt_size e'),by simp [q]⟩;have z:(y1i h H).get? b=none:=PySem.W.hideAll_none (trk h H) hm;rw[z] at e;cases e
noncomputable def y4C (g h:Heap) (L:Addr):List (Addr×Obj):=(List.range h.objs.size).filterMap fun a=>if a=L∨(g.get? a).isSome=true then none else (h.get? a).map fun o=>(a,o)
noncomputable def rest (g h:Heap) (L d:Addr):List (Addr×Obj):=(y4C g h L).filter fun p=>decide (p.1≠d)
structure Mod (K:PySem.W.Frag) (mg:Str->Option Value) (base:Heap):Prop where
 kin:K.In base
 glob:base.Ns mainGlobals mg
 blt:∃mb,base.Ns builtinsNs mb/\∀x:Str,x≠ "__name__" ->mb x=bootBuiltins x
 nolimit:base.NoLimit
structure Cx where
 prog:Program
 w:World
 K:PySem.W.Frag
 mg:Str->Option Value
 base:Heap
 A:Around
 N:List Str
 s₀:Shared
 H₀:Hp
 env:Env
 outer:List Env
 stack:List Env
 ex:List Addr
 fn:Str->Bool
 calm:Bool
 pn:List (Addr×Obj)
 xe:Value->Shared->Prop
noncomputable def frs (l:List Env):List Addr:=l.filterMap (·.frame)
noncomputable abbrev Cx.fs (X:Cx):List Addr:=frs X.outer
noncomputable def Vis (sc:Scope) (x:Str):Prop:=sc.names.lookup x=some .local∨sc.names.lookup x=some .cell∨sc.names.lookup x=some .free
noncomputable def Loc (sc:Scope) (x:Str):Prop:=sc.names.lookup x=some .local∨sc.names.lookup x=some .cell
noncomputable def y6w (env:Env) (h:Heap) (m:Str->Option Value) (x:Str) (u:Value):Prop:=
 (env.kindOf x=some .local/\m x=some u)∨((env.kindOf x=some .cell∨env.kindOf x=some .free)/\∃c,env.cells.lookup x=some c/\h.IsCell c (some u))
structure Cx.Ok (X:Cx):Prop where
 mod:Mod X.K X.mg X.base
 kind:X.env.scope.kind=.function
 glob:X.env.globals=mainGlobals
 blt:X.env.builtins=builtinsNs
 above:X.s₀.heap.objs.size<=X.env.locals
 inj:∀x y c,X.env.cells.lookup x=some c->X.env.cells.lookup y=some c->x=y
 has:∀x,(X.env.kindOf x=some .cell∨X.env.kindOf x=some .free)->∃c,X.env.cells.lookup x=some c
 cab:∀x c,X.fn x=true->X.env.cells.lookup x=some c->X.s₀.heap.objs.size<=c
 hd:X.calm=true->X.A.handled=none
 frames:X.A.frames=some X.stack
 stk:X.stack=X.outer∨(X.stack=X.env::X.outer/\X.env.frame=some X.env.locals)
 exf:∀b∈X.ex,b≠X.env.locals/\∀x c,X.env.cells.lookup x=some c->c≠b
 bs:∀b o,X.base.get? b=some o->X.s₀.heap.get? b=some o/\X.H₀ b=none
 bsz:X.base.objs.size<=X.s₀.heap.objs.size
 noex:∀b o,X.base.get? b=some o->b∉X.ex
 exfs:∀b∈X.ex,b∉X.fs
 funs:X.s₀.heap.FunFrames X.base X.outer
 frf:∀b∈X.fs,X.H₀ b=none
structure Inv (X:Cx) (pins:List (Addr×Obj)) (σ:List (Option V)) (H:Hp) (s:Shared):Prop where
 ok:X.Ok
 os:s.os=X.s₀.os
 bare:AllBare s.gens
 base:Un X.fs X.ex X.H₀ H X.s₀.heap s.heap
 loc:∃m,s.heap.Ns X.env.locals m/\∀(i:Nat) (x:Str) (v:V),X.N[i]?=some x->σ[i]?=some (some v)->Vis X.env.scope x->∃u,RelV v u/\y6w X.env s.heap m x u
 cell:∀x c,X.env.cells.lookup x=some c->∃v,s.heap.IsCell c v
 free:H X.env.locals=none
 freeC:∀x c,X.env.cells.lookup x=some c->H c=none
 pin:∀p∈X.pn++pins,s.heap.get? p.1=some p.2/\H p.1=none/\p.1≠X.env.locals/\p.1∉X.fs/\∀v,p.2.data≠.cell v
 hok:HOk X.prog X.w H s.heap
 len:σ.length=X.N.length
section
variable {X:Cx} {pins:List (Addr×Obj)} {σ:List (Option V)} {H H':Hp} {s:Shared} {h':Heap}
theorem Cx.Ok.nofr (ok:X.Ok) {b:Addr} {o:Obj} (e:X.base.get? b=some o):b∉X.fs:=fun hb=>by
 have:=(ok.funs.mem hb).1;rw[e] at this;cases this
theorem Inv.bs (I:Inv X pins σ H s):∀b o,X.base.get? b=some o->s.heap.get? b=some o/\H b=none:=fun b o e=>
 ⟨I.base.keep b o (I.ok.bs b o e).1 (I.ok.bs b o e).2 (I.ok.nofr e) (I.ok.noex b o e),I.base.free b o (I.ok.bs b o e).1 (I.ok.bs b o e).2 (I.ok.noex b o e)⟩
theorem Inv.bk (I:Inv X pins σ H s):∀b o,X.base.get? b=some o->s.heap.get? b=some o:=fun b o e=>(I.bs b o e).1
theorem Inv.mod (I:Inv X pins σ H s):Mod X.K X.mg X.base:=I.ok.mod
theorem Inv.kIn (I:Inv X pins σ H s):X.K.In s.heap:=I.ok.mod.kin.keeps I.bk
theorem Inv.lt (I:Inv X pins σ H s):X.env.locals<s.heap.objs.size:=let ⟨_,hn,_⟩:=I.loc;hn.lt
theorem Inv.sz (I:Inv X pins σ H s):X.s₀.heap.objs.size<=s.heap.objs.size:=Nat.le_trans I.ok.above (Nat.le_of_lt I.lt)
theorem Inv.nofs (I:Inv X pins σ H s) {a:Addr} (h:s.heap.objs.size<=a):a∉X.fs:=fun hb=>by
 obtain⟨_,o,ho,_⟩:=I.ok.funs.mem hb;exact absurd (Nat.lt_of_lt_of_le (Heap.lt_size ho) (Nat.le_trans I.sz h)) (Nat.lt_irrefl _)
theorem Inv.cne (I:Inv X pins σ H s):∀x c,X.env.cells.lookup x=some c->c≠X.env.locals:=fun x c e z=>by
 obtain⟨v,o,ho,hd⟩:=I.cell x c e;obtain⟨m,⟨o',es,ep,ho',hd',_⟩,_⟩:=I.loc;rw[z,ho'] at ho;cases ho;rw[hd'] at hd;cases hd
theorem Inv.funs (I:Inv X pins σ H s):s.heap.FunFrames X.base X.outer:=by
 have all:∀(l:List Env),(∀b∈frs l,b∈X.fs)->X.s₀.heap.FunFrames X.base l->s.heap.FunFrames X.base l:=by
  intro l
  induction l with
  | nil=>intro _ _;trivial
  | cons env r ih=>
   intro hs hl;obtain⟨hk,⟨L,o,hf,hn,ho,hd⟩,hr⟩:=hl;have hL:L∈X.fs:=hs L (by unfold frs;rw[List.filterMap_cons,hf];exact List.mem_cons_self);obtain⟨sl,e⟩:=I.base.slot L o ho (I.ok.frf L hL) hL fun z=>I.ok.exfs L z hL;exact⟨hk,⟨L,_,hf,hn,e,hd⟩,ih (fun b hb=>hs b (by unfold frs;rw[List.filterMap_cons,hf];exact List.mem_cons_of_mem _ hb)) hr⟩
 exact all X.outer (fun _ hb=>hb) I.ok.funs
theorem Inv.stack (I:Inv X pins σ H s):s.heap.FunFrames X.base X.stack:=by
 rcases I.ok.stk with e|⟨e,hf⟩
 ·rw[e];exact I.funs
 ·rw[e];obtain⟨m,hn,_⟩:=I.loc;refine .cons (by rw[I.ok.kind];decide) hf hn ?_ I.funs;exact Heap.get?_none_of_le (Nat.le_trans I.ok.bsz I.ok.above)
theorem Inv.stkSub (I:Inv X pins σ H s):∀b∈frs X.stack,b∈X.env.locals::X.fs:=fun b hb=>by
 rcases I.ok.stk with e|⟨e,hf⟩
 ·rw[e] at hb;exact List.mem_cons_of_mem _ hb
 ·rw[e] at hb;unfold frs at hb;rw[List.filterMap_cons,hf] at hb;exact hb
theorem Inv.stkFree (I:Inv X pins σ H s):∀b∈frs X.stack,H b=none:=fun b hb=>by
 rcases List.mem_cons.mp (I.stkSub b hb) with e|hb
 ·rw[e];exact I.free
 ·obtain⟨_,o,ho,_⟩:=I.ok.funs.mem hb;exact I.base.free b o ho (I.ok.frf b hb) fun z=>I.ok.exfs b z hb
theorem Inv.step {g':Array GenState} {t':Nat} {d':Drawn} {ch:List Addr} (I:Inv X pins σ H s)
  (hch:∀b∈ch,(b∈X.ex∨X.s₀.heap.objs.size<=b)/\b≠X.env.locals/\(∀x c,X.env.cells.lookup x=some c->c≠b)/\∀p∈X.pn++pins,p.1≠b)
  (keep:∀b o,b≠X.env.locals->b∉X.fs->b∉ch->s.heap.get? b=some o->H b=none->h'.get? b=some o)
  (slot:∀b o,b≠X.env.locals->b∈X.fs->b∉ch->s.heap.get? b=some o->H b=none->∃sl,h'.get? b=some { o with slots:=sl }) (free:∀b o,b∉ch->s.heap.get? b=some o->H b=none->H' b=none)
  (there:∀b o,b∉ch->s.heap.get? b=some o->∃o',h'.get? b=some o')
  (tups:∀b xs,H b=some (.tup xs)->H' b=some (.tup xs)) (frzs:∀b o u,H b=some (.frz o u)->H' b=some (.frz o u)) (tbls:∀b ps,H b=some (.tbl ps)->∃more,H' b=some (.tbl (ps++more)))
  (ns:∀m,s.heap.Ns X.env.locals m->h'.Ns X.env.locals m) (hok:HOk X.prog X.w H' h') (hg:AllBare g') :
  Inv X pins σ H' { s with heap:=h',gens:=g',drawn:=d',toks:=t' }:=by
 have neL:∀b o,X.s₀.heap.get? b=some o->b≠X.env.locals:=fun b o e=>Nat.ne_of_lt (Nat.lt_of_lt_of_le (Heap.lt_size e) I.ok.above);have neC:∀b o,X.s₀.heap.get? b=some o->b∉X.ex->b∉ch:=fun b o e hx hb=>by
  rcases (hch b hb).1 with z|z
  ·exact hx z
  ·exact absurd (Nat.lt_of_lt_of_le (Heap.lt_size e) z) (Nat.lt_irrefl _)
 have cellK:∀x c,X.env.cells.lookup x=some c->∀v,s.heap.IsCell c v->h'.IsCell c v:=fun x c e v ⟨o,ho,hd⟩=>by
  have nch:c∉ch:=fun z=>(hch c z).2.2.1 x c e rfl;by_cases hc:c∈X.fs
  ·obtain⟨sl,q⟩:=slot c o (I.cne x c e) hc nch ho (I.freeC x c e);exact⟨_,q,hd⟩
  ·exact⟨o,keep c o (I.cne x c e) hc nch ho (I.freeC x c e),hd⟩
 refine⟨I.ok,I.os,hg,⟨fun b o e n hb hx=>?_,fun b o e n hb hx=>?_,fun b o e n hx=>?_,fun b o e hx=>?_,fun b xs e=>tups b xs (I.base.tups b xs e),fun b o xs e=>frzs b o xs (I.base.frzs b o xs e),fun b ps e=>?_⟩,?_,fun x c e=>?_,?_,fun x c e=>?_,fun p hp=>?_,hok,I.len⟩
 ·exact keep b o (neL b o e) hb (neC b o e hx) (I.base.keep b o e n hb hx) (I.base.free b o e n hx)
 ·obtain⟨sl,e1⟩:=I.base.slot b o e n hb hx;obtain⟨sl',e2⟩:=slot b _ (neL b o e) hb (neC b o e hx) e1 (I.base.free b o e n hx);exact⟨sl',e2⟩
 ·obtain⟨o',e1⟩:=I.base.there b o e hx;exact free b o' (neC b o e hx) e1 (I.base.free b o e n hx)
 ·obtain⟨o',e1⟩:=I.base.there b o e hx;exact there b o' (neC b o e hx) e1
 ·obtain⟨m1,e1⟩:=I.base.tbls b ps e;obtain⟨m2,e2⟩:=tbls b _ e1;exact⟨m1++m2,by rw[e2,Array.append_assoc]⟩
 ·obtain⟨m,hn,hl⟩:=I.loc;refine⟨m,ns m hn,fun i x v e1 e2 e3=>?_⟩;obtain⟨u,r,l⟩:=hl i x v e1 e2 e3;refine⟨u,r,?_⟩;rcases l with l|⟨k,c,e,z⟩
  ·exact .inl l
  ·exact .inr ⟨k,c,e,cellK x c e _ z⟩
 ·obtain⟨v,z⟩:=I.cell x c e;exact⟨v,cellK x c e v z⟩
 ·obtain⟨m,⟨o,_,_,ho,_⟩,_⟩:=I.loc;exact free _ o (fun z=>(hch _ z).2.1 rfl) ho I.free
 ·obtain⟨v,o,ho,hd⟩:=I.cell x c e;exact free c o (fun z=>(hch c z).2.2.1 x c e rfl) ho (I.freeC x c e)
 ·obtain⟨e,n,ne,nf,d⟩:=I.pin p hp;have nch:p.1∉ch:=fun z=>(hch p.1 z).2.2.2 p hp rfl;exact⟨keep p.1 p.2 ne nf nch e n,free p.1 p.2 nch e n,ne,nf,d⟩
theorem Inv.un {t':Nat} (I:Inv X pins σ H s) (u:Un X.fs [] H H' s.heap h') (hok:HOk X.prog X.w H' h'):Inv X pins σ H' { s with heap:=h',toks:=t' }:=by
 obtain⟨m,⟨o,es,ep,ho,r⟩,_⟩:=id I.loc;obtain⟨sl,hL⟩:=u.any ho I.free (by simp);exact I.step (g':=s.gens) (d':=s.drawn) (ch:=[]) (fun _ z=>nomatch z) (fun b o _ hb _ e n=>u.keep b o e n hb (by simp)) (fun b o _ hb _ e n=>u.slot b o e n hb (by simp)) (fun b o _ e n=>u.free b o e n (by simp)) (fun b o _ e=>u.there b o e (by simp)) u.tups u.frzs u.tbls (fun m' hm=>by
  obtain⟨o',es',ep',ho',r'⟩:=hm;rw[ho] at ho';cases ho';exact⟨_,es',ep',hL,r'⟩) hok I.bare
theorem Inv.call {g':Array GenState} {t':Nat} {d':Drawn} {ch:List Addr} (I:Inv X pins σ H s) (u:Un (frs X.stack) ch H H' s.heap h') (hok:HOk X.prog X.w H' h') (hg:AllBare g')
  (hch:∀b∈ch,(b∈X.ex∨X.s₀.heap.objs.size<=b)/\b≠X.env.locals/\(∀x c,X.env.cells.lookup x=some c->c≠b)/\∀p∈X.pn++pins,p.1≠b) :
  Inv X pins σ H' { s with heap:=h',gens:=g',drawn:=d',toks:=t' }:=by
 obtain⟨m,⟨o,es,ep,ho,r⟩,_⟩:=id I.loc;obtain⟨sl,hL⟩:=u.any ho I.free fun z=>(hch _ z).2.1 rfl;exact I.step (ch:=ch) hch (fun b o hL hb hc e n=>u.keep b o e n (fun z=>(List.mem_cons.mp (I.stkSub b z)).elim hL hb) hc) (fun b o _ _ hc e n=>u.any e n hc) (fun b o hc e n=>u.free b o e n hc) (fun b o hc e=>u.there b o e hc) u.tups u.frzs u.tbls (fun m' hm=>by
  obtain⟨o',es',ep',ho',r'⟩:=hm;rw[ho] at ho';cases ho';exact⟨_,es',ep',hL,r'⟩) hok hg
theorem Inv.turned {t':Nat} {it:Addr} (I:Inv X pins σ H s) (k:∀b o,b≠it->s.heap.get? b=some o->h'.get? b=some o) (hn:H it=none) (hL:it≠X.env.locals)
  (h1:it∈X.ex∨X.s₀.heap.objs.size<=it) (h2:∀x c,X.env.cells.lookup x=some c->c≠it) (h3:∀p∈X.pn++pins,p.1≠it):Inv X pins σ H { s with heap:=h',toks:=t' }:=by
 have nit:∀b u,H b=some u->b≠it:=fun b u e z=>by rw[z,hn] at e;cases e
 refine I.step (g':=s.gens) (d':=s.drawn) (ch:=[it]) (fun b hb=>?_) (fun b o _ _ hc e _=>k b o (fun z=>hc (by simp [z])) e) (fun b o _ _ hc e _=>⟨o.slots,k b o (fun z=>hc (by simp [z])) e⟩) (fun _ _ _ _ n=>n)
  (fun b o hc e=>⟨o,k b o (fun z=>hc (by simp [z])) e⟩) (fun _ _ e=>e) (fun _ _ _ e=>e) (fun b ps e=>⟨#[],by rw[e];simp⟩) (fun m hm=>?_) (fun b u e=>?_) I.bare
 ·have e:b=it:=by simpa using hb
  subst e;exact⟨h1,hL,h2,h3⟩
 ·obtain⟨o,es,ep,ho,r⟩:=hm;exact⟨o,es,ep,k _ o (Ne.symm hL) ho,r⟩
 ·refine (I.hok b u e).stay (fun c v hc q=>k c v ?_ q) (fun _ q=>q) fun _ _ q=>q;rcases hc with z|z
  ·rw[z];exact nit b u e
  ·exact nit c _ z
theorem Inv.tok (I:Inv X pins σ H s) (t:Nat):Inv X pins σ H { s with toks:=t }:=I.un (h':=s.heap) (t':=t) Un.refl I.hok
theorem Inv.kept {t':Nat} (I:Inv X pins σ H s) (k:∀b u,s.heap.get? b=some u->h'.get? b=some u):Inv X pins σ H { s with heap:=h',toks:=t' }:=I.un (Un.kept k) (I.hok.kept k)
theorem Inv.laid {a:Addr} {o:HO} {t':Nat} (I:Inv X pins σ H s) (k:∀b u,s.heap.get? b=some u->h'.get? b=some u) (hp:s.heap.objs.size<=a) (new:ObjOk X.prog X.w (upd H a o) h' a o) :
  Inv X pins σ (upd H a o) { s with heap:=h',toks:=t' }:=I.un (Un.laid k hp (I.hok.fresh hp)) (I.hok.laid k hp new)
theorem Inv.write {x e:Addr} {o:HO} {t':Nat} (I:Inv X pins σ H s) (mu:Mut (H x)) (he:e=x∨H e=some (.own x)) (k:∀b u,b≠e->s.heap.get? b=some u->h'.get? b=some u) (heo:∃u,h'.get? e=some u)
  (new:ObjOk X.prog X.w (upd H x o) h' x o):Inv X pins σ (upd H x o) { s with heap:=h',toks:=t' }:=I.un (Un.write mu he k heo) (I.hok.write mu he k heo new)
theorem Inv.pins_of {pins':List (Addr×Obj)} (I:Inv X pins σ H s) (h:∀p∈pins',s.heap.get? p.1=some p.2/\H p.1=none/\p.1≠X.env.locals/\p.1∉X.fs/\∀v,p.2.data≠.cell v):Inv X pins' σ H s:=
 ⟨I.ok,I.os,I.bare,I.base,I.loc,I.cell,I.free,I.freeC,fun p hp=>(List.mem_append.mp hp).elim (fun z=>I.pin p (List.mem_append_left _ z)) (h p),I.hok,I.len⟩
theorem z6T {N:List Str} (hN:N.Nodup) {i j:Nat} {x:Str} (a:N[i]?=some x) (b:N[j]?=some x):i=j:=by
 obtain⟨h1,e1⟩:=List.getElem?_eq_some_iff.mp a;obtain⟨h2,e2⟩:=List.getElem?_eq_some_iff.mp b;exact (List.getElem_inj hN).mp (e1.trans e2.symm)
theorem z2o {M:Model} {A:Around} {E:Value->Shared->Prop} {i:Nat} {x:Str} {v:V} {u:Value} {Q:Unit->Shared->Prop} (I:Inv X pins σ H s) (hN:X.N.Nodup) (hi:X.N[i]?=some x) (hx:Loc X.env.scope x) (r:RelV v u)
  (h:∀s',Inv X pins (σ.set i (some v)) H s'->(∃a,Heap.SameBut a s.heap s'.heap/\(a=X.env.locals∨X.env.cells.lookup x=some a))->Q () s') (hf:X.fn x=true∨X.env.scope.names.lookup x=some .local:=by first|exact .inl rfl|exact .inr rfl|assumption):wpAny M A (storeName X.env x u) Q E s:=by
 obtain⟨m,hn,hl⟩:=id I.loc;have hcls:(X.env.scope.kind == .class || (X.env.scope.kind == .module && X.env.locals != X.env.globals))=false:=by rw[I.ok.kind];rfl
 have hiσ:i<σ.length:=by rw[I.len];exact (List.getElem?_eq_some_iff.mp hi).1
 have cne:=I.cne;have tracked:∀ {a:Addr} {h':Heap},(∃o,s.heap.get? a=some o/\H a=none)->Heap.SameBut a s.heap h'->HOk X.prog X.w H h':=fun {a h'} ha hs b ob e=>by
  obtain⟨_,_,hfree⟩:=ha;refine (I.hok b ob e).stay (fun c w' hc q=>(hs.2 c ?_).trans q) (fun _ q=>q) fun _ _ q=>q;rintro rfl;rcases hc with rfl|hc
  ·rw[hfree] at e;cases e
  ·rw[hfree] at hc;cases hc
 rcases hx with hk|hk
 ·refine wpAny_storeName_local hk hn (fun h' hn' hs=>?_) hcls;obtain⟨oL,_,_,hoL,_⟩:=id hn;refine h _ ⟨I.ok,I.os,I.bare,⟨fun b o e n hb hx=>?_,fun b o e n hb hx=>?_,I.base.free,fun b o e hx=>?_,I.base.tups,I.base.frzs,I.base.tbls⟩,⟨_,hn',fun j y v' e1 e2 e3=>?_⟩,fun y c e=>?_,I.free,I.freeC,fun p hp=>?_,tracked ⟨oL,hoL,I.free⟩ hs,by simpa using I.len⟩ ⟨_,hs,.inl rfl⟩
  ·exact (hs.2 b (Nat.ne_of_lt (Nat.lt_of_lt_of_le (Heap.lt_size e) I.ok.above))).trans (I.base.keep b o e n hb hx)
  ·obtain⟨sl,e1⟩:=I.base.slot b o e n hb hx;exact⟨sl,(hs.2 b (Nat.ne_of_lt (Nat.lt_of_lt_of_le (Heap.lt_size e) I.ok.above))).trans e1⟩
  ·obtain⟨o',e1⟩:=I.base.there b o e hx;exact⟨o',(hs.2 b (Nat.ne_of_lt (Nat.lt_of_lt_of_le (Heap.lt_size e) I.ok.above))).trans e1⟩
  ·by_cases hj:j=i
   ·subst hj;rw[hi] at e1;cases e1;rw[List.getElem?_set_self hiσ] at e2;cases e2;exact⟨u,r,.inl ⟨hk,by simp⟩⟩
   ·rw[List.getElem?_set_ne (Ne.symm hj)] at e2;obtain⟨u',r',q⟩:=hl j y v' e1 e2 e3;refine⟨u',r',?_⟩;rcases q with⟨k,e⟩|⟨k,c,e,z⟩
    ·refine .inl ⟨k,?_⟩;have:y≠x:=fun e=>hj (z6T hN e1 (e▸hi));simp [this,e]
    ·exact .inr ⟨k,c,e,z.sameBut hs (cne y c e)⟩
  ·obtain⟨w',z⟩:=I.cell y c e;exact⟨w',z.sameBut hs (cne y c e)⟩
  ·obtain⟨e,n,ne,nf,d⟩:=I.pin p hp;exact⟨(hs.2 p.1 ne).trans e,n,ne,nf,d⟩
 ·have hfn:X.fn x=true:=by
   rcases hf with z|z
   ·exact z
   ·rw[z] at hk;cases hk
  obtain⟨c,hc⟩:=I.ok.has x (.inl hk);obtain⟨w',z⟩:=I.cell x c hc;refine wpAny_storeName_cell I.ok.kind hk hc z (fun h' hc' hs=>?_);obtain⟨oc,hoc,hocd⟩:=id z;refine h { s with heap:=h' } ⟨I.ok,I.os,I.bare,⟨fun b o e n hb hx=>?_,fun b o e n hb hx=>?_,I.base.free,fun b o e hx=>?_,I.base.tups,I.base.frzs,I.base.tbls⟩,⟨m,hn.sameBut hs (Ne.symm (cne x c hc)),fun j y v' e1 e2 e3=>?_⟩,fun y c' e=>?_,I.free,I.freeC,fun p hp=>?_,tracked ⟨oc,hoc,I.freeC x c hc⟩ hs,by simpa using I.len⟩ ⟨c,hs,.inr hc⟩
  ·exact (hs.2 b (Nat.ne_of_lt (Nat.lt_of_lt_of_le (Heap.lt_size e) (I.ok.cab x c hfn hc)))).trans (I.base.keep b o e n hb hx)
  ·obtain⟨sl,e1⟩:=I.base.slot b o e n hb hx;exact⟨sl,(hs.2 b (Nat.ne_of_lt (Nat.lt_of_lt_of_le (Heap.lt_size e) (I.ok.cab x c hfn hc)))).trans e1⟩
  ·obtain⟨o',e1⟩:=I.base.there b o e hx;exact⟨o',(hs.2 b (Nat.ne_of_lt (Nat.lt_of_lt_of_le (Heap.lt_size e) (I.ok.cab x c hfn hc)))).trans e1⟩
  ·by_cases hj:j=i
   ·subst hj;rw[hi] at e1;cases e1;rw[List.getElem?_set_self hiσ] at e2;cases e2;exact⟨u,r,.inr ⟨.inl hk,c,hc,hc'⟩⟩
   ·rw[List.getElem?_set_ne (Ne.symm hj)] at e2;obtain⟨u',r',q⟩:=hl j y v' e1 e2 e3;refine⟨u',r',?_⟩;rcases q with q|⟨k,c',e,z'⟩
    ·exact .inl q
    ·refine .inr ⟨k,c',e,z'.sameBut hs ?_⟩;rintro rfl;exact hj (z6T hN e1 (I.ok.inj _ _ _ e hc▸hi))
  ·by_cases hcc:c'=c
   ·subst hcc;exact⟨_,hc'⟩
   ·obtain⟨w2,z2⟩:=I.cell y c' e;exact⟨w2,z2.sameBut hs hcc⟩
  ·obtain⟨e,n,ne,nf,d⟩:=I.pin p hp;refine⟨(hs.2 p.1 ?_).trans e,n,ne,nf,d⟩;intro q;rw[q,hoc] at e;have q':oc=p.2:=Option.some.inj e;exact d w' (by rw[←q'];exact hocd)
theorem kE {M:Model} {A:Around} {E:Value->Shared->Prop} {i:Nat} {x:Str} {v:V} {u:Value} {Q:Unit->Shared->Prop} (I:Inv X pins σ H s) (hN:X.N.Nodup) (hi:X.N[i]?=some x) (hx:Loc X.env.scope x) (r:RelV v u)
  (h:∀s',Inv X pins (σ.set i (some v)) H s'->Q () s') (hf:X.fn x=true∨X.env.scope.names.lookup x=some .local:=by first|exact .inl rfl|exact .inr rfl|assumption):wpAny M A (storeName X.env x u) Q E s:=
 z2o I hN hi hx r (fun s' I' _=>h s' I') hf
theorem Inv.call' {s':Shared} {ch:List Addr} (I:Inv X pins σ H s) (ho:s'.os=s.os) (u:Un (frs X.stack) ch H H' s.heap s'.heap) (hok:HOk X.prog X.w H' s'.heap) (hg:AllBare s'.gens)
  (hch:∀b∈ch,(b∈X.ex∨X.s₀.heap.objs.size<=b)/\b≠X.env.locals/\(∀x c,X.env.cells.lookup x=some c->c≠b)/\∀p∈X.pn++pins,p.1≠b):Inv X pins σ H' s':=by
 obtain⟨h',g',d',t',o'⟩:=s';have e:o'=s.os:=ho;subst e;exact I.call (g':=g') (t':=t') (d':=d') u hok hg hch
end
noncomputable abbrev XK:=Value->Option Addr->Hp->Prop
noncomputable abbrev St:=List (Option V)
noncomputable abbrev VK:=V->Hp->Prop
noncomputable abbrev TE:=St->Hp->VK->Prop
noncomputable abbrev TT:=St->Hp->(Bool->Hp->Prop)->Prop
noncomputable abbrev TA:=St->Hp->(List V->Hp->Prop)->Prop
structure Ends where
 nx:St->Hp->Prop
 rt:VK
 bk:St->Hp->Prop:=fun _ _=>False
 ct:St->Hp->Prop:=fun _ _=>False
noncomputable abbrev TS:=Ends->St->Hp->Prop
noncomputable def EP (X:Cx) (pins:List (Addr×Obj)) (σ:St) (Q:VK) (u:Value) (s':Shared):Prop:=∃v H',Inv X pins σ H' s'/\RelV v u/\Q v H'
noncomputable def TP (X:Cx) (pins:List (Addr×Obj)) (σ:St) (Q:Bool->Hp->Prop) (b:Bool) (s':Shared):Prop:=∃H',Inv X pins σ H' s'/\Q b H'
noncomputable def AP (X:Cx) (pins:List (Addr×Obj)) (σ:St) (Q:List V->Hp->Prop) (us:List Value) (s':Shared):Prop:=∃vs H',Inv X pins σ H' s'/\Vals vs us/\Q vs H'
noncomputable def SP (X:Cx) (pins:List (Addr×Obj)) (D:Ends) (f:Flow) (s':Shared):Prop:=
 match f with
 | .next=>∃σ' H',Inv X pins σ' H' s'/\D.nx σ' H'
 | .brk=>∃σ' H',Inv X pins σ' H' s'/\D.bk σ' H'
 | .cont=>∃σ' H',Inv X pins σ' H' s'/\D.ct σ' H'
 | .ret u=>∃v σ' H',Inv X pins σ' H' s'/\RelV v u/\D.rt v H'
noncomputable def PE (X:Cx) (e:Expr) (t:TE):Prop:=
 ∀(pins:List (Addr×Obj)) (s:Shared) (σ:St) (H:Hp) (Q:VK),Inv X pins σ H s->t σ H Q->wpAny (model X.prog X.w) X.A (eval e X.env) (EP X pins σ Q) X.xe s
noncomputable def PT (X:Cx) (e:Expr) (t:TT):Prop:=
 ∀(pins:List (Addr×Obj)) (s:Shared) (σ:St) (H:Hp) (Q:Bool->Hp->Prop),Inv X pins σ H s->t σ H Q->wpAny (model X.prog X.w) X.A (isTrue e X.env (eval e X.env)) (TP X pins σ Q) X.xe s
noncomputable def PW (X:Cx) (e:Expr) (t:TT):Prop:=
 ∀(whole:Sem Value) (pins:List (Addr×Obj)) (s:Shared) (σ:St) (H:Hp) (Q:Bool->Hp->Prop),Inv X pins σ H s->t σ H Q->wpAny (model X.prog X.w) X.A (isTrue e X.env whole) (TP X pins σ Q) X.xe s
theorem PW.pt {X:Cx} {e:Expr} {t:TT} (h:PW X e t):PT X e t:=h _
noncomputable def PA (X:Cx) (es:List Expr) (t:TA):Prop:=
 ∀(pos:Pos) (pins:List (Addr×Obj)) (s:Shared) (σ:St) (H:Hp) (Q:List V->Hp->Prop),Inv X pins σ H s->t σ H Q->wpAny (model X.prog X.w) X.A (spliced (backTo pos (starEach es X.env))) (AP X pins σ Q) X.xe s
noncomputable def PS (X:Cx) (st:Stmt) (t:TS):Prop:=
 ∀(pins:List (Addr×Obj)) (s:Shared) (σ:St) (H:Hp) (D:Ends),Inv X pins σ H s->t D σ H->wpAny (model X.prog X.w) X.A (exec st X.env) (SP X pins D) X.xe s
noncomputable def PSs (X:Cx) (st:List Stmt) (t:TS):Prop:=
 ∀(pins:List (Addr×Obj)) (s:Shared) (σ:St) (H:Hp) (D:Ends),Inv X pins σ H s->t D σ H->wpAny (model X.prog X.w) X.A (execs st X.env) (SP X pins D) X.xe s
theorem thn {α:Type} {t:Sem α} {Q Q':α->Shared->Prop} {M:Model} {A:Around} {E:Value->Shared->Prop} {s:Shared} (h:wpAny M A t Q E s) (hQ:∀a s,Q a s->Q' a s):wpAny M A t Q' E s:=wpAny_mono h hQ fun _ _ x=>x
section
variable {X:Cx}
noncomputable def z5l (i:Nat):TE:=fun σ H Q=>∃v,σ[i]?=some (some v)/\Q v H
noncomputable def tC (v:V):TE:=fun _ H Q=>Q v H
theorem y4l {i:Nat} {x:Str} {pos:Pos} (hN:X.N[i]?=some x) (hv:Vis X.env.scope x) (hd:(x == ("__debug__" : Str))=false:=by decide) (hcd:(x == ("__classdict__" : Str))=false:=by decide):PE X (.Name x pos) (z5l i):=by
 intro pins s σ H Q I h;obtain⟨v,e,h⟩:=h;obtain⟨m,hn,hl⟩:=I.loc;obtain⟨u,r,l⟩:=hl i x v hN e hv;have fin:EP X pins σ Q u s:=⟨v,H,I,r,h⟩
 rcases l with⟨hk,hm⟩|⟨hk,c,hc,hcell⟩
 ·exact wpAny_Name (wpAny_loadName_local I.ok.kind hk hn hm fin) hd
 ·rcases hk with hk|hk
  ·exact wpAny_Name (wpAny_loadName_cell I.ok.kind hk hc hcell fin) hd
  ·exact wpAny_Name (wpAny_loadName_free I.ok.kind hk hc hcell fin hcd) hd
theorem zF {i j pos}:PE X (.Constant (.int i) j pos) (tC (.int i)):=fun _ _ _ H _ I h=>wpAny_Constant_int ⟨.int i,H,I.tok _,⟨_,rfl⟩,h⟩
theorem xC {b j pos}:PE X (.Constant (.bool b) j pos) (tC (.bl b)):=fun _ _ _ H _ I h=>Constant_bool ⟨.bl b,H,I,rfl,h⟩
theorem jZ {j pos}:PE X (.Constant .none j pos) (tC .non):=fun _ _ _ H _ I h=>Constant_none ⟨.non,H,I,rfl,h⟩
theorem zS {x j pos}:PE X (.Constant (.str x) j pos) (tC (.str x)):=fun _ _ _ H _ I h=>Calls.Constant_str ⟨.str x,H,I.tok _,⟨_,rfl⟩,h⟩
noncomputable def Gl (X:Cx) (x:Str):Prop:=X.env.kindOf x=some .globalImplicit
theorem vg {E:Value->Shared->Prop} {pins:List (Addr×Obj)} {s:Shared} {σ:St} {H:Hp} {x:Str} {u:Value} {pos:Pos} {Q:Value->Shared->Prop} (I:Inv X pins σ H s) (hg:Gl X x) (hm:X.mg x=some u) (h:Q u s)
  (hd:(x == ("__debug__" : Str))=false:=by decide):wpAny (model X.prog X.w) X.A (eval (.Name x pos) X.env) Q E s:=
 Calls.Name_function_global I.ok.kind hg (Calls.loadGlobal_global (by rw[I.ok.glob];exact I.mod.glob.keeps I.bk) hm h) hd
theorem jr {E:Value->Shared->Prop} {pins:List (Addr×Obj)} {s:Shared} {σ:St} {H:Hp} {x:Str} {u:Value} {pos:Pos} {Q:Value->Shared->Prop} (I:Inv X pins σ H s) (hg:Gl X x) (hm:X.mg x=none) (hv:bootBuiltins x=some u) (h:Q u s)
  (hn:x≠ "__name__" :=by decide) (hd:(x == ("__debug__" : Str))=false:=by decide):wpAny (model X.prog X.w) X.A (eval (.Name x pos) X.env) Q E s:=by
 obtain⟨mb,h1,h2⟩:=I.mod.blt;exact Calls.Name_function_global I.ok.kind hg (Calls.loadGlobal_builtin (by rw[I.ok.glob];exact I.mod.glob.keeps I.bk) hm (by rw[I.ok.blt];exact h1.keeps I.bk) ((h2 x hn).trans hv) h) hd
theorem v6 {x:Str} {v:V} {u:Value} {pos:Pos} (hg:Gl X x) (hm:X.mg x=some u) (r:RelV v u) (hd:(x == ("__debug__" : Str))=false:=by decide):PE X (.Name x pos) (tC v):=
 fun _ _ _ H _ I h=>vg I hg hm ⟨v,H,I,r,h⟩ hd
theorem z4x {x:Str} {v:V} {u:Value} {pos:Pos} (hg:Gl X x) (hm:X.mg x=none) (hv:bootBuiltins x=some u) (r:RelV v u) (hn:x≠ "__name__" :=by decide) (hd:(x == ("__debug__" : Str))=false:=by decide):PE X (.Name x pos) (tC v):=
 fun _ _ _ H _ I h=>jr I hg hm hv ⟨v,H,I,r,h⟩ hn hd
variable {a b:Expr} {ta tb:TE} {pos:Pos}
noncomputable def PC (X:Cx) (op:CmpOp) (a b:Expr) (t:TE):Prop:=
 ∀(pins:List (Addr×Obj)) (s:Shared) (σ:St) (H:Hp) (Q:VK),Inv X pins σ H s->t σ H Q->
  wpAny (model X.prog X.w) X.A (eval a X.env) (fun v s₁=>wpAny (model X.prog X.w) X.A (eval b X.env) (fun u s₂=>wpAny (model X.prog X.w) X.A (compareOp op v u) (EP X pins σ Q) X.xe s₂) X.xe s₁) X.xe s
theorem y1K (b:Expr) {op:CmpOp} (h:op≠.In) (h2:op≠.NotIn):behindInMarks op b=false:=by
 have e1:(op == CmpOp.In)=false:=by cases op <;> first|rfl|exact absurd rfl h
 have e2:(op == CmpOp.NotIn)=false:=by cases op <;> first|rfl|exact absurd rfl h2
 cases b <;> simp [behindInMarks,e1,e2]
noncomputable def tB (t:TE):TT:=fun σ H Q=>t σ H fun x H1=>∃c,x=.bl c/\Q c H1
theorem y4e {op:CmpOp} {t:TE} (h:PC X op a b t) (h1:behindInMarks op b=false:=by first|exact y1K _ (by decide) (by decide)|rfl):PT X (.Compare a [op] [b] pos) (tB t):=by
 intro pins s σ H Q I hw;refine wpAny_isTrue_Compare1 (thn (h pins s σ H _ I hw) fun v s1 h1=>thn h1 fun u s2 h2=>thn h2 fun c s3 ⟨x,H1,I1,r1,q1⟩=>?_) h1;obtain⟨d,rfl,q⟩:=q1;cases r1;exact wpAny_truthy_bool ⟨H1,I1,q⟩
theorem yd {e:Expr} {t:TE} (h:PE X e t) (he:∀whole,isTrue e X.env whole=(do let v ←whole;standAt e.pos;holding [v] (truthy v)):=by intro _;rfl):PT X e (tB t):=by
 intro pins s σ H Q I hw;refine isTrue_plain (thn (h pins s σ H _ I hw) fun v s1 ⟨x,H1,I1,r1,q1⟩=>?_) (he _);obtain⟨d,rfl,q⟩:=q1;cases r1;exact wpAny_truthy_bool ⟨H1,I1,q⟩
variable {tA tB':TT} {rest:List Expr}
noncomputable def y6P (t u:TT):TT:=fun σ H Q=>t σ H fun c H1=>if c=true then u σ H1 Q else Q false H1
noncomputable def tOr (t u:TT):TT:=fun σ H Q=>t σ H fun c H1=>if c=true then Q true H1 else u σ H1 Q
noncomputable def y6I (t:TT):TT:=fun σ H Q=>t σ H fun c H1=>Q (!c) H1
theorem z4v (ha:PT X a tA):PW X (.BoolOp .And [a] pos) tA:=by
 intro wh pins s σ H Q I h;refine isTrue_and (thn (ha pins s σ H Q I h) fun c s1 e=>?_);cases c with
 | true=>exact isTrue_and_nil e
 | false=>exact e
theorem z3K (ha:PT X a tA):PW X (.BoolOp .Or [a] pos) tA:=by
 intro wh pins s σ H Q I h;refine isTrue_or (thn (ha pins s σ H Q I h) fun c s1 e=>?_);cases c with
 | false=>exact isTrue_or_nil e
 | true=>exact e
theorem z8h (ha:PT X a tA) (hb:PW X (.BoolOp .And (b::rest) pos) tB'):PW X (.BoolOp .And (a::b::rest) pos) (y6P tA tB'):=by
 intro wh pins s σ H Q I h;refine isTrue_and (thn (ha pins s σ H _ I h) fun c s1 ⟨H1,I1,q1⟩=>?_);cases c with
 | true=>exact hb wh pins s1 σ H1 Q I1 q1
 | false=>exact⟨H1,I1,q1⟩
theorem z7K (ha:PT X a tA) (hb:PW X (.BoolOp .Or (b::rest) pos) tB'):PW X (.BoolOp .Or (a::b::rest) pos) (tOr tA tB'):=by
 intro wh pins s σ H Q I h;refine isTrue_or (thn (ha pins s σ H _ I h) fun c s1 ⟨H1,I1,q1⟩=>?_);cases c with
 | true=>exact⟨H1,I1,q1⟩
 | false=>exact hb wh pins s1 σ H1 Q I1 q1
theorem xc (ha:PT X a tA):PT X (.UnaryOp .Not a pos) (y6I tA):=by
 intro pins s σ H Q I h;exact isTrue_not (ha pins s σ H (fun c H1=>Q (!c) H1) I h)
noncomputable def y4X (ta tb:TE):TE:=fun σ H Q=>ta σ H fun x H1=>∃c,x=.bl c/\if c=true then tb σ H1 Q else Q (.bl false) H1
noncomputable def y6f (ta tb:TE):TE:=fun σ H Q=>ta σ H fun x H1=>∃c,x=.bl c/\if c=true then Q (.bl true) H1 else tb σ H1 Q
noncomputable def y5i (ta:TE):TE:=fun σ H Q=>ta σ H fun x H1=>∃c,x=.bl c/\Q (.bl (!c)) H1
theorem wW {op} {t:TE} (h:PE X a t):PE X (.BoolOp op [a] pos) t:=fun pins s σ H Q I hw=>BoolOp_one (h pins s σ H Q I hw)
theorem kP (ha:PE X a ta) (hb:PE X (.BoolOp .And (b::rest) pos) tb):PE X (.BoolOp .And (a::b::rest) pos) (y4X ta tb):=by
 intro pins s σ H Q I h;refine BoolOp_and (thn (ha pins s σ H _ I h) fun v s1 ⟨x,H1,I1,r1,q1⟩=>?_);obtain⟨c,rfl,q1⟩:=q1;cases r1;refine wpAny_truthy_bool ?_;cases c with
 | true=>exact hb pins s1 σ H1 Q I1 q1
 | false=>exact⟨.bl false,H1,I1,rfl,q1⟩
noncomputable def tIf (t:TT) (ta tb:TE):TE:=fun σ H Q=>t σ H fun c H1=>if c=true then ta σ H1 Q else tb σ H1 Q
theorem z6O {c:Expr} (hc:PT X c tA) (ha:PE X a ta) (hb:PE X b tb):PE X (.IfExp c a b pos) (tIf tA ta tb):=by
 intro pins s σ H Q I h;refine wpAny_IfExp (thn (hc pins s σ H _ I h) fun d s1 ⟨H1,I1,q1⟩=>?_);cases d with
 | true=>exact ha pins s1 σ H1 Q I1 q1
 | false=>exact hb pins s1 σ H1 Q I1 q1
end
noncomputable def SqL (K:PySem.W.Frag) (H:Hp) (a:Addr) (xs:List V):Prop:=
 Rd H a (.lst xs)∨
  ∃(o:Obj) (its:Array Value) (n:Nat),K.lookup a=some o/\o.cls=.type "list" /\o.dict=none/\o.data=.seq its n/\its.size<=sizeLine/\Vals xs its.toList
noncomputable def SqT (K:PySem.W.Frag) (H:Hp) (a:Addr) (xs:List V):Prop:=
 Rd H a (.tup xs)∨
  ∃(o:Obj) (its:Array Value) (n:Nat),K.lookup a=some o/\o.cls=.type "tuple" /\o.data=.seq its n/\its.size<=sizeLine/\Vals xs its.toList
noncomputable def y6v:Value->Option V
 | .none=>some .non
 | .bool b=>some (.bl b)
 | .int i _=>some (.int i)
 | .str x _=>some (.str x)
 | .bytes b _=>some (.byt b)
 | .float b _=>some (.flt b)
 | .ref a=>some (.ref a)
 | .type n=>some (.ty n)
 | _=>none
theorem RelV.abs {x:V} {u:Value} (r:RelV x u):y6v u=some x:=by
 cases x with
 | non=>cases r;rfl
 | bl _=>cases r;rfl
 | int _=>obtain⟨t,rfl⟩:=r;rfl
 | str _=>obtain⟨t,rfl⟩:=r;rfl
 | byt _=>obtain⟨t,rfl⟩:=r;rfl
 | flt _=>obtain⟨t,rfl⟩:=r;rfl
 | ref _=>cases r;rfl
 | ty _=>cases r;rfl
theorem RelV.inj {x y:V} {u:Value} (r:RelV x u) (q:RelV y u):x=y:=Option.some.inj (r.abs.symm.trans q.abs)
theorem Vals.inj:∀ {xs ys:List V} {us:List Value},Vals xs us->Vals ys us->xs=ys
 | _,_,_,.nil,.nil=>rfl
 | _,_,_,.cons r t,.cons r' t'=>by rw[r.inj r',Vals.inj t t']
section
variable {X:Cx} {pins:List (Addr×Obj)} {σ:St} {H:Hp} {s:Shared} {a:Addr} {xs ys:List V}
theorem SqL.of {K:PySem.W.Frag} (h:H a=some (.lst xs)):SqL K H a xs:=.inl (.inl h)
theorem SqT.of {K:PySem.W.Frag} (h:H a=some (.tup xs)):SqT K H a xs:=.inl (.inl h)
theorem Inv.list (I:Inv X pins σ H s) (h:SqL X.K H a xs):∃its:List Value,Vals xs its/\PlainL s.heap a its.toArray/\xs.length<=sizeLine:=by
 rcases h with h|⟨o,its,n,hk,hc,hd,hs,hz,r⟩
 ·obtain⟨z,its,n,r,e⟩:=h.ok I.hok;exact⟨its,r,⟨_,n,e,rfl,rfl,rfl⟩,z⟩
 ·refine⟨its.toList,r,⟨o,n,I.kIn a o hk,hc,hd,by simpa using hs⟩,?_⟩;have e:=r.length;simp only [Array.length_toList] at e;omega
theorem Inv.tuple (I:Inv X pins σ H s) (h:SqT X.K H a xs):∃its:List Value,Vals xs its/\IsTup s.heap a its.toArray/\xs.length<=sizeLine:=by
 rcases h with h|⟨o,its,n,hk,hc,hs,hz,r⟩
 ·obtain⟨z,its,r,p⟩:=h.ok I.hok;exact⟨its,r,p,z⟩
 ·refine⟨its.toList,r,⟨o,I.kIn a o hk,hc,n,by simpa using hs⟩,?_⟩;have e:=r.length;simp only [Array.length_toList] at e;omega
theorem Inv.list_inj (I:Inv X pins σ H s) (h:SqL X.K H a xs) (h':SqL X.K H a ys):xs=ys:=by
 obtain⟨its,r,⟨o,n,e,_,_,d⟩,_⟩:=I.list h;obtain⟨its',r',⟨o',n',e',_,_,d'⟩,_⟩:=I.list h';rw[e] at e';cases e';rw[d] at d';injection d' with d1 _;have:its=its':=by simpa using congrArg Array.toList d1
 subst this;exact r.inj r'
theorem Inv.tuple_inj (I:Inv X pins σ H s) (h:SqT X.K H a xs) (h':SqT X.K H a ys):xs=ys:=by
 obtain⟨its,r,⟨o,e,_,n,d⟩,_⟩:=I.tuple h;obtain⟨its',r',⟨o',e',_,n',d'⟩,_⟩:=I.tuple h';rw[e] at e';cases e';rw[d] at d';injection d' with d1 _;have:its=its':=by simpa using congrArg Array.toList d1
 subst this;exact r.inj r'
end
noncomputable abbrev Cx.wish (X:Cx) (E:Value->Shared->Prop):Cx:={ X with xe:=E }
noncomputable abbrev Cx.nox (X:Cx):Cx:=X.wish fun _ _=>False
theorem Cx.Ok.wish {X:Cx} (ok:X.Ok) (E:Value->Shared->Prop):(X.wish E).Ok:=
 ⟨ok.mod,ok.kind,ok.glob,ok.blt,ok.above,ok.inj,ok.has,ok.cab,ok.hd,ok.frames,ok.stk,ok.exf,ok.bs,ok.bsz,ok.noex,ok.exfs,ok.funs,ok.frf⟩
theorem Cx.Ok.unwish {X:Cx} {E:Value->Shared->Prop} (ok:(X.wish E).Ok):X.Ok:=
 ⟨ok.mod,ok.kind,ok.glob,ok.blt,ok.above,ok.inj,ok.has,ok.cab,ok.hd,ok.frames,ok.stk,ok.exf,ok.bs,ok.bsz,ok.noex,ok.exfs,ok.funs,ok.frf⟩
section
variable {X:Cx} {pins:List (Addr×Obj)} {σ:St} {H:Hp} {s:Shared} {E:Value->Shared->Prop}
theorem Inv.wish (I:Inv X pins σ H s) (E:Value->Shared->Prop):Inv (X.wish E) pins σ H s:=⟨I.ok.wish E,I.os,I.bare,I.base,I.loc,I.cell,I.free,I.freeC,I.pin,I.hok,I.len⟩
theorem Inv.unwish (I:Inv (X.wish E) pins σ H s):Inv X pins σ H s:=⟨I.ok.unwish,I.os,I.bare,I.base,I.loc,I.cell,I.free,I.freeC,I.pin,I.hok,I.len⟩
theorem SP.unwish {D:Ends} {f:Flow} {s':Shared} (h:SP (X.wish E) pins D f s'):SP X pins D f s':=by
 cases f with
 | next=>obtain⟨σ',H',I,q⟩:=h;exact⟨σ',H',I.unwish,q⟩
 | brk=>obtain⟨σ',H',I,q⟩:=h;exact⟨σ',H',I.unwish,q⟩
 | cont=>obtain⟨σ',H',I,q⟩:=h;exact⟨σ',H',I.unwish,q⟩
 | ret u=>obtain⟨v,σ',H',I,r,q⟩:=h;exact⟨v,σ',H',I.unwish,r,q⟩
theorem PSs.nox {st:List Stmt} {t:TS} (h:PSs X.nox st t):PSs X st t:=fun pins s σ H D I hw=>
 wpAny_mono (h pins s σ H D (I.wish _) hw) (fun _ _ q=>q.unwish) fun _ _ z=>False.elim z
end
section
variable {X:Cx} {st:Stmt} {rest:List Stmt} {t u:TS} {e:Expr} {te:TE} {pos:Pos}
noncomputable def y4P:TS:=fun D σ H=>D.nx σ H
noncomputable def y6E (t u:TS):TS:=fun D σ H=>t { D with nx:=u D } σ H
theorem zM:PSs X [] y4P:=fun _ _ σ H _ I h=>wpAny_execs_nil ⟨σ,H,I,h⟩
theorem zC (h1:PS X st t) (h2:PSs X rest u):PSs X (st::rest) (y6E t u):=by
 intro pins s σ H D I h;refine wpAny_execs_cons (thn (h1 pins s σ H { D with nx:=u D } I h) fun f s1 q=>?_);cases f with
 | next=>
  obtain⟨σ',H',I',q⟩:=q;exact h2 pins s1 σ' H' D I' q
 | ret v=>exact q
 | brk=>exact q
 | cont=>exact q
theorem zE (h1:PS X st t):PSs X [st] t:=by
 intro pins s σ H D I h;refine wpAny_execs_cons (thn (h1 pins s σ H D I h) fun f s1 q=>?_);cases f with
 | next=>exact wpAny_execs_nil q
 | ret v=>exact q
 | brk=>exact q
 | cont=>exact q
noncomputable def y4W:TS:=fun D σ H=>D.bk σ H
noncomputable def y5k:TS:=fun D σ H=>D.ct σ H
theorem Inv.quiet {pins:List (Addr×Obj)} {σ:St} {H:Hp} {s:Shared} (I:Inv X pins σ H s):interactive X.env=false:=by simp [interactive,I.ok.kind]
noncomputable def y4T (te:TE):TS:=fun D σ H=>te σ H fun _ H1=>D.nx σ H1
theorem yt (he:PE X e te) (hs:swapsWith e none pos.line X.env=pure false:=by rfl):PS X (.Expr e pos) (y4T te):=by
 intro pins s σ H D I h;exact wpAny_Expr_any (thn (he pins s σ H _ I h) fun v s1 ⟨x,H1,I1,r1,q1⟩=>⟨σ,H1,I1,q1⟩) I.quiet hs
noncomputable def y6G (te:TE):TS:=fun D σ H=>te σ H D.rt
theorem zK (he:PE X e te):PS X (.Return (some e) pos) (y6G te):=by
 intro pins s σ H D I h;exact wpAny_Return_some (thn (he pins s σ H _ I h) fun v s1 ⟨x,H1,I1,r1,q1⟩=>⟨x,σ,H1,I1,r1,q1⟩)
noncomputable def y5h:TS:=fun D _ H=>D.rt .non H
noncomputable def y6K (c:TT) (t u:TS):TS:=fun D σ H=>c σ H fun b H1=>if b=true then t D σ H1 else u D σ H1
theorem zi {c:Expr} {a b:List Stmt} {tc:TT} (hc:PT X c tc) (ha:PSs X a t) (hb:PSs X b u):PS X (.If c a b pos) (y6K tc t u):=by
 intro pins s σ H D I h;refine wpAny_If (thn (hc pins s σ H _ I h) fun d s1 ⟨H1,I1,q1⟩=>?_);cases d with
 | true=>exact ha pins s1 σ H1 D I1 q1
 | false=>exact hb pins s1 σ H1 D I1 q1
noncomputable def y4Q:TS:=fun _ _ _=>False
theorem yT:PS X st y4Q:=fun _ _ _ _ _ _ h=>h.elim
end
noncomputable abbrev TG:=V->St->Hp->(St->Hp->Prop)->Prop
noncomputable abbrev TGs:=List V->St->Hp->(St->Hp->Prop)->Prop
noncomputable def PG (X:Cx) (target:Expr) (t:TG):Prop:=
 ∀(pins:List (Addr×Obj)) (s:Shared) (σ:St) (H:Hp) (v:V) (u:Value) (Q:St->Hp->Prop),Inv X pins σ H s->RelV v u->t v σ H Q->
  wpAny (model X.prog X.w) X.A (assign target X.env u) (fun _ s'=>∃σ' H',Inv X pins σ' H' s'/\Q σ' H') X.xe s
noncomputable def PGs (X:Cx) (ts:List Expr) (t:TGs):Prop:=
 ∀(pins:List (Addr×Obj)) (s:Shared) (σ:St) (H:Hp) (vs:List V) (us:List Value) (Q:St->Hp->Prop),Inv X pins σ H s->Vals vs us->t vs σ H Q->
  wpAny (model X.prog X.w) X.A (assignInOrder ((assignEach ts X.env).map (·.2)) us) (fun _ s'=>∃σ' H',Inv X pins σ' H' s'/\Q σ' H') X.xe s
noncomputable abbrev y6Y:=V->V->V->Hp->(Hp->Prop)->Prop
noncomputable abbrev TIp:=V->V->Hp->VK->Prop
noncomputable def PIp (X:Cx) (op:Operator) (t:TIp):Prop:=
 ∀(pins:List (Addr×Obj)) (s:Shared) (σ:St) (H:Hp) (x y:V) (v u:Value) (Q:VK),Inv X pins σ H s->RelV x v->RelV y u->t x y H Q->
  wpAny (model X.prog X.w) X.A (inplaceOp op v u) (EP X pins σ Q) X.xe s
section
variable {X:Cx} {pos:Pos}
noncomputable def jW (i:Nat):TG:=fun v σ H Q=>Q (σ.set i (some v)) H
theorem zQ {i:Nat} {x:Str} (hN:X.N.Nodup) (hi:X.N[i]?=some x) (hx:Loc X.env.scope x) (hf:X.fn x=true∨X.env.scope.names.lookup x=some .local:=by first|exact .inl rfl|exact .inr rfl|assumption):PG X (.Name x pos) (jW i):=by
 intro pins s σ H v u Q I r h;exact wpAny_assign_Name (kE I hN hi hx r (fun s' I'=>⟨_,H,I',h⟩) hf)
noncomputable def y5a:TGs:=fun vs σ H Q=>vs=[]/\Q σ H
noncomputable def z3n (t:TG) (u:TGs):TGs:=fun vs σ H Q=>∃v r,vs=v::r/\t v σ H fun σ' H'=>u r σ' H' Q
theorem jT:PGs X [] y5a:=by
 intro pins s σ H vs us Q I r h;obtain⟨e,h⟩:=h;subst e;cases r;exact assignInOrder_nil ⟨σ,H,I,h⟩
theorem zm {e:Expr} {es:List Expr} {t:TG} {u:TGs} (h1:PG X e t) (h2:PGs X es u)
  (hs:(assignEach (e::es) X.env).map (·.2)=assign e X.env::(assignEach es X.env).map (·.2):=by rfl):PGs X (e::es) (z3n t u):=by
 intro pins s σ H vs us Q I r h;obtain⟨v,vr,e1,h⟩:=h;subst e1;cases r with
 | cons r rr=>
  rw[hs];refine assignInOrder_cons (thn (h1 pins s σ H _ _ _ I r h) fun _ s1 ⟨σ1,H1,I1,q1⟩=>?_);exact h2 pins s1 σ1 H1 _ _ Q I1 rr q1
noncomputable def y5w (K:PySem.W.Frag) (n:Nat) (t:TGs):TG:=fun v σ H Q=>∃a xs,v=.ref a/\SqT K H a xs/\xs.length=n/\t xs σ H Q
theorem kO {es:List Expr} {k:Nat} {t:TGs} {n:Nat} (hc:X.calm=true) (h:PGs X es t)
  (hn:(assignEach es X.env).length=n:=by rfl) (hst:(assignEach es X.env).findIdx? (·.1)=none:=by rfl):PG X (.Tuple es k pos) (y5w X.K n t):=by
 intro pins s σ H v u Q I r hw;obtain⟨a,xs,e1,hq,hl,hw⟩:=hw;subst e1;cases r;obtain⟨its,rv,ht,hz⟩:=I.tuple hq;refine assign_Tuple_tuple (I.ok.hd hc) ht (by simp [hn,←hl,rv.length]) hst fun h' hx=>?_;have I1:Inv X pins σ H { s with heap:=h' }:=I.kept (t':=s.toks) fun b o e=>hx b o (Nat.ne_of_lt (Heap.lt_size e)) e;exact h pins _ σ H xs _ Q I1 (by simpa using rv) hw
noncomputable def y6u (to ti:TE) (t:y6Y):TG:=fun v σ H Q=>to σ H fun o H1=>ti σ H1 fun i H2=>t o i v H2 fun H3=>Q σ H3
noncomputable def y5l (te:TE) (g:TG):TS:=fun D σ H=>te σ H fun x H1=>g x σ H1 D.nx
theorem zR {i:Nat} {x:Str} {e:Expr} {te:TE} {pos':Pos} (hN:X.N.Nodup) (hi:X.N[i]?=some x) (hx:Loc X.env.scope x) (he:PE X e te) (hs:swapsWith e (some (.Name x pos')) pos.line X.env=pure false:=by rfl) (hf:X.fn x=true∨X.env.scope.names.lookup x=some .local:=by first|exact .inl rfl|exact .inr rfl|assumption) :
  PS X (.Assign [.Name x pos'] e pos) (y5l te (jW i)):=by
 intro pins s σ H D I h;refine wpAny_Assign_Name (thn (he pins s σ H _ I h) fun v s1 ⟨y,H1,I1,r1,q1⟩=>?_) hs;exact kE I1 hN hi hx r1 (fun s2 I2=>⟨_,H1,I2,q1⟩) hf
noncomputable def y6H (i j:Nat) (ta:TA):TS:=fun D σ H=>ta σ H fun vs H1=>∃v w,vs=[v,w]/\D.nx ((σ.set i (some v)).set j (some w)) H1
theorem y4f {i j:Nat} {x y:Str} {a b:Expr} {ta:TA} {px py pt:Pos} {kt k2 pt2} (hc:X.calm=true) (hN:X.N.Nodup) (hi:X.N[i]?=some x) (hj:X.N[j]?=some y) (hij:i≠j)
  (hx:X.env.scope.names.lookup x=some .local) (hy:X.env.scope.names.lookup y=some .local) (ha:PA X [a,b] ta)
  (hw:swappedStores [.Tuple [.Name x px,.Name y py] kt pt] (.Tuple [a,b] k2 pt2) X.env=pure (some [x,y]))
  (hs:swapsWithSole [.Tuple [.Name x px,.Name y py] kt pt] (.Tuple [a,b] k2 pt2) pos.line X.env=pure false:=by rfl) :
  PS X (.Assign [.Tuple [.Name x px,.Name y py] kt pt] (.Tuple [a,b] k2 pt2) pos) (y6H i j ta):=by
 intro pins s σ H D I h;rw[exec_Assign_arm];refine wpAny_bind (wpAny_standAt ?_);rw[hs];refine wpAny_bind (wpAny_pure ?_);rw[if_neg (by decide)];refine wpAny_bind (Tuple_ (thn (ha _ pins s σ H _ I h) fun us s1 ⟨vs,H1,I1,r1,q1⟩=>?_));obtain⟨v,w,e1,q1⟩:=q1;subst e1;obtain⟨u1,u2,rfl,rv,rw'⟩:∃u1 u2,us=[u1,u2]/\RelV v u1/\RelV w u2:=by
  cases r1 with
  | cons p q=>
   cases q with
   | cons p' q'=>
    cases q';exact⟨_,_,rfl,p,p'⟩
 refine wpAny_newObj_type ?_ (by show 2<=sizeLine;decide);have I2:Inv X pins σ H1 { s1 with heap:=s1.heap.push { cls:=.type "tuple",data:=.seq [u1,u2].toArray } }:=I1.kept (t':=s1.toks) fun b o e=>Heap.get?_push_of_some _ e;rw[hw];refine wpAny_bind (wpAny_pure ?_);show wpAny (model X.prog X.w) X.A (do rule "assign.swapped-stores";let items ←unpackItems (.ref s1.heap.objs.size) 2 none;assignInOrder [fun v=>bindName X.env y v,fun v=>bindName X.env x v] items.reverse;pure Flow.next) _ _ _;refine wpAny_bind (wpAny_rule (wpAny_bind (unpackItems_tuple (items:=#[u1,u2]) (I.ok.hd hc) (IsTup.new s1.heap _) fun h' hx'=>?_)));have I3:=I2.kept (h':=h') (t':=s1.toks) fun b o e=>hx' b o (Nat.ne_of_lt (Heap.lt_size e)) e;show wpAny _ _ (assignInOrder [fun v=>bindName X.env y v,fun v=>bindName X.env x v] [u2,u1] >>= fun _=>pure Flow.next) _ _ _;refine wpAny_bind (assignInOrder_cons (wpAny_bindName (kE I3 hN hj (.inl hy) rw' (fun s2 I4=>?_) (.inr hy))));refine assignInOrder_cons (wpAny_bindName (kE I4 hN hi (.inl hx) rv (fun s3 I5=>assignInOrder_nil (wpAny_pure ?_)) (.inr hx)));rw[List.set_comm _ _ (Ne.symm hij)] at I5;exact⟨_,H1,I5,q1⟩
noncomputable def y6O (i:Nat) (te:TE) (ti:TIp):TS:=fun D σ H=>∃x,σ[i]?=some (some x)/\te σ H fun y H1=>ti x y H1 fun z H2=>D.nx (σ.set i (some z)) H2
theorem y4g {i:Nat} {x:Str} {e:Expr} {te:TE} {op:Operator} {ti:TIp} {pos':Pos} (hN:X.N.Nodup) (hi:X.N[i]?=some x) (hx:Loc X.env.scope x) (he:PE X e te) (ho:PIp X op ti) (hf:X.fn x=true∨X.env.scope.names.lookup x=some .local:=by first|exact .inl rfl|exact .inr rfl|assumption) :
  PS X (.AugAssign (.Name x pos') op e pos) (y6O i te ti):=by
 intro pins s σ H D I h;obtain⟨v,e1,h⟩:=h;obtain⟨m,hn,hl⟩:=I.loc;have vis:Vis X.env.scope x:=by rcases hx with k|k;exact .inl k;exact .inr (.inl k)
 obtain⟨u,r,l⟩:=hl i x v hi e1 vis;refine wpAny_AugAssign_Name ?_;have go:wpAny (model X.prog X.w) X.A (eval e X.env) (fun w s₂=>wpAny (model X.prog X.w) X.A (inplaceOp op u w) (fun r s₃=>wpAny (model X.prog X.w) X.A (storeName X.env x r) (fun _=>SP X pins D .next) X.xe s₃) X.xe s₂) X.xe s:=by
  refine thn (he pins s σ H _ I h) fun w s1 ⟨y,H1,I1,r1,q1⟩=>?_;refine thn (ho pins s1 σ H1 v y u w _ I1 r r1 q1) fun z s2 ⟨zv,H2,I2,r2,q2⟩=>?_;exact kE I2 hN hi hx r2 (fun s3 I3=>⟨_,H2,I3,q2⟩) hf
 rcases l with⟨hk,hm⟩|⟨hk,c,hc,hcell⟩
 ·exact wpAny_loadName_local I.ok.kind hk hn hm go
 ·rcases hk with hk|hk
  ·exact wpAny_loadName_cell I.ok.kind hk hc hcell go
  ·rcases hx with k|k
   ·have:X.env.scope.names.lookup x=some .free:=hk;rw[k] at this;cases this
   ·have:X.env.scope.names.lookup x=some .free:=hk;rw[k] at this;cases this
noncomputable def ipI (f:Int->Int->Int):TIp:=fun x y H Q=>∃i j,x=.int i/\y=.int j/\Q (.int (f i j)) H
theorem y5C:PIp X .Add (ipI fun i j=>i+j):=by
 intro pins s σ H x y v u Q I r1 r2 h;obtain⟨i,j,e1,e2,q⟩:=h;subst e1;subst e2;obtain⟨t,rfl⟩:=r1;obtain⟨t',rfl⟩:=r2;exact iadd_int ⟨.int _,H,I.tok _,⟨_,rfl⟩,q⟩
end
section
variable {X:Cx} {pos:Pos}
noncomputable def y4M (c:TT) (tb:TS):TS:=fun D σ H=>∃W:Nat->St->Hp->Prop,(∃m,W m σ H)/\∀m σ H,W m σ H->
 c σ H fun b H1=>if b=true then ∃N:St->Hp->Prop,(∀σ' H',N σ' H'->∃m',m'<m/\W m' σ' H')/\tb { D with nx:=N,ct:=N,bk:=D.nx } σ H1 else D.nx σ H1
theorem qG {c:Expr} {body:List Stmt} {tc:TT} {tb:TS} (hp:PassesOwn (model X.prog X.w) X.A X.env X.xe) (hc:PT X c tc) (hb:PSs X body tb):PS X (.While c body [] pos) (y4M tc tb):=by
 intro pins s σ H D I h;obtain⟨W,⟨m0,w0⟩,turn⟩:=h;refine wpAny_While (codeAny_whileLoop (fun n s'=>∃σ' H',Inv X pins σ' H' s'/\W n σ' H') ?_ m0 ⟨σ,H,I,w0⟩);rintro n s1 ⟨σ1,H1,I1,w1⟩;refine wpAny_passesOwn hp (thn (hc pins s1 σ1 H1 _ I1 (turn n σ1 H1 w1)) fun b s2 ⟨H2,I2,q2⟩=>?_);cases b with
 | true=>
  obtain⟨N,hN,q2⟩:=q2;rw[if_pos rfl];refine wpAny_passesOwn hp (thn (hb pins s2 σ1 H2 _ I2 q2) fun f s3 q3=>?_);cases f with
  | next=>
   obtain⟨σ3,H3,I3,n3⟩:=q3;obtain⟨m',hm,w3⟩:=hN σ3 H3 n3;exact⟨m',hm,σ3,H3,I3,w3⟩
  | cont=>
   obtain⟨σ3,H3,I3,n3⟩:=q3;obtain⟨m',hm,w3⟩:=hN σ3 H3 n3;exact⟨m',hm,σ3,H3,I3,w3⟩
  | brk=>exact q3
  | ret v=>exact q3
 | false=>
  rw[if_neg Bool.false_ne_true];exact wpAny_execs_nil ⟨σ1,H2,I2,q2⟩
end
structure It where
 go:Nat->Hp->Prop
 yld:Nat->Hp->V->Hp->Prop
 stop:Nat->Hp->Prop
noncomputable def z6p (X:Cx) (pins:List (Addr×Obj)) (H:Hp) (b:Addr):Prop:=
 H b=none/\b≠X.env.locals/\b∉X.fs/\(b∈X.ex∨X.s₀.heap.objs.size<=b)/\(∀x c,X.env.cells.lookup x=some c->c≠b)/\∀p∈X.pn++pins,p.1≠b
theorem Inv.fpOk {X:Cx} {pins:List (Addr×Obj)} {σ:St} {H H':Hp} {s:Shared} {b:Addr} (I:Inv X pins σ H s) (hb:s.heap.objs.size<=b) (hn:H' b=none):z6p X pins H' b:=by
 refine⟨hn,Nat.ne_of_gt (Nat.lt_of_lt_of_le I.lt hb),I.nofs hb,.inr (Nat.le_trans I.sz hb),fun x c e z=>?_,fun p hp z=>?_⟩
 ·obtain⟨v,q⟩:=I.cell x c e;exact absurd (Nat.lt_of_lt_of_le q.lt (by rw[z];exact hb)) (Nat.lt_irrefl _)
 ·exact absurd (Nat.lt_of_lt_of_le (Heap.lt_size (I.pin p hp).1) (by rw[z];exact hb)) (Nat.lt_irrefl _)
structure Turn (P:Program) (w:World) (K:PySem.W.Frag) (tg:Expr) (J:It) (fp:List Addr) (it:Addr) (tn:Nat->Heap->Prop):Prop where
 mem:it∈fp
 obj:∀i h,tn i h->∀b∈fp,∃o,h.get? b=some o/\∀v,o.data≠.cell v
 keep:∀i h h',tn i h->(∀b∈fp,∀o,h.get? b=some o->h'.get? b=some o)->tn i h'
 item:∀(X:Cx),X.prog=P->X.w=w->X.K=K->X.calm=true->∀(i:Nat) (pins:List (Addr×Obj)) (s:Shared) (σ:St) (H:Hp) (E:Value->Shared->Prop),Inv X pins σ H s->(∀b∈fp,z6p X pins H b)->tn i s.heap->J.go i H->
  wpAny (model P w) X.A (pyNext (.ref it)) (fun r s1=>∃u,r=some u/\
   wpAny (model P w) X.A (letOwnedTupleGo tg (.ref it) u) (fun _ s2=>∃x H',Inv X pins σ H' s2/\RelV x u/\J.yld i H x H'/\tn (i+1) s2.heap/\∀b∈fp,H' b=none) E s1) E s
 done:∀(X:Cx),X.prog=P->X.w=w->X.K=K->X.calm=true->∀(i:Nat) (pins:List (Addr×Obj)) (s:Shared) (σ:St) (H:Hp) (E:Value->Shared->Prop),Inv X pins σ H s->(∀b∈fp,z6p X pins H b)->tn i s.heap->J.stop i H->
  wpAny (model P w) X.A (pyNext (.ref it)) (fun r s1=>r=none/\Inv X pins σ H s1) E s
 self:∀(A:Around) (i:Nat) (s:Shared) (Q:Value->Shared->Prop) (E:Value->Shared->Prop),tn i s.heap->Q (.ref it) s->wpAny (model P w) A (pyIter (.ref it)) Q E s
noncomputable abbrev TI:=St->Hp->(It->Hp->Prop)->Prop
noncomputable def PIE (X:Cx) (pins:List (Addr×Obj)) (σ:St) (tg:Expr) (R:It->Hp->Prop) (itv:Value) (s2:Shared):Prop:=
 ∃(it:Addr) (fp:List Addr) (tn:Nat->Heap->Prop) (J:It) (H':Hp),itv=.ref it/\Inv X pins σ H' s2/\Turn X.prog X.w X.K tg J fp it tn/\tn 0 s2.heap/\(∀b∈fp,z6p X pins H' b)/\R J H'
noncomputable def PI (X:Cx) (tg iter:Expr) (wi:TI):Prop:=
 ∀(pins:List (Addr×Obj)) (s:Shared) (σ:St) (H:Hp) (R:It->Hp->Prop),Inv X pins σ H s->wi σ H R->
  wpAny (model X.prog X.w) X.A (eval iter X.env) (fun v s1=>wpAny (model X.prog X.w) X.A (pyIter v) (PIE X pins σ tg R) X.xe s1) X.xe s
theorem z5W {M:Model} {A:Around} {E:Value->Shared->Prop} {s:Shared} {tg:Expr} {it:Addr} {u:Value} {o:Obj} {n:String} {vs:Array Value} {Q:Unit->Shared->Prop} (ho:s.heap.get? it=some o) (hc:o.cls=.type n) (hd:o.data=.fields vs)
    (hn:["enumerate", "zip", "dict_itemiterator", "dict_reverseitemiterator", "odict_iterator", "itertools.zip_longest", "itertools.pairwise"].contains n=false) (hQ:Q () s):wpAny M A (letOwnedTupleGo tg (.ref it) u) Q E s:=by
  unfold letOwnedTupleGo;cases tg <;> first
    | exact wpAny_pure hQ
    | (cases u <;> first
        | exact wpAny_pure hQ
        | (refine wpAny_bind (wpAny_load ho ?_)
           rw[hc,hd];show wpAny M A (if (["enumerate", "zip", "dict_itemiterator", "dict_reverseitemiterator", "odict_iterator", "itertools.zip_longest", "itertools.pairwise"].contains n && vs[0]? == some (rawInt _))=true then _ else _) Q E s;rw[if_neg (by intro h;rw[hn,Bool.false_and] at h;cases h)];exact wpAny_pure hQ))
noncomputable def Itl (K:PySem.W.Frag) (a:Addr):It:=
 ⟨fun i H=>∃xs x,SqL K H a xs/\xs[i]?=some x,fun i H x H'=>H'=H/\∀xs,SqL K H a xs->xs[i]?=some x,fun i H=>∃xs,SqL K H a xs/\xs.length<=i⟩
noncomputable def Itt (K:PySem.W.Frag) (a:Addr):It:=
 ⟨fun i H=>∃xs x,SqT K H a xs/\xs[i]?=some x,fun i H x H'=>H'=H/\∀xs,SqT K H a xs->xs[i]?=some x,fun i H=>∃xs,SqT K H a xs/\xs.length<=i⟩
noncomputable def Itr (lo:Int) (n:Nat):It:=⟨fun i _=>i<n,fun i H x H'=>H'=H/\x=.int (lo+i),fun i _=>n<=i⟩
theorem z7s {P:Program} {w:World} {K:PySem.W.Frag} {tg:Expr} (a it:Addr):Turn P w K tg (Itl K a) [it] it (fun i h=>h.IsListIter it a i) where
 mem:=by simp
 obj:=fun i h st b hb=>by
  have e:b=it:=by simpa using hb
  subst e;obtain⟨o,e,c,d⟩:=st;exact⟨o,e,fun v z=>by rw[d] at z;cases z⟩
 keep:=fun i h h' st k=>st.at fun o e=>k it (by simp) o e
 item:=by
  intro X hP hw hK hc i pins s σ H E I hf st hg;subst hP hw hK;obtain⟨xs,x,hq,hx⟩:=hg;obtain⟨its,rv,p,hz⟩:=I.list hq;obtain⟨u,hu,ru⟩:=rv.get hx;obtain⟨f0,f1,f2,f3,f4,f5⟩:=hf it (by simp);refine wpAny_pyNext_list_item st p.isList (x:=u) (by simpa using hu) fun h' st' sb=>?_;have I1:Inv X pins σ H { s with heap:=h' }:=I.turned (t':=s.toks) (fun b o hb e=>(sb.2 b hb).trans e) f0 f1 f3 f4 f5;obtain⟨o,e,c,d⟩:=id st';exact⟨u,rfl,z5W (s:={ s with heap:=h' }) e c d (by decide) ⟨x,H,I1,ru,⟨rfl,fun ys hy=>by rw[I.list_inj hy hq];exact hx⟩,st',fun b hb=>(hf b hb).1⟩⟩
 done:=by
  intro X hP hw hK hc i pins s σ H E I hf st hg;subst hP hw hK;obtain⟨xs,hq,hx⟩:=hg;obtain⟨its,rv,p,hz⟩:=I.list hq;obtain⟨f0,f1,f2,f3,f4,f5⟩:=hf it (by simp);have hl:=rv.length;exact wpAny_pyNext_list_end (I.ok.hd hc) st p.isList (by simp;omega) fun h' eb=>⟨rfl,I.turned (t':=s.toks) (fun b o hb e=>eb b o hb e) f0 f1 f3 f4 f5⟩
 self:=fun _ _ _ _ _ st h=>wpAny_pyIter_listiter st h
theorem z6v {P:Program} {w:World} {K:PySem.W.Frag} {tg:Expr} (a it:Addr):Turn P w K tg (Itt K a) [it] it (fun i h=>h.IsTupleIter it a i) where
 mem:=by simp
 obj:=fun i h st b hb=>by
  have e:b=it:=by simpa using hb
  subst e;obtain⟨o,e,c,d⟩:=st;exact⟨o,e,fun v z=>by rw[d] at z;cases z⟩
 keep:=fun i h h' st k=>st.at fun o e=>k it (by simp) o e
 item:=by
  intro X hP hw hK hc i pins s σ H E I hf st hg;subst hP hw hK;obtain⟨xs,x,hq,hx⟩:=hg;obtain⟨its,rv,p,hz⟩:=I.tuple hq;obtain⟨u,hu,ru⟩:=rv.get hx;obtain⟨f0,f1,f2,f3,f4,f5⟩:=hf it (by simp);refine wpAny_pyNext_tuple_item st (show s.heap.IsTuple a its.toArray from p) (x:=u) (by simpa using hu) fun h' st' sb=>?_;have I1:Inv X pins σ H { s with heap:=h' }:=I.turned (t':=s.toks) (fun b o hb e=>(sb.2 b hb).trans e) f0 f1 f3 f4 f5;obtain⟨o,e,c,d⟩:=id st';exact⟨u,rfl,z5W (s:={ s with heap:=h' }) e c d (by decide) ⟨x,H,I1,ru,⟨rfl,fun ys hy=>by rw[I.tuple_inj hy hq];exact hx⟩,st',fun b hb=>(hf b hb).1⟩⟩
 done:=by
  intro X hP hw hK hc i pins s σ H E I hf st hg;subst hP hw hK;obtain⟨xs,hq,hx⟩:=hg;obtain⟨its,rv,p,hz⟩:=I.tuple hq;obtain⟨f0,f1,f2,f3,f4,f5⟩:=hf it (by simp);have hl:=rv.length;exact wpAny_pyNext_tuple_end (I.ok.hd hc) st (show s.heap.IsTuple a its.toArray from p) (by simp;omega) fun h' eb=>⟨rfl,I.turned (t':=s.toks) (fun b o hb e=>eb b o hb e) f0 f1 f3 f4 f5⟩
 self:=fun _ _ _ _ _ st h=>wpAny_pyIter_tupleiter st h
theorem z6x {P:Program} {w:World} {K:PySem.W.Frag} {tg:Expr} (it:Addr) (lo:Int) (n:Nat):Turn P w K tg (Itr lo n) [it] it (fun i h=>IsRangeIter h it (lo+(i:Nat)*1) ((n:Int)-(i:Nat)) 1) where
 mem:=by simp
 obj:=fun i h st b hb=>by
  have e:b=it:=by simpa using hb
  subst e;exact⟨_,st,fun v z=>by
   have z':Data.fields _=Data.cell v:=z;cases z'⟩
 keep:=fun i h h' st k=>k it (by simp) _ st
 item:=by
  intro X hP hw hK hc i pins s σ H E I hf st hg;subst hP hw hK;obtain⟨f0,f1,f2,f3,f4,f5⟩:=hf it (by simp);have W:=Walks.range (prog:=X.prog) (w:=X.w) (I.ok.hd hc) it lo 1 n;refine W.item i s _ _ hg st fun v h' tk hv st' kk=>?_;obtain⟨t,rfl⟩:=hv;have I1:Inv X pins σ H { s with heap:=h',toks:=tk }:=I.turned (fun b o hb e=>kk b o (by simpa using hb) e) f0 f1 f3 f4 f5;refine⟨_,rfl,z5W (s:={ s with heap:=h',toks:=tk }) (n:= "range_iterator") st' rfl rfl (by decide) ⟨.int (lo+i),H,I1,⟨t,?_⟩,⟨rfl,rfl⟩,st',fun b hb=>(hf b hb).1⟩⟩;rw[Int.mul_one]
 done:=by
  intro X hP hw hK hc i pins s σ H E I hf st hg;subst hP hw hK;obtain⟨f0,f1,f2,f3,f4,f5⟩:=hf it (by simp);exact wpAny_pyNext_range_end (I.ok.hd hc) st (by have:n<=i:=hg;omega) fun h' eb=>⟨rfl,I.turned (t':=s.toks) (fun b o hb e=>eb b o hb e) f0 f1 f3 f4 f5⟩
 self:=fun _ _ _ _ _ st h=>wpAny_pyIter_rangeiter st h
section
variable {X:Cx} {tg:Expr}
noncomputable def y5H (K:PySem.W.Frag) (tl:TE):TI:=fun σ H R=>tl σ H fun x H1=>∃a,x=.ref a/\(∃xs,SqL K H1 a xs)/\R (Itl K a) H1
noncomputable def y5r (K:PySem.W.Frag) (tl:TE):TI:=fun σ H R=>tl σ H fun x H1=>∃a,x=.ref a/\(∃xs,SqT K H1 a xs)/\R (Itt K a) H1
theorem yC {l:Expr} {tl:TE} (hl:PE X l tl):PI X tg l (y5H X.K tl):=by
 intro pins s σ H R I h;refine thn (hl pins s σ H _ I h) fun v s1 ⟨x,H1,I1,r1,q1⟩=>?_;obtain⟨a,e,⟨xs,hq⟩,q⟩:=q1;subst e;cases r1;obtain⟨its,rv,p,hz⟩:=I1.list hq;refine wpAny_pyIter_list p.isList ?_;refine⟨s1.heap.objs.size,[s1.heap.objs.size],_,_,H1,rfl,I1.kept (t':=s1.toks) fun b o e=>Heap.get?_push_of_some _ e,z7s a _,⟨_,Heap.get?_push_size _ rfl,rfl,rfl⟩,fun b hb=>?_,q⟩;have e:b=s1.heap.objs.size:=by simpa using hb
 subst e;exact I1.fpOk (Nat.le_refl _) (I1.hok.fresh (Nat.le_refl _))
theorem y2R {l:Expr} {tl:TE} (hl:PE X l tl):PI X tg l (y5r X.K tl):=by
 intro pins s σ H R I h;refine thn (hl pins s σ H _ I h) fun v s1 ⟨x,H1,I1,r1,q1⟩=>?_;obtain⟨a,e,⟨xs,hq⟩,q⟩:=q1;subst e;cases r1;obtain⟨its,rv,p,hz⟩:=I1.tuple hq;refine wpAny_pyIter_tuple (show s1.heap.IsTuple a its.toArray from p) ?_;refine⟨s1.heap.objs.size,[s1.heap.objs.size],_,_,H1,rfl,I1.kept (t':=s1.toks) fun b o e=>Heap.get?_push_of_some _ e,z6v a _,⟨_,Heap.get?_push_size _ rfl,rfl,rfl⟩,fun b hb=>?_,q⟩;have e:b=s1.heap.objs.size:=by simpa using hb
 subst e;exact I1.fpOk (Nat.le_refl _) (I1.hok.fresh (Nat.le_refl _))
theorem z6K {pins:List (Addr×Obj)} {σ:St} {H:Hp} {s:Shared} {R:It->Hp->Prop} {E:Value->Shared->Prop} {lo hi:Int} {t u v:Tok} {tk:Nat} (I:Inv X pins σ H s) (h1:-(2^62)<=lo) (h2:lo<2^62) (h3:-(2^62)<=hi) (h4:hi<2^62)
  (q:R (Itr lo (hi-lo).toNat) H):wpAny (model X.prog X.w) X.A (pyIter (.ref s.heap.objs.size)) (PIE X pins σ tg R) E { s with heap:=s.heap.push { cls:=.type "range",data:=.fields #[.int lo t,.int hi u,.int 1 v] },toks:=tk }:=by
 refine wpAny_pyIter_range (IsRange.new ..) (small_one h1 h2 h3 h4) ?_;have I1:Inv X pins σ H { s with heap:=s.heap.push { cls:=.type "range",data:=.fields #[.int lo t,.int hi u,.int 1 v] },toks:=tk }:=I.kept fun b o e=>Heap.get?_push_of_some _ e;refine⟨(s.heap.push { cls:=.type "range",data:=.fields #[.int lo t,.int hi u,.int 1 v] }).objs.size,[(s.heap.push { cls:=.type "range",data:=.fields #[.int lo t,.int hi u,.int 1 v] }).objs.size],_,_,H,rfl,
  I1.kept (t':=tk) fun b o e=>Heap.get?_push_of_some _ e,z6x _ lo (hi-lo).toNat,?_,fun b hb=>?_,q⟩
 ·have e1:lo+((0:Nat):Int)*1=lo:=by simp
  have e2:(((hi-lo).toNat:Nat):Int)-((0:Nat):Int)=Builtin.Range.rangeSize lo hi 1:=by rw[rangeSize_one];split <;> omega
  show IsRangeIter _ _ (lo+((0:Nat):Int)*1) ((((hi-lo).toNat:Nat):Int)-((0:Nat):Int)) 1;rw[e1,e2];exact Heap.get?_push_size _ rfl
 ·have e:b=(s.heap.push { cls:=.type "range",data:=.fields #[.int lo t,.int hi u,.int 1 v] }).objs.size:=by simpa using hb
  subst e;exact I1.fpOk (Nat.le_refl _) (I1.hok.fresh (Nat.le_refl _))
noncomputable def y5G (ta:TA):TI:=fun σ H R=>ta σ H fun vs H1=>∃j:Int,vs=[.int j]/\-(2^62)<=j/\j<2^62/\R (Itr 0 j.toNat) H1
noncomputable def y5F (ta:TA):TI:=fun σ H R=>ta σ H fun vs H1=>∃i j:Int,vs=[.int i,.int j]/\(-(2^62)<=i/\i<2^62/\-(2^62)<=j/\j<2^62)/\R (Itr i (j-i).toNat) H1
theorem xX {a:Expr} {ta:TA} {p pos:Pos} (hg:Gl X "range") (hm:X.mg "range" = none) (ha:PA X [a] ta) (hs:starEach [a] X.env=[(false,eval a X.env)]:=by rfl):PI X tg (.Call (.Name "range" p) [a] [] pos) (y5G ta):=by
 intro pins s σ H R I h;refine Call_ (jr I hg hm boot_range (PyProof.Rows.callWith_type1 (thn (ha pos pins s σ H _ I h) fun us s1 ⟨vs,H1,I1,r1,q1⟩=>?_) hs rfl));obtain⟨j,e,q1,q2,q⟩:=q1;subst e;cases r1 with
 | cons r rr=>
  cases rr;obtain⟨t,rfl⟩:=r;exact call_range_1 (z6K I1 (by omega) (by omega) q1 q2 (by simpa using q))
theorem z8n {a b:Expr} {ta:TA} {p pos:Pos} (hg:Gl X "range") (hm:X.mg "range" = none) (ha:PA X [a,b] ta) (hs:starEach [a,b] X.env=[(false,eval a X.env),(false,eval b X.env)]:=by rfl) (hs2:starEach [b] X.env=[(false,eval b X.env)]:=by rfl) :
  PI X tg (.Call (.Name "range" p) [a,b] [] pos) (y5F ta):=by
 intro pins s σ H R I h;refine Call_ (jr I hg hm boot_range (PyProof.Rows.callWith_type1 (thn (ha pos pins s σ H _ I h) fun us s1 ⟨vs,H1,I1,r1,q1⟩=>?_) (by rw[hs,hs2]) (by rw[hs2];rfl)));obtain⟨i,j,e,⟨q1,q2,q3,q4⟩,q⟩:=q1;subst e;cases r1 with
 | cons r rr=>
  cases rr with
  | cons r' rr=>
   cases rr;obtain⟨t,rfl⟩:=r;obtain⟨t',rfl⟩:=r';exact call_range_2 (z6K I1 q1 q2 q3 q4 q)
noncomputable def y6L (wi:TI) (g:TG) (tb:TS):TS:=fun D σ H=>wi σ H fun J H1=>∃W:Nat->Nat->St->Hp->Prop,(∃m,W 0 m σ H1)/\∀i m σ H,W i m σ H->
 (J.stop i H/\D.nx σ H)∨(J.go i H/\∃N:St->Hp->Prop,(∀σ' H',N σ' H'->∃m',m'<m/\W (i+1) m' σ' H')/\∀x H',J.yld i H x H'->g x σ H' fun σ2 H2=>tb { D with nx:=N,ct:=N,bk:=D.nx } σ2 H2)
noncomputable def z3N (fp:List Addr) (h:Heap):List (Addr×Obj):=fp.filterMap fun b=>(h.get? b).map fun o=>(b,o)
theorem qJ {fp:List Addr} {h:Heap} {b:Addr} {o:Obj} (hb:b∈fp) (e:h.get? b=some o):(b,o)∈z3N fp h:=List.mem_filterMap.mpr ⟨b,hb,by rw[e];rfl⟩
theorem z8x {fp:List Addr} {h:Heap} {p:Addr×Obj} (hp:p∈z3N fp h):p.1∈fp/\h.get? p.1=some p.2:=by
 obtain⟨b,hb,e⟩:=List.mem_filterMap.mp hp;cases q:h.get? b with
 | none=>rw[q] at e;cases e
 | some o=>
  rw[q] at e;have e':(b,o)=p:=Option.some.inj e;subst e';exact⟨hb,q⟩
theorem Inv.pinned {pins:List (Addr×Obj)} {σ:St} {H:Hp} {s:Shared} {fp:List Addr} (I:Inv X pins σ H s) (hf:∀b∈fp,z6p X pins H b) (ho:∀b∈fp,∃o,s.heap.get? b=some o/\∀v,o.data≠.cell v):Inv X (pins++z3N fp s.heap) σ H s:=
 I.pins_of fun p hp=>(List.mem_append.mp hp).elim (fun z=>I.pin p (List.mem_append_right _ z)) fun z=>by
  obtain⟨hb,e⟩:=z8x z;obtain⟨f0,f1,f2,_⟩:=hf p.1 hb;obtain⟨o,e',d⟩:=ho p.1 hb;rw[e] at e';cases e';exact⟨e,f0,f1,f2,d⟩
theorem Inv.unpinned {pins pl:List (Addr×Obj)} {σ:St} {H:Hp} {s:Shared} (I:Inv X (pins++pl) σ H s):Inv X pins σ H s:=I.pins_of fun p hp=>I.pin p (List.mem_append_right _ (List.mem_append_left _ hp))
theorem y6 {iter:Expr} {body:List Stmt} {wi:TI} {g:TG} {tb:TS} {pos:Pos} (hp:PassesOwn (model X.prog X.w) X.A X.env X.xe) (hc:X.calm=true) (hi:PI X tg iter wi) (hg:PG X tg g) (hb:PSs X body tb)
  (hs:∀x,foldedSetIterable iter X.env x=pure x:=by intro _;rfl):PS X (.For tg iter body [] pos) (y6L wi g tb):=by
 intro pins s σ H D I h;refine wpAny_For (thn (hi pins s σ H _ I h) fun v s1 h1=>thn h1 fun itv s2 h2=>?_) hs;obtain⟨it,fp,tn,J,H2,e,I2,T,st2,f2,W,⟨m0,w0⟩,turn⟩:=h2;subst e;have stat:∀ {H':Hp},(∀b∈fp,H' b=none)->∀b∈fp,z6p X pins H' b:=fun hn b hb=>⟨hn b hb,(f2 b hb).2⟩
 refine codeAny_forLoop_any (fun n s'=>∃i σ' H',Inv X pins σ' H' s'/\tn i s'.heap/\(∀b∈fp,H' b=none)/\W i n σ' H') ?_ m0 ⟨0,σ,H2,I2,st2,fun b hb=>(f2 b hb).1,w0⟩;rintro n s3 ⟨i,σ3,H3,I3,st3,fr3,w3⟩;rcases turn i n σ3 H3 w3 with⟨stop,qn⟩|⟨go,N,hN,step⟩
 ·refine wpAny_passesOwn hp (thn (T.done X rfl rfl rfl hc i pins s3 σ3 H3 X.xe I3 (stat fr3) st3 stop) fun r s4 ⟨hr,I4⟩=>?_);subst hr;exact wpAny_execs_nil ⟨σ3,H3,I4,qn⟩
 ·refine wpAny_passesOwn hp (thn (T.item X rfl rfl rfl hc i pins s3 σ3 H3 X.xe I3 (stat fr3) st3 go) fun r s4 ⟨u,hr,h4⟩=>?_);subst hr;refine wpAny_passesOwn hp (thn h4 fun _ s5 ⟨x,H5,I5,r5,y5,st5,fr5⟩=>?_);have I5':=I5.pinned (stat fr5) (T.obj _ _ st5);refine wpAny_passesOwn hp (thn (hg _ s5 σ3 H5 x u _ I5' r5 (step x H5 y5)) fun _ s6 ⟨σ6,H6,I6,q6⟩=>?_);refine wpAny_passesOwn hp (thn (hb _ s6 σ6 H6 _ I6 q6) fun f s7 q7=>?_);have again:∀ {σ7:St} {H7:Hp},Inv X (pins++z3N fp s5.heap) σ7 H7 s7->N σ7 H7->∃m,m<n/\∃i σ' H',Inv X pins σ' H' s7/\tn i s7.heap/\(∀b∈fp,H' b=none)/\W i m σ' H':=fun {σ7 H7} I7 n7=>by
   obtain⟨m',hm,w7⟩:=hN σ7 H7 n7;refine⟨m',hm,i+1,σ7,H7,I7.unpinned,T.keep _ _ _ st5 fun b hb o e=>(I7.pin (b,o) (List.mem_append_right _ (List.mem_append_right _ (qJ hb e)))).1,fun b hb=>?_,w7⟩;obtain⟨o,e,d⟩:=T.obj _ _ st5 b hb;exact (I7.pin (b,o) (List.mem_append_right _ (List.mem_append_right _ (qJ hb e)))).2.1
  cases f with
  | next=>obtain⟨σ7,H7,I7,n7⟩:=q7;exact again I7 n7
  | cont=>obtain⟨σ7,H7,I7,n7⟩:=q7;exact again I7 n7
  | brk=>obtain⟨σ7,H7,I7,q7⟩:=q7;exact⟨σ7,H7,I7.unpinned,q7⟩
  | ret v=>obtain⟨x7,σ7,H7,I7,r7,q7⟩:=q7;exact⟨x7,σ7,H7,I7.unpinned,r7,q7⟩
end
theorem y1p {K:PySem.W.Frag} {a:Addr} {xs:List V} {g:TG} {tb:TS} {D:Ends} {σ:St} {H:Hp} (Pv:Nat->St->Hp->Prop) (h0:Pv 0 σ H) (hl:∀i σ H,i<=xs.length->Pv i σ H->SqL K H a xs)
  (hs:∀i x σ H,xs[i]?=some x->Pv i σ H->g x σ H fun σ2 H2=>tb { D with nx:=Pv (i+1),ct:=Pv (i+1),bk:=D.nx } σ2 H2) (hd:∀σ H,Pv xs.length σ H->D.nx σ H) :
  ∃W:Nat->Nat->St->Hp->Prop,(∃m,W 0 m σ H)/\∀i m σ H,W i m σ H->
   ((Itl K a).stop i H/\D.nx σ H)∨((Itl K a).go i H/\∃N:St->Hp->Prop,(∀σ' H',N σ' H'->∃m',m'<m/\W (i+1) m' σ' H')/\∀x H',(Itl K a).yld i H x H'->g x σ H' fun σ2 H2=>tb { D with nx:=N,ct:=N,bk:=D.nx } σ2 H2):=by
 refine⟨fun i m σ H=>m=xs.length-i/\i<=xs.length/\Pv i σ H,⟨xs.length,by simp,Nat.zero_le _,h0⟩,?_⟩;rintro i m σ H ⟨rfl,hi,p⟩;have q:=hl i σ H hi p;by_cases hlt:i<xs.length
 ·refine .inr ⟨⟨xs,xs[i],q,by simp [hlt]⟩,Pv (i+1),fun σ' H' p'=>⟨xs.length-(i+1),by omega,rfl,hlt,p'⟩,fun x H' y=>?_⟩;obtain⟨e,y⟩:=y;subst e;exact hs i x σ _ (y xs q) p
 ·have e:i=xs.length:=by omega
  subst e;exact .inl ⟨⟨xs,q,Nat.le_refl _⟩,hd σ H p⟩
theorem y3m {K:PySem.W.Frag} {a:Addr} {xs:List V} {g:TG} {tb:TS} {D:Ends} {σ:St} {H:Hp} (Pv:Nat->St->Hp->Prop) (h0:Pv 0 σ H) (hl:∀i σ H,i<=xs.length->Pv i σ H->SqT K H a xs)
  (hs:∀i x σ H,xs[i]?=some x->Pv i σ H->g x σ H fun σ2 H2=>tb { D with nx:=Pv (i+1),ct:=Pv (i+1),bk:=D.nx } σ2 H2) (hd:∀σ H,Pv xs.length σ H->D.nx σ H) :
  ∃W:Nat->Nat->St->Hp->Prop,(∃m,W 0 m σ H)/\∀i m σ H,W i m σ H->
   ((Itt K a).stop i H/\D.nx σ H)∨((Itt K a).go i H/\∃N:St->Hp->Prop,(∀σ' H',N σ' H'->∃m',m'<m/\W (i+1) m' σ' H')/\∀x H',(Itt K a).yld i H x H'->g x σ H' fun σ2 H2=>tb { D with nx:=N,ct:=N,bk:=D.nx } σ2 H2):=by
 refine⟨fun i m σ H=>m=xs.length-i/\i<=xs.length/\Pv i σ H,⟨xs.length,by simp,Nat.zero_le _,h0⟩,?_⟩;rintro i m σ H ⟨rfl,hi,p⟩;have q:=hl i σ H hi p;by_cases hlt:i<xs.length
 ·refine .inr ⟨⟨xs,xs[i],q,by simp [hlt]⟩,Pv (i+1),fun σ' H' p'=>⟨xs.length-(i+1),by omega,rfl,hlt,p'⟩,fun x H' y=>?_⟩;obtain⟨e,y⟩:=y;subst e;exact hs i x σ _ (y xs q) p
 ·have e:i=xs.length:=by omega
  subst e;exact .inl ⟨⟨xs,q,Nat.le_refl _⟩,hd σ H p⟩
theorem z9u {lo:Int} {n:Nat} {g:TG} {tb:TS} {D:Ends} {σ:St} {H:Hp} (Pv:Nat->St->Hp->Prop) (h0:Pv 0 σ H)
  (hs:∀i σ H,i<n->Pv i σ H->g (.int (lo+i)) σ H fun σ2 H2=>tb { D with nx:=Pv (i+1),ct:=Pv (i+1),bk:=D.nx } σ2 H2) (hd:∀σ H,Pv n σ H->D.nx σ H) :
  ∃W:Nat->Nat->St->Hp->Prop,(∃m,W 0 m σ H)/\∀i m σ H,W i m σ H->
   ((Itr lo n).stop i H/\D.nx σ H)∨((Itr lo n).go i H/\∃N:St->Hp->Prop,(∀σ' H',N σ' H'->∃m',m'<m/\W (i+1) m' σ' H')/\∀x H',(Itr lo n).yld i H x H'->g x σ H' fun σ2 H2=>tb { D with nx:=N,ct:=N,bk:=D.nx } σ2 H2):=by
 refine⟨fun i m σ H=>m=n-i/\i<=n/\Pv i σ H,⟨n,by simp,Nat.zero_le _,h0⟩,?_⟩;rintro i m σ H ⟨rfl,hi,p⟩;by_cases hlt:i<n
 ·refine .inr ⟨hlt,Pv (i+1),fun σ' H' p'=>⟨n-(i+1),by omega,rfl,hlt,p'⟩,fun x H' y=>?_⟩;obtain⟨e,y⟩:=y;subst e y;exact hs i σ _ hlt p
 ·have e:i=n:=by omega
  subst e;exact .inl ⟨Nat.le_refl _,hd σ H p⟩
noncomputable abbrev R2:=V->V->Hp->VK->Prop
noncomputable def OpR (X:Cx) (f:Value->Value->Sem Value) (r:R2):Prop:=
 ∀(pins:List (Addr×Obj)) (s:Shared) (σ:St) (H:Hp) (x y:V) (v u:Value) (Q:VK),Inv X pins σ H s->RelV x v->RelV y u->r x y H Q->
  wpAny (model X.prog X.w) X.A (f v u) (EP X pins σ Q) X.xe s
noncomputable def UnR (X:Cx) (f:Value->Sem Value) (r:V->Hp->VK->Prop):Prop:=
 ∀(pins:List (Addr×Obj)) (s:Shared) (σ:St) (H:Hp) (x:V) (v:Value) (Q:VK),Inv X pins σ H s->RelV x v->r x H Q->
  wpAny (model X.prog X.w) X.A (f v) (EP X pins σ Q) X.xe s
noncomputable def qS (X:Cx) (f:Value) (r:List V->Hp->VK->Prop):Prop:=
 ∀(pins:List (Addr×Obj)) (s:Shared) (σ:St) (H:Hp) (xs:List V) (us:List Value) (Q:VK),Inv X pins σ H s->Vals xs us->r xs H Q->
  wpAny (model X.prog X.w) X.A (call f us) (EP X pins σ Q) X.xe s
noncomputable def tOp (r:R2) (ta tb:TE):TE:=fun σ H Q=>ta σ H fun x H1=>tb σ H1 fun y H2=>r x y H2 Q
noncomputable def tUn (r:V->Hp->VK->Prop) (ta:TE):TE:=fun σ H Q=>ta σ H fun x H1=>r x H1 Q
noncomputable def rI (C:Int->Int->Prop) (g:Int->Int->V):R2:=fun x y H Q=>∃i j,x=.int i/\y=.int j/\C i j/\Q (g i j) H
noncomputable def rI0 (g:Int->Int->V):R2:=fun x y H Q=>∃i j,x=.int i/\y=.int j/\Q (g i j) H
noncomputable def rU (g:Int->V):V->Hp->VK->Prop:=fun x H Q=>∃i,x=.int i/\Q (g i) H
section
variable {X:Cx} {a b c:Expr} {ta tb tc:TE} {pos:Pos}
theorem y6A (ha:PE X a ta) (hb:PE X b tb) {pins:List (Addr×Obj)} {s:Shared} {σ:St} {H:Hp} {R:V->V->Hp->Prop} (I:Inv X pins σ H s)
  (h:ta σ H fun x H1=>tb σ H1 fun y H2=>R x y H2) {Q:Value->Shared->Prop} {f:Value->Value->Sem Value}
  (hf:∀v u s2 x y H2,Inv X pins σ H2 s2->RelV x v->RelV y u->R x y H2->wpAny (model X.prog X.w) X.A (f v u) Q X.xe s2) :
  wpAny (model X.prog X.w) X.A (eval a X.env) (fun v s₁=>wpAny (model X.prog X.w) X.A (eval b X.env) (fun u s₂=>wpAny (model X.prog X.w) X.A (f v u) Q X.xe s₂) X.xe s₁) X.xe s:=by
 refine thn (ha pins s σ H _ I h) fun v s1 ⟨x,H1,I1,r1,q1⟩=>?_;refine thn (hb pins s1 σ H1 _ I1 q1) fun u s2 ⟨y,H2,I2,r2,q2⟩=>?_;exact hf v u s2 x y H2 I2 r1 r2 q2
theorem zW {op:Operator} {r:R2} (ho:OpR X (binaryOp op) r) (ha:PE X a ta) (hb:PE X b tb):PE X (.BinOp a op b pos) (tOp r ta tb):=by
 intro pins s σ H Q I h;exact wpAny_BinOp (y6A ha hb I h fun v u s2 x y H2 I2 rx ry q=>ho pins s2 σ H2 x y v u Q I2 rx ry q)
theorem z7L {op:UnaryOp} {r:V->Hp->VK->Prop} (ho:UnR X (unaryOp op) r) (ha:PE X a ta):PE X (.UnaryOp op a pos) (tUn r ta):=by
 intro pins s σ H Q I h;exact UnaryOp_ (thn (ha pins s σ H _ I h) fun v s1 ⟨x,H1,I1,r1,q1⟩=>ho pins s1 σ H1 x v Q I1 r1 q1)
theorem opI {f:Value->Value->Sem Value} {C:Int->Int->Prop} {g:Int->Int->Int}
  (rule:∀(i j:Int) (t u:Tok) (s:Shared) (Q:Value->Shared->Prop) (E:Value->Shared->Prop),C i j->Q (.int (g i j) s.toks) { s with toks:=s.toks+1 }->wpAny (model X.prog X.w) X.A (f (.int i t) (.int j u)) Q E s) :
  OpR X f (rI C fun i j=>.int (g i j)):=by
 intro pins s σ H x y v u Q I rx ry h;obtain⟨i,j,rfl,rfl,hc,q⟩:=h;obtain⟨t,rfl⟩:=rx;obtain⟨t',rfl⟩:=ry;exact rule i j t t' s _ _ hc ⟨.int (g i j),H,I.tok _,⟨_,rfl⟩,q⟩
theorem y6T {f:Value->Value->Sem Value} {g:Int->Int->Int}
  (rule:∀(i j:Int) (t u:Tok) (s:Shared) (Q:Value->Shared->Prop) (E:Value->Shared->Prop),Q (.int (g i j) s.toks) { s with toks:=s.toks+1 }->wpAny (model X.prog X.w) X.A (f (.int i t) (.int j u)) Q E s) :
  OpR X f (rI0 fun i j=>.int (g i j)):=by
 intro pins s σ H x y v u Q I rx ry h;obtain⟨i,j,rfl,rfl,q⟩:=h;obtain⟨t,rfl⟩:=rx;obtain⟨t',rfl⟩:=ry;exact rule i j t t' s _ _ ⟨.int (g i j),H,I.tok _,⟨_,rfl⟩,q⟩
theorem y5Z {f:Value->Value->Sem Value} {g:Int->Int->Bool}
  (rule:∀(i j:Int) (t u:Tok) (s:Shared) (Q:Value->Shared->Prop) (E:Value->Shared->Prop),Q (.bool (g i j)) s->wpAny (model X.prog X.w) X.A (f (.int i t) (.int j u)) Q E s) :
  OpR X f (rI0 fun i j=>.bl (g i j)):=by
 intro pins s σ H x y v u Q I rx ry h;obtain⟨i,j,rfl,rfl,q⟩:=h;obtain⟨t,rfl⟩:=rx;obtain⟨t',rfl⟩:=ry;exact rule i j t t' s _ _ ⟨.bl (g i j),H,I,rfl,q⟩
noncomputable def y6y (i j:Int):Prop:=0<=j/\j<=1000000/\i.natAbs<2^64
theorem ye:OpR X (binaryOp .Add) (rI0 fun i j=>.int (i+j)):=y6T fun _ _ _ _ _ _ _ q=>add_int q
theorem xD:OpR X (binaryOp .Sub) (rI0 fun i j=>.int (i-j)):=y6T fun _ _ _ _ _ _ _ q=>sub_int q
theorem yE:OpR X (binaryOp .Mod) (rI (fun _ j=>0<j) fun i j=>.int (i%j)):=opI fun i j _ _ _ _ _ hc q=>by
 have h1:(0:Int)<j:=hc;exact mod_int' (by omega) (by rw[Int.fmod_eq_emod_of_nonneg i (by omega)];exact q)
theorem y4o:OpR X (binaryOp .Pow) (rI y6y fun i j=>.int (i^j.toNat)):=opI fun _ _ _ _ _ _ _ hc q=>pow_int_small hc.1 hc.2.1 hc.2.2 q
theorem unI {f:Value->Sem Value} {g:Int->Int}
  (rule:∀(i:Int) (t:Tok) (s:Shared) (Q:Value->Shared->Prop) (E:Value->Shared->Prop),Q (.int (g i) s.toks) { s with toks:=s.toks+1 }->wpAny (model X.prog X.w) X.A (f (.int i t)) Q E s) :
  UnR X f (rU fun i=>.int (g i)):=by
 intro pins s σ H x v Q I rx h;obtain⟨i,rfl,q⟩:=h;obtain⟨t,rfl⟩:=rx;exact rule i t s _ _ ⟨.int (g i),H,I.tok _,⟨_,rfl⟩,q⟩
theorem z0V:UnR X (unaryOp .USub) (rU fun i=>.int (-i)):=unI fun _ _ _ _ _ q=>neg_int q
end
noncomputable def y6Q:V->V->Bool
 | .non,.non=>true | .non,.int _=>true | .int _,.non=>true | .non,.bl _=>true | .bl _,.non=>true | .non,.str _=>true | .str _,.non=>true
 | .int _,.int _=>true | .bl _,.bl _=>true | .str _,.str _=>true | .byt _,.byt _=>true
 | .int _,.str _=>true | .str _,.int _=>true | .bl _,.str _=>true | .str _,.bl _=>true
 | _,_=>false
noncomputable def rEq:R2:=fun x y H Q=>y6Q x y=true/\Q (.bl (decide (x=y))) H
noncomputable def rNe:R2:=fun x y H Q=>y6Q x y=true/\Q (.bl (!decide (x=y))) H
theorem y0D {i j:Int}:decide (V.int i=V.int j)=(i == j):=by
 rw[Bool.eq_iff_iff];simp
theorem y2b {i j:Bool}:decide (V.bl i=V.bl j)=(i == j):=by
 rw[Bool.eq_iff_iff];simp
theorem y0C {i j:Str}:decide (V.str i=V.str j)=(i == j):=by
 rw[Bool.eq_iff_iff];simp
theorem y0E {i j:Array UInt8}:decide (V.byt i=V.byt j)=(i.toList == j.toList):=by
 rw[Bool.eq_iff_iff];cases i;cases j;simp
section
variable {X:Cx} {a b c:Expr} {ta tb tc:TE} {pos:Pos}
theorem yB {pins:List (Addr×Obj)} {σ:St} {H:Hp} {s:Shared} {Q:VK} {k k':Bool} (I:Inv X pins σ H s) (q:Q (.bl k) H) (e:k=k'):EP X pins σ Q (.bool k') s:=by
 subst e;exact⟨.bl k,H,I,rfl,q⟩
theorem xE:OpR X (compareOp .Eq) rEq:=by
 intro pins s σ H x y v u Q I rx ry h;obtain⟨hs,q⟩:=h;cases x with
 | non=>
  cases rx;cases y with
  | non=>cases ry;exact PySem.EqNone.eq_none_none (yB I q (by simp))
  | bl j=>cases ry;exact PySem.EqNone.eq_none_bool (yB I q (by simp))
  | int j=>obtain⟨t',rfl⟩:=ry;exact PySem.EqNone.eq_none_int (yB I q (by simp))
  | str j=>obtain⟨t',rfl⟩:=ry;exact PySem.EqNone.eq_none_str (yB I q (by simp))
  | _=>exact absurd (show false=true from hs) Bool.false_ne_true
 | bl i=>
  cases rx;cases y with
  | non=>cases ry;exact PySem.EqNone.eq_bool_none (yB I q (by simp))
  | bl j=>cases ry;exact eq_bool (yB I q y2b)
  | str j=>obtain⟨t',rfl⟩:=ry;exact PySem.EqMixed.eq_bool_str (yB I q (by simp))
  | _=>exact absurd (show false=true from hs) Bool.false_ne_true
 | int i=>
  obtain⟨t,rfl⟩:=rx;cases y with
  | non=>cases ry;exact PySem.EqNone.eq_int_none (yB I q (by simp))
  | int j=>obtain⟨t',rfl⟩:=ry;exact eq_int (yB I q y0D)
  | str j=>obtain⟨t',rfl⟩:=ry;exact PySem.EqMixed.eq_int_str (yB I q (by simp))
  | _=>exact absurd (show false=true from hs) Bool.false_ne_true
 | str i=>
  obtain⟨t,rfl⟩:=rx;cases y with
  | non=>cases ry;exact PySem.EqNone.eq_str_none (yB I q (by simp))
  | bl j=>cases ry;exact PySem.EqMixed.eq_str_bool (yB I q (by simp))
  | int j=>obtain⟨t',rfl⟩:=ry;exact PySem.EqMixed.eq_str_int (yB I q (by simp))
  | str j=>obtain⟨t',rfl⟩:=ry;exact eq_str (yB I q y0C)
  | _=>exact absurd (show false=true from hs) Bool.false_ne_true
 | byt i=>
  obtain⟨t,rfl⟩:=rx;cases y with
  | byt j=>obtain⟨t',rfl⟩:=ry;exact PySem.W.eq_bytes (yB I q y0E)
  | _=>exact absurd (show false=true from hs) Bool.false_ne_true
 | _=>cases y <;> exact absurd (show false=true from hs) Bool.false_ne_true
theorem kQ:OpR X (compareOp .NotEq) rNe:=by
 intro pins s σ H x y v u Q I rx ry h;obtain⟨hs,q⟩:=h;cases x with
 | non=>
  cases rx;cases y with
  | non=>cases ry;exact PySem.EqNone.ne_none_none (yB I q (by simp))
  | bl j=>cases ry;exact PySem.EqNone.ne_none_bool (yB I q (by simp))
  | int j=>obtain⟨t',rfl⟩:=ry;exact PySem.EqNone.ne_none_int (yB I q (by simp))
  | str j=>obtain⟨t',rfl⟩:=ry;exact PySem.EqNone.ne_none_str (yB I q (by simp))
  | _=>exact absurd (show false=true from hs) Bool.false_ne_true
 | bl i=>
  cases rx;cases y with
  | non=>cases ry;exact PySem.EqNone.ne_bool_none (yB I q (by simp))
  | bl j=>cases ry;exact ne_bool (yB I q (congrArg not y2b))
  | str j=>obtain⟨t',rfl⟩:=ry;exact PySem.EqMixed.ne_bool_str (yB I q (by simp))
  | _=>exact absurd (show false=true from hs) Bool.false_ne_true
 | int i=>
  obtain⟨t,rfl⟩:=rx;cases y with
  | non=>cases ry;exact PySem.EqNone.ne_int_none (yB I q (by simp))
  | int j=>obtain⟨t',rfl⟩:=ry;exact ne_int (yB I q (congrArg not y0D))
  | str j=>obtain⟨t',rfl⟩:=ry;exact PySem.EqMixed.ne_int_str (yB I q (by simp))
  | _=>exact absurd (show false=true from hs) Bool.false_ne_true
 | str i=>
  obtain⟨t,rfl⟩:=rx;cases y with
  | non=>cases ry;exact PySem.EqNone.ne_str_none (yB I q (by simp))
  | bl j=>cases ry;exact PySem.EqMixed.ne_str_bool (yB I q (by simp))
  | int j=>obtain⟨t',rfl⟩:=ry;exact PySem.EqMixed.ne_str_int (yB I q (by simp))
  | str j=>obtain⟨t',rfl⟩:=ry;exact ne_str (yB I q (congrArg not y0C))
  | _=>exact absurd (show false=true from hs) Bool.false_ne_true
 | byt i=>
  obtain⟨t,rfl⟩:=rx;cases y with
  | byt j=>obtain⟨t',rfl⟩:=ry;exact PySem.W.ne_bytes (yB I q (congrArg not y0E))
  | _=>exact absurd (show false=true from hs) Bool.false_ne_true
 | _=>cases y <;> exact absurd (show false=true from hs) Bool.false_ne_true
theorem wa:OpR X (compareOp .Lt) (rI0 fun i j=>.bl (decide (i<j))):=y5Z fun _ _ _ _ _ _ _ q=>lt_int q
theorem z1n:OpR X (compareOp .LtE) (rI0 fun i j=>.bl (decide (i<=j))):=y5Z fun _ _ _ _ _ _ _ q=>le_int q
theorem z7M:OpR X (compareOp .Gt) (rI0 fun i j=>.bl (decide (j<i))):=y5Z fun _ _ _ _ _ _ _ q=>gt_int q
theorem y4q:OpR X (compareOp .GtE) (rI0 fun i j=>.bl (decide (j<=i))):=y5Z fun _ _ _ _ _ _ _ q=>ge_int q
theorem v8:OpR X (compareOp .In) (fun x y H Q=>∃i j,x=.str i/\y=.str j/\Q (.bl (!(Builtin.Str.occurrences j i 0 j.length 1).isEmpty)) H):=by
 intro pins s σ H x y v u Q I rx ry h;obtain⟨i,j,rfl,rfl,q⟩:=h;obtain⟨t,rfl⟩:=rx;obtain⟨t',rfl⟩:=ry;exact in_str (yB I q rfl)
theorem z6P:OpR X (compareOp .Is) (fun x y H Q=>y=.non/\Q (.bl (decide (x=.non))) H):=by
  intro pins s σ H x y v u Q I rx ry h;obtain⟨rfl,q⟩:=h;cases ry;refine is_none_gen (yB I q ?_);cases x <;> first
    | (cases rx;rfl)
    | (obtain⟨t,rfl⟩:=rx;rfl)
theorem z8v:OpR X (compareOp .IsNot) (fun x y H Q=>y=.non/\Q (.bl (!decide (x=.non))) H):=by
  intro pins s σ H x y v u Q I rx ry h;obtain⟨rfl,q⟩:=h;cases ry;refine isnot_none_gen (yB I q ?_);cases x <;> first
    | (cases rx;rfl)
    | (obtain⟨t,rfl⟩:=rx;rfl)
theorem zX (b:Expr) {op:CmpOp} (h:op≠.In:=by decide) (h2:op≠.NotIn:=by decide):behindInMarks op b=false:=by
 have e1:(op == CmpOp.In)=false:=by cases op <;> first|rfl|exact absurd rfl h
 have e2:(op == CmpOp.NotIn)=false:=by cases op <;> first|rfl|exact absurd rfl h2
 cases b <;> simp [behindInMarks,e1,e2]
theorem jU {op:CmpOp} {r:R2} (ho:OpR X (compareOp op) r) (ha:PE X a ta) (hb:PE X b tb) (hm:behindInMarks op b=false):PE X (.Compare a [op] [b] pos) (tOp r ta tb):=by
 intro pins s σ H Q I h;exact wpAny_Compare1 (y6A ha hb I h fun v u s2 x y H2 I2 rx ry q=>ho pins s2 σ H2 x y v u Q I2 rx ry q) hm
noncomputable def y0i (t:TE):TT:=fun σ H Q=>t σ H fun x H'=>∃k,x=.bl k/\Q k H'
theorem zN {op:CmpOp} {r:R2} (ho:OpR X (compareOp op) r) (ha:PE X a ta) (hb:PE X b tb) (hm:behindInMarks op b=false):PT X (.Compare a [op] [b] pos) (y0i (tOp r ta tb)):=by
 intro pins s σ H Q I h;refine wpAny_isTrue_Compare1 (thn (ha pins s σ H _ I h) fun v s1 ⟨x,H1,I1,r1,q1⟩=>thn (hb pins s1 σ H1 _ I1 q1) fun u s2 ⟨y,H2,I2,r2,q2⟩=>
  thn (ho pins s2 σ H2 x y v u _ I2 r1 r2 q2) fun c s3 ⟨z,H3,I3,r3,k,e,q3⟩=>?_) hm
 subst e;cases r3;exact wpAny_truthy_bool ⟨H3,I3,q3⟩
noncomputable def z8J (r r':R2) (ta tb tc:TE):TE:=fun σ H Q=>ta σ H fun x H1=>tb σ H1 fun y H2=>r x y H2 fun z H3=>∃k,z=.bl k/\
 (if k=true then tc σ H3 fun w' H4=>r' y w' H4 Q else Q (.bl false) H3)
theorem wn {op op':CmpOp} {r r':R2} (ho:OpR X (compareOp op) r) (ho':OpR X (compareOp op') r') (ha:PE X a ta) (hb:PE X b tb) (hc:PE X c tc)
  (hm:lastMarks [op,op'] [b,c]=false:=by with_unfolding_all rfl):PE X (.Compare a [op,op'] [b,c] pos) (z8J r r' ta tb tc):=by
 intro pins s σ H Q I h;refine Compare_chain (thn (ha pins s σ H _ I h) fun v s1 ⟨x,H1,I1,r1,q1⟩=>chain_link (thn (hb pins s1 σ H1 _ I1 q1) fun u s2 ⟨y,H2,I2,r2,q2⟩=>
  thn (ho pins s2 σ H2 x y v u _ I2 r1 r2 q2) fun d s3 ⟨z,H3,I3,r3,k,e,q3⟩=>?_)) hm
 subst e;cases r3;refine wpAny_truthy_bool ?_;cases k with
 | false=>exact ite_ff ⟨.bl false,H3,I3,rfl,q3⟩
 | true=>exact ite_tt (chain_last (thn (hc pins s3 σ H3 _ I3 q3) fun w' s4 ⟨z',H4,I4,r4,q4⟩=>ho' pins s4 σ H4 y z' u w' Q I4 r2 r4 q4))
theorem y0z {op op':CmpOp} {r r':R2} (ho:OpR X (compareOp op) r) (ho':OpR X (compareOp op') r') (ha:PE X a ta) (hb:PE X b tb) (hc:PE X c tc)
  (hm:lastMarks [op,op'] [b,c]=false:=by with_unfolding_all rfl):PT X (.Compare a [op,op'] [b,c] pos) (y0i (z8J r r' ta tb tc)):=by
 intro pins s σ H Q I h;refine isTrue_chain (thn (ha pins s σ H _ I h) fun v s1 ⟨x,H1,I1,r1,q1⟩=>test_link (thn (hb pins s1 σ H1 _ I1 q1) fun u s2 ⟨y,H2,I2,r2,q2⟩=>
  thn (ho pins s2 σ H2 x y v u _ I2 r1 r2 q2) fun d s3 ⟨z,H3,I3,r3,k,e,q3⟩=>?_)) hm
 subst e;cases r3;refine wpAny_truthy_bool ?_;cases k with
 | false=>
  obtain⟨k',e',q'⟩:=q3;cases e';exact ite_ff ⟨H3,I3,q'⟩
 | true=>
  refine ite_tt (test_last (thn (hc pins s3 σ H3 _ I3 q3) fun w' s4 ⟨z',H4,I4,r4,q4⟩=>thn (ho' pins s4 σ H4 y z' u w' _ I4 r2 r4 q4) fun d' s5 ⟨z2,H5,I5,r5,k2,e2,q5⟩=>?_));subst e2;cases r5;exact wpAny_truthy_bool ⟨H5,I5,q5⟩
theorem z3V:(sizeLine:Nat)<2^63:=by rw[sizeLine_eq];decide
theorem yY:OpR X (binaryOp .Add) (fun x y H Q=>∃i j,x=.str i/\y=.str j/\i.length+j.length<=sizeLine/\Q (.str (i++j)) H):=by
 intro pins s σ H x y v u Q I rx ry h;obtain⟨i,j,rfl,rfl,hz,q⟩:=h;obtain⟨t,rfl⟩:=rx;obtain⟨t',rfl⟩:=ry;exact add_str (fun t' tk=>⟨.str (i++j),H,I.tok _,⟨_,rfl⟩,q⟩) hz
theorem z6u {x:V} {us:List Value} (r:Vals [x] us):∃u,us=[u]/\RelV x u:=by
 cases r with
 | cons r1 r2=>cases r2;exact⟨_,rfl,r1⟩
theorem y5f {x y:V} {us:List Value} (r:Vals [x,y] us):∃u w',us=[u,w']/\RelV x u/\RelV y w':=by
 cases r with
 | cons r1 r2=>
  cases r2 with
  | cons r3 r4=>cases r4;exact⟨_,_,rfl,r1,r3⟩
theorem y0R (hc:X.calm=true):qS X (.builtin "min") (fun xs H Q=>∃i j,xs=[.int i,.int j]/\Q (.int (if j<i then j else i)) H):=by
 intro pins s σ H xs us Q I r h;obtain⟨i,j,rfl,q⟩:=h;obtain⟨u,w',rfl,⟨t,rfl⟩,⟨t',rfl⟩⟩:=y5f r;refine min_two_ints (I.ok.hd hc) fun h' tk k=>⟨_,H,I.kept k,?_,q⟩
 by_cases hj:j<i
 ·rw[if_pos hj,if_pos hj];exact⟨_,rfl⟩
 ·rw[if_neg hj,if_neg hj];exact⟨_,rfl⟩
theorem yN:qS X (.type "str") (fun xs H Q=>∃i,xs=[.int i]/\i.natAbs.log2<1920/\Q (.str (toString i)) H):=by
 intro pins s σ H xs us Q I r h;obtain⟨i,rfl,hz,q⟩:=h;obtain⟨u,rfl,t,rfl⟩:=z6u r;exact PySem.P.str_of_int hz ⟨.str _,H,I.tok _,⟨_,rfl⟩,q⟩
end
structure ObjM (h:Heap) (x dx C:Addr) (mA:Str->Option Value):Prop where
 obj:h.get? x=some (PySem.W.instObj C dx)
 ns:h.Ns1 dx mA
 ne:dx≠x
theorem z9M {h:Heap} {dx:Addr} {mA:Str->Option Value} (n:h.Ns1 dx mA):∃od,h.get? dx=some od/\∀name,PySem.W.lookIn name od=some (mA name):=by
 obtain⟨o,es,ep,ho,hd,hk,_,hm⟩:=n;refine⟨o,ho,fun name=>?_⟩;have e:=hm name;unfold nsFind findBy at e;rw[←Array.find?_toList] at e;unfold PySem.W.lookIn;rw[hd];dsimp only;split
 ·rename_i y q
  rw[q] at e;exact congrArg some e
 ·rename_i q
  rw[q] at e;have a:es.toList.any (·.refKey)=false:=by
   rw[List.any_eq_false];intro y hy;obtain⟨z,t,hkey⟩:=hk y (Array.mem_toList_iff.mp hy);simp [DictEntry.refKey,hkey]
  have a':¬es.toList.any (·.refKey)=true:=by rw[a];exact Bool.false_ne_true
  rw[if_neg a'];exact congrArg some e
theorem ObjM.look {h:Heap} {x dx C:Addr} {mA:Str->Option Value} (I:ObjM h x dx C mA):∃od,PySem.W.InstAt h x (PySem.W.instObj C dx) C (some od)/\∀name,PySem.W.lookIn name od=some (mA name):=
 let ⟨od,ho,hl⟩:=z9M I.ns
 ⟨od,⟨I.obj,rfl,rfl,ho⟩,hl⟩
section
variable {prog:Program} {w:World} {A:Around} {E:Value->Shared->Prop} {s:Shared} {K:PySem.W.Frag} {x dx C f:Addr} {mA:Str->Option Value} {name:Str} {v:Value}
theorem y3l {expr:Bool} {Q:Value->Shared->Prop} (X:K.In s.heap) (I:ObjM s.heap x dx C mA) (hg:PySem.W.plainGet K C name=true) (hh:PySem.W.hasDictIn K C=true)
  (ha:PySem.W.findIn K (.ref C) name=some none) (hv:mA name=some v) (hv':PySem.W.handedIn v=true) (h:Q v { s with toks:=s.toks+1 }) :
  wpAny (model prog w) A (getAttr (.ref x) name expr) Q E s:=by
 obtain⟨od,J,hl⟩:=I.look;exact PySem.W.get_value X J (PySem.W.plainGet_of hg).1 (PySem.W.findObj_own hh ha rfl (by rw[hl,hv])) hv' h
theorem y1n {pl:Sem Bool} {Q:Value×List Value->Shared->Prop} (X:K.In s.heap) (I:ObjM s.heap x dx C mA) (hg:PySem.W.plainGet K C name=true)
  (hf:PySem.W.findIn K (.ref C) name=some (some (.ref f))) (ht:PySem.W.isFn K (.ref f)=true) (hv:mA name=none) (h:Q (.ref f,[.ref x]) s) :
  wpAny (model prog w) A (getMethod (.ref x) name pl) Q E s:=by
 obtain⟨od,J,hl⟩:=I.look;exact PySem.W.method_fn X J (PySem.W.plainGet_of hg).1 (PySem.W.plainGet_of hg).2 hf (beq_iff_eq.mp ht) (by show (PySem.W.lookIn name od).map (·.isSome)=some false;rw[hl,hv];rfl) h
theorem y2z {ns:List Str} {Q:Unit->Shared->Prop} (X:K.In s.heap) (I:ObjM s.heap x dx C mA)
  (hs:PySem.W.findIn K (.ref C) "__setattr__" = some (some (.builtin "object.__setattr__"))) (hp:PySem.W.plainOver K C=true) (ht:PySem.W.takerIn K C name=some none) (hh:PySem.W.hasDictIn K C=true)
  (hw:PySem.Within mA ns) (hsz:ns.length<=sizeLine)
  (h:∀h',ObjM h' x dx C (fun y=>if y=name then some v else mA y)->Heap.SameBut dx s.heap h'->Q () { s with heap:=h',toks:=s.toks+2 }) :
  wpAny (model prog w) A (setAttr (.ref x) name v) Q E s:=by
 obtain⟨od,J,hl⟩:=I.look;refine PySem.W.set_plain X J hs (PySem.W.osa_open (s:={ s with toks:=s.toks+1 }) (r:=none) X J hp ht fun b=>?_);obtain⟨cd,hc,hd'⟩:=PySem.W.any_some hh;have hx:s.heap.get? x=some ⟨.ref C,some dx,.plain,#[]⟩:=I.obj;refine wpAny_bind (wpAny_pure (wpAny_bind (wpAny_bind (wpAny_loadPart hx (wpAny_bind (PySem.W.Looks.here (s:={ s with toks:=s.toks+1 }) (PySem.W.looks_clsIn X hc) ?_))))));rw[hd'];refine wpAny_pure (a:=some dx) (wpAny_bind (wpAny_pure (wpAny_bind ?_)));refine wpAny_nsSet1 (s:={ s with toks:=s.toks+1 }) I.ns fun h' hn2 hs2=>?_;obtain⟨oD,esD,epD,hoD,hdD,hcD⟩:=hn2.count (PySem.Within.cons name v hw);refine wpAny_bind (wpAny_lookBehind hoD (by rw[hdD];exact pastItsLine_dict (Nat.le_trans hcD (by rw[List.length_cons];omega))) ?_);exact wpAny_pure (h _ ⟨(hs2.2 _ (Ne.symm I.ne)).trans I.obj,hn2,I.ne⟩ hs2)
theorem y1U {R:Result->Shared->Prop} {vs:List Value} {kw:List (Str×Value)} (X:K.In s.heap) (hm:PySem.W.makesIn K C=true)
  (hi:PySem.W.findIn K (.ref C) "__init__" = some (some (.ref f))) (hf:PySem.W.typeIn K (.ref f)=some (.type "function"))
  (h:codeAny (model prog w) (A.under (.builtin "type.__call__" ⟨.ref C::vs,kw⟩)) (.call (.ref f) ⟨.ref (s.heap.objs.size+1)::vs,kw⟩) (PySem.W.InitBack (s.heap.objs.size+1) R)
   { s with heap:=(s.heap.push PySem.W.emptyDict).push (PySem.W.instObj C s.heap.objs.size) }) :
  codeAny (model prog w) A (.call (.ref C) ⟨vs,kw⟩) R s:=by
 obtain⟨hh,g,d,t,os⟩:=s;exact PySem.W.make_core (PySem.W.makes_of X hm) (PySem.W.looks_findIn X hi) (fun self=>PySem.W.bind_fn X self hf) (.inl rfl) h
end
noncomputable def w8 (f:Str) (v:V):List (Str×V)->List (Str×V)
  | []=>[(f,v)]
  | (g,x)::r=>if g=f then (g,v)::r else (g,x)::w8 f v r
theorem ve (f g:Str) (v:V):∀fs:List (Str×V),(w8 f v fs).lookup g=if g=f then some v else fs.lookup g
  | []=>by
    show List.lookup g [(f,v)]=_;by_cases h:g=f
    · have hb:(g == f)=true:=beq_iff_eq.mpr h;simp only [List.lookup,hb,if_pos h]
    · have hb:(g == f)=false:=beq_eq_false_iff_ne.mpr h;simp only [List.lookup,hb,if_neg h]
  | (k,x)::r=>by
    have ih:=ve f g v r;rw[show w8 f v ((k,x)::r)=(if k=f then (k,v)::r else (k,x)::w8 f v r) from rfl];by_cases hk:k=f
    · rw[if_pos hk];by_cases h:g=k
      · have hb:(g == k)=true:=beq_iff_eq.mpr h;simp only [List.lookup,hb,if_pos (h.trans hk)]
      · have hb:(g == k)=false:=beq_eq_false_iff_ne.mpr h;simp only [List.lookup,hb,if_neg (fun e:g=f=>h (e.trans hk.symm))]
    · rw[if_neg hk];by_cases h:g=k
      · have hb:(g == k)=true:=beq_iff_eq.mpr h;simp only [List.lookup,hb,if_neg (fun e:g=f=>hk (h.symm.trans e))]
      · have hb:(g == k)=false:=beq_eq_false_iff_ne.mpr h;simp only [List.lookup,hb];exact ih
theorem vi (f:Str) (v:V):∀fs:List (Str×V),f∈(w8 f v fs).map (·.1)/\∀g,g∈fs.map (·.1)->g∈(w8 f v fs).map (·.1)
  | []=>⟨by simp [w8],fun g h=>by simp at h⟩
  | (k,x)::r=>by
    obtain⟨i1,i2⟩:=vi f v r;rw[show w8 f v ((k,x)::r)=(if k=f then (k,v)::r else (k,x)::w8 f v r) from rfl];by_cases hk:k=f
    · rw[if_pos hk];subst hk;exact⟨by simp,fun g h=>by simpa using h⟩
    · rw[if_neg hk];refine⟨?_,fun g h=>?_⟩
      · rw[List.map_cons];exact List.mem_cons_of_mem _ i1
      · rw[List.map_cons] at h ⊢;rcases List.mem_cons.mp h with e|e
        · exact List.mem_cons.mpr (.inl e)
        · exact List.mem_cons_of_mem _ (i2 g e)
theorem vf (f:Str) (v:V):∀fs:List (Str×V),(w8 f v fs).length<=fs.length+1
  | []=>by simp [w8]
  | (k,x)::r=>by
    have ih:=vf f v r;rw[show w8 f v ((k,x)::r)=(if k=f then (k,v)::r else (k,x)::w8 f v r) from rfl];by_cases hk:k=f
    · rw[if_pos hk,List.length_cons,List.length_cons];omega
    · rw[if_neg hk,List.length_cons,List.length_cons];omega
theorem RelO.some_of {v:V} {o:Option Value} (r:RelO (some v) o):∃u,o=some u/\RelV v u:=by
 cases o with
 | none=>exact (show False from r).elim
 | some u=>exact⟨u,rfl,r⟩
theorem RelO.none_of {o:Option Value} (r:RelO none o):o=none:=by
 cases o with
 | none=>rfl
 | some u=>exact (show False from r).elim
theorem z9f {v:V} {u:Value} (r:RelV v u):PySem.W.handedIn u=true:=by
 cases v with
 | non=>cases (show u=Value.none from r);rfl
 | bl b=>cases (show u=Value.bool b from r);rfl
 | int i=>obtain⟨t,e⟩:=(show ∃t,u=Value.int i t from r);cases e;rfl
 | str x=>obtain⟨t,e⟩:=(show ∃t,u=Value.str x t from r);cases e;rfl
 | byt b=>obtain⟨t,e⟩:=(show ∃t,u=Value.bytes b t from r);cases e;rfl
 | flt b=>obtain⟨t,e⟩:=(show ∃t,u=Value.float b t from r);cases e;rfl
 | ref a=>cases (show u=Value.ref a from r);rfl
 | ty n=>cases (show u=Value.type n from r);rfl
section
variable {P:Program} {w:World} {H H':Hp} {h h':Heap} {a C dx:Addr} {fs fs':List (Str×V)}
theorem z1v (hok:HOk P w H h) (e:H a=some (.ins C dx fs)):∃mA,ObjM h a dx C mA/\(∀f,RelO (fs.lookup f) (mA f))/\PySem.Within mA (fs.map (·.1))/\fs.length<=1000/\H dx=some (.own a):=by
 obtain⟨d,z,ne,ob,mA,n,r,q⟩:=(show ObjOk P w H h a (.ins C dx fs) from hok a _ e)
 exact⟨mA,⟨ob,n,ne⟩,r,q,z,d⟩
end
structure Cls (K:PySem.W.Frag) (C:Addr):Prop where
 pg:PySem.W.plainGet K C Str.empty=true
 hd:PySem.W.hasDictIn K C=true
 po:PySem.W.plainOver K C=true
 sa:PySem.W.findIn K (.ref C) "__setattr__" = some (some (.builtin "object.__setattr__"))
theorem Cls.get {K:PySem.W.Frag} {C:Addr} (c:Cls K C) (f:Str):PySem.W.plainGet K C f=true:=c.pg
noncomputable def NoAttr (K:PySem.W.Frag) (C:Addr) (f:Str):Prop:=PySem.W.findIn K (.ref C) f=some none
theorem NoAttr.taker {K:PySem.W.Frag} {C:Addr} {f:Str} (n:NoAttr K C f):PySem.W.takerIn K C f=some none:=by
 unfold PySem.W.takerIn;rw[show PySem.W.findIn K (.ref C) f=some none from n];rfl
structure Meth (K:PySem.W.Frag) (C:Addr) (m:Str) (f:Addr):Prop where
 at_:PySem.W.findIn K (.ref C) m=some (some (.ref f))
 fn:PySem.W.isFn K (.ref f)=true
 kp:PySem.W.keepIn K (.ref f)=true
section
variable {X:Cx} {pins:List (Addr×Obj)} {σ:St} {H:Hp} {s:Shared} {a C dx:Addr} {fs:List (Str×V)} {f:Str} {v:V} {A:Around} {E:Value->Shared->Prop}
theorem z0y {b:Bool} {Q:Value->Shared->Prop} (I:Inv X pins σ H s) (e:H a=some (.ins C dx fs)) (c:Cls X.K C) (n:NoAttr X.K C f) (l:fs.lookup f=some v)
  (h:∀u s',Inv X pins σ H s'->RelV v u->Q u s'):wpAny (model X.prog X.w) A (getAttr (.ref a) f b) Q E s:=by
 obtain⟨mA,O,r,_,_,_⟩:=z1v I.hok e;obtain⟨u,hu,ru⟩:=RelO.some_of (v:=v) (o:=mA f) (by rw[←l];exact r f);exact y3l I.kIn O (c.get f) c.hd n hu (z9f ru) (h u _ (I.tok _) ru)
theorem z0x {m:Str} {g:Addr} {pl:Sem Bool} {Q:Value×List Value->Shared->Prop} (I:Inv X pins σ H s) (e:H a=some (.ins C dx fs)) (c:Cls X.K C) (k:Meth X.K C m g) (l:fs.lookup m=none)
  (h:Q (.ref g,[.ref a]) s):wpAny (model X.prog X.w) A (getMethod (.ref a) m pl) Q E s:=by
 obtain⟨mA,O,r,_,_,_⟩:=z1v I.hok e;have hn:mA m=none:=RelO.none_of (by rw[←l];exact r m);exact y1n I.kIn O (c.get m) k.at_ k.fn hn h
theorem z0l {y:V} {u:Value} {Q:Unit->Shared->Prop} (I:Inv X pins σ H s) (e:H a=some (.ins C dx fs)) (c:Cls X.K C) (n:NoAttr X.K C f) (hl:fs.length<1000) (ry:RelV y u)
  (h:∀s',Inv X pins σ (upd H a (.ins C dx (w8 f y fs))) s'->Q () s'):wpAny (model X.prog X.w) A (setAttr (.ref a) f u) Q E s:=by
 obtain⟨mA,O,r,wi,_,ho⟩:=z1v I.hok e;have hz:(fs.map (·.1)).length<=sizeLine:=by rw[List.length_map,sizeLine_eq];omega
 refine y2z I.kIn O c.sa c.po n.taker c.hd wi hz fun h' O' sb=>h _ ?_;have hd:∃o,h'.get? dx=some o:=let ⟨o,_,_,e',_⟩:=O'.ns;⟨o,e'⟩;refine I.write (x:=a) (e:=dx) (by rw[e];exact True.intro) (.inr ho) (fun b q hb z=>(sb.2 b hb).trans z) hd ?_;refine⟨by rw[za O.ne];exact ho,?_,O.ne,O'.obj,_,O'.ns,fun g=>?_,fun g hg=>?_⟩
 ·have:=vf f y fs;omega
 ·show RelO ((w8 f y fs).lookup g) (if g=f then some u else mA g);rw[ve];by_cases q:g=f
  ·rw[if_pos q,if_pos q];exact ry
  ·rw[if_neg q,if_neg q];exact r g
 ·by_cases q:g=f
  ·rw[q];exact (vi f y fs).1
  ·refine (vi f y fs).2 g (wi g fun z=>hg ?_);show (if g=f then some u else mA g)=none;rw[if_neg q];exact z
theorem Inv.made (I:Inv X pins σ H s):Inv X pins σ (upd (upd H s.heap.objs.size (.own (s.heap.objs.size+1))) (s.heap.objs.size+1) (.ins C s.heap.objs.size []))
  { s with heap:=(s.heap.push PySem.W.emptyDict).push (PySem.W.instObj C s.heap.objs.size) }:=by
 have e1:(s.heap.push PySem.W.emptyDict).get? s.heap.objs.size=some PySem.W.emptyDict:=Heap.get?_push_size s.heap rfl;have e2:((s.heap.push PySem.W.emptyDict).push (PySem.W.instObj C s.heap.objs.size)).get? (s.heap.objs.size+1)=some (PySem.W.instObj C s.heap.objs.size):=by
  have:=Heap.get?_push_size (s.heap.push PySem.W.emptyDict) (o:=PySem.W.instObj C s.heap.objs.size) rfl;rwa [Heap.size_push] at this
 have e3:(s.heap.push PySem.W.emptyDict).Ns s.heap.objs.size (fun _=>none):=⟨PySem.W.emptyDict,#[],_,e1,rfl,(fun e he=>absurd he (by simp)),fun _=>rfl⟩
 have I1:=I.laid (a:=s.heap.objs.size) (o:=.own (s.heap.objs.size+1)) (h':=s.heap.push PySem.W.emptyDict) (t':=s.toks) (fun b u q=>Heap.get?_push_of_some _ q) (Nat.le_refl _) ⟨_,e1⟩;refine I1.laid (a:=s.heap.objs.size+1) (o:=.ins C s.heap.objs.size []) (t':=s.toks) (fun b u q=>Heap.get?_push_of_some _ q) (Nat.le_of_eq (Heap.size_push _ _)) ?_;have ne:s.heap.objs.size≠s.heap.objs.size+1:=Nat.ne_of_lt (Nat.lt_succ_self _);refine⟨by rw[za ne,zH],Nat.zero_le _,ne,e2,fun _=>none,(Heap.Ns1.of_empty e3).at fun o q=>Heap.get?_push_of_some _ q,fun _=>True.intro,fun y hy=>absurd rfl hy⟩
theorem y4B {prog:Program} {w:World} {env:Env} {e:Expr} {f:Str} {pos:Pos} {s:Shared} {Q:Value->Shared->Prop} (hb:attributeBase e f env (eval e env)=eval e env)
  (h:wpAny (model prog w) A (eval e env) (fun o s₁=>wpAny (model prog w) A (getAttr o f true) Q E s₁) E s):wpAny (model prog w) A (eval (.Attribute e f pos) env) Q E s:=
 Attribute_any_ h (by rw[arm_eval_Attribute,hb])
end
noncomputable def y6N (K:PySem.W.Frag) (ta:TE) (f:Str):TE:=fun σ H Q=>ta σ H fun x H1=>∃a C dx fs v,x=.ref a/\H1 a=some (.ins C dx fs)/\Cls K C/\NoAttr K C f/\fs.lookup f=some v/\Q v H1
noncomputable def y6R (K:PySem.W.Frag) (ta tv:TE) (f:Str):TS:=fun D σ H=>tv σ H fun y H1=>ta σ H1 fun x H2=>∃a C dx fs,x=.ref a/\H2 a=some (.ins C dx fs)/\Cls K C/\NoAttr K C f/\fs.length<1000/\
 D.nx σ (upd H2 a (.ins C dx (w8 f y fs)))
noncomputable def y6d (X:Cx) (op:Operator) (rd:V->V->Hp->VK->Prop):Prop:=
 ∀(pins:List (Addr×Obj)) (s:Shared) (σ:St) (H:Hp) (x y:V) (u v:Value) (Q:VK),Inv X pins σ H s->RelV x u->RelV y v->rd x y H Q->wpAny (model X.prog X.w) X.A (inplaceOp op u v) (EP X pins σ Q) X.xe s
noncomputable def z8c (K:PySem.W.Frag) (ta tv:TE) (rd:V->V->Hp->VK->Prop) (f:Str):TS:=fun D σ H=>ta σ H fun x H1=>∃a C dx fs v,x=.ref a/\H1 a=some (.ins C dx fs)/\Cls K C/\NoAttr K C f/\fs.lookup f=some v/\
 tv σ H1 fun y H2=>rd v y H2 fun z H3=>∃dx' fs',H3 a=some (.ins C dx' fs')/\fs'.length<1000/\D.nx σ (upd H3 a (.ins C dx' (w8 f z fs')))
section
variable {X:Cx} {o e value:Expr} {f:Str} {pos pos' tpos:Pos} {ta tv:TE}
theorem xr (he:PE X e ta) (hb:attributeBase e f X.env (eval e X.env)=eval e X.env):PE X (.Attribute e f pos) (y6N X.K ta f):=by
 intro pins s σ H Q I h;refine y4B hb (thn (he pins s σ H _ I h) fun u s1 ⟨x,H1,I1,rx,a,C,dx,fs,v,ex,ea,c,n,l,q⟩=>?_);subst ex;obtain rfl:u=Value.ref a:=rx;exact z0y I1 ea c n l fun u' s2 I2 ru=>⟨v,H1,I2,ru,q⟩
theorem z8j (ha:PE X o ta) (hv:PE X value tv) (hs:swapsWith value (some (.Attribute o f pos')) pos.line X.env=pure false):PS X (.Assign [.Attribute o f pos'] value pos) (y6R X.K ta tv f):=by
 intro pins s σ H D I h;refine plainObj_wpAny_Assign_Attribute (thn (hv pins s σ H _ I h) fun u s1 ⟨y,H1,I1,ry,q⟩=>thn (ha pins s1 σ H1 _ I1 q) fun ov s2 ⟨x,H2,I2,rx,a,C,dx,fs,ex,ea,c,n,l,q2⟩=>?_) hs;subst ex;obtain rfl:ov=Value.ref a:=rx;exact z0l I2 ea c n l ry fun s3 I3=>⟨σ,_,I3,q2⟩
theorem z3M {op:Operator} {rd:V->V->Hp->VK->Prop} (ha:PE X o ta) (hv:PE X value tv) (hop:y6d X op rd):PS X (.AugAssign (.Attribute o f tpos) op value pos) (z8c X.K ta tv rd f):=by
 intro pins s σ H D I h;refine wpAny_AugAssign_AttributeAny (thn (ha pins s σ H _ I h) fun ov s1 ⟨x,H1,I1,rx,a,C,dx,fs,v,ex,ea,c,n,l,q⟩=>?_);subst ex;obtain rfl:ov=Value.ref a:=rx;refine z0y I1 ea c n l fun u s2 I2 ru=>thn (hv pins s2 σ H1 _ I2 q) fun w3 s3 ⟨y,H2,I3,ry,q3⟩=>thn (hop pins s3 σ H2 v y u w3 _ I3 ru ry q3) fun w4 s4 ⟨z,H3,I4,rz,dx',fs',ea',l',q4⟩=>?_;exact z0l I4 ea' c n l' rz fun s5 I5=>⟨σ,_,I5,q4⟩
noncomputable def y6o:V->V->Hp->VK->Prop:=fun x y H Q=>∃i j,x=.int i/\y=.int j/\Q (.int (i+j)) H
theorem y2V:y6d X .Add y6o:=by
 rintro pins s σ H x y u v Q I rx ry ⟨i,j,rfl,rfl,q⟩;obtain⟨t,rfl⟩:=(show ∃t,u=Value.int i t from rx)
 obtain⟨t',rfl⟩:=(show ∃t',v=Value.int j t' from ry)
 exact PyProof.Rows.iadd_int ⟨.int (i+j),H,I.tok _,⟨_,rfl⟩,q⟩
end
section
variable {X:Cx} {pins:List (Addr×Obj)} {σ:St} {H:Hp} {s:Shared} {A:Around} {E:Value->Shared->Prop} {Q:Value->Shared->Prop} {c:Value} {b:Bool}
inductive TyOf (K:PySem.W.Frag) (H:Hp):V->Value->Prop where
 | non:TyOf K H .non (.type "NoneType")
 | bl (x:Bool):TyOf K H (.bl x) (.type "bool")
 | int (i:Int):TyOf K H (.int i) (.type "int")
 | str (x:Str):TyOf K H (.str x) (.type "str")
 | flt (x:UInt64):TyOf K H (.flt x) (.type "float")
 | lst {a:Addr} {xs:List V} (e:H a=some (.lst xs)):TyOf K H (.ref a) (.type "list")
 | frz {a:Addr} {o:Obj} {xs:List V} (e:H a=some (.frz o (.lst xs))):TyOf K H (.ref a) (.type "list")
 | tup {a:Addr} {xs:List V} (e:H a=some (.tup xs)):TyOf K H (.ref a) (.type "tuple")
 | dK {a:Addr} {kvs:List (Key×V)} (e:H a=some (.dK kvs)):TyOf K H (.ref a) (.type "dict")
 | dT {a:Addr} {kvs:List (List Key×V)} (e:H a=some (.dT kvs)):TyOf K H (.ref a) (.type "dict")
 | ins {a C dx:Addr} {fs:List (Str×V)} (e:H a=some (.ins C dx fs)) (cl:Cls K C) (ha:PySem.W.findIn K (.ref C) "__class__" = some (some (.builtin "object.__class__")))
   (hn:PySem.W.specialIn K (.builtin "object.__class__") "__get__" = some (some (.builtin "getset_descriptor.__get__"))) (htk:PySem.W.takesIn K (.builtin "object.__class__")=some true)
   (hm:PySem.W.mroIn K C (.type "object")=some true):TyOf K H (.ref a) (.ref C)
theorem z9T {x:V} {u t:Value} (I:Inv X pins σ H s) (rx:RelV x u) (ty:TyOf X.K H x t) (e:PySem.W.kitOne X.K t c=some b) (h:∀tk,Q (.bool b) { s with toks:=tk }) :
  wpAny (model X.prog X.w) A (call (.builtin "isinstance") [u,c]) Q E s:=by
 cases ty with
 | non=>cases (show u=Value.none from rx);exact PySem.W.kia_one PySem.W.kitx_none I.kIn True.intro e (fun z=>nomatch z) h
 | bl y=>cases (show u=Value.bool y from rx);exact PySem.W.kia_one PySem.W.kitx_bool I.kIn True.intro e (fun z=>nomatch z) h
 | int i=>obtain⟨t,q⟩:=(show ∃t,u=Value.int i t from rx);cases q;exact PySem.W.kia_one PySem.W.kitx_int I.kIn True.intro e (fun z=>nomatch z) h
 | str y=>obtain⟨t,q⟩:=(show ∃t,u=Value.str y t from rx);cases q;exact PySem.W.kia_one PySem.W.kitx_str I.kIn True.intro e (fun z=>nomatch z) h
 | flt y=>obtain⟨t,q⟩:=(show ∃t,u=Value.float y t from rx);cases q;exact PySem.W.kia_one PySem.W.kitx_float I.kIn True.intro e (fun z=>nomatch z) h
 | @lst a xs ea=>
  cases (show u=Value.ref a from rx);obtain⟨_,_,n,_,h1⟩:=(show ObjOk X.prog X.w H s.heap a (.lst xs) from I.hok a _ ea)
  exact PySem.W.kia_one PySem.W.kitx_list I.kIn ⟨_,h1,rfl⟩ e (fun z=>nomatch z) h
 | @frz a ob xs ea=>
  cases (show u=Value.ref a from rx);obtain⟨_,_,_,n,_,h1⟩:=(show ObjOk X.prog X.w H s.heap a (.frz ob (.lst xs)) from I.hok a _ ea)
  exact PySem.W.kia_one PySem.W.kitx_list I.kIn ⟨_,h1,rfl⟩ e (fun z=>nomatch z) h
 | @tup a xs ea=>
  cases (show u=Value.ref a from rx);obtain⟨_,_,_,p⟩:=(show ObjOk X.prog X.w H s.heap a (.tup xs) from I.hok a _ ea)
  obtain⟨o,h1,h2,_⟩:=p;exact PySem.W.kia_one PySem.W.kitx_tuple I.kIn ⟨o,h1,h2⟩ e (fun z=>nomatch z) h
 | @dK a kvs ea=>
  cases (show u=Value.ref a from rx);obtain⟨_,_,vs,_,p⟩:=(show ObjOk X.prog X.w H s.heap a (.dK kvs) from I.hok a _ ea)
  obtain⟨o,es,ep,h1,h2,_⟩:=p;exact PySem.W.kia_one PySem.W.kitx_dict I.kIn ⟨o,h1,h2.1⟩ e (fun z=>nomatch z) h
 | @dT a kvs ea=>
  cases (show u=Value.ref a from rx);obtain⟨_,_,xs,_,o,es,ep,h1,h2,_⟩:=(show ObjOk X.prog X.w H s.heap a (.dT kvs) from I.hok a _ ea)
  exact PySem.W.kia_one PySem.W.kitx_dict I.kIn ⟨o,h1,h2.1⟩ e (fun z=>nomatch z) h
 | @ins a C dx fs ea cl ha hn htk hm=>
  cases (show u=Value.ref a from rx);obtain⟨mA,O,_⟩:=z1v I.hok ea;obtain⟨od,J,_⟩:=O.look;exact PySem.W.kia_one (PySem.W.kitx_own (cl.get _) cl.hd ha hn htk hm) I.kIn J e (fun z=>nomatch z) h
end
structure Room (k:Nat) (A:Around):Prop where
 hd:A.handled=none
 dp:A.depth+3*k+5<recursionLimit
 un:A.units+16*k+200<cLine
theorem Room.mono {j k:Nat} {A:Around} (r:Room k A) (h:j<=k):Room j A:=⟨r.hd,by have:=r.dp;omega,by have:=r.un;omega⟩
theorem Room.deeper {k:Nat} {A:Around} (r:Room (k+1) A) (env:Env):Room k (A.deeper env):=
 ⟨r.hd,by have:=r.dp;show A.depth+1+3*k+5<_;omega,by have:=r.un;show A.units+3+16*k+200<_;omega⟩
theorem z7R {A:Around} {C:Addr} {us:List Value} {kw:List (Str×Value)}:(A.under (.builtin "type.__call__" ⟨.ref C::us,kw⟩)).depth=A.depth+1:=by
 first|rfl|simp [Around.under,Code.weight,Code.isCreation,Code.isGuard,Code.isCaller,Code.frames,Code.isFrame,guardIds]
theorem z7Q {A:Around} {C:Addr} {us:List Value} {kw:List (Str×Value)}:(A.under (.builtin "type.__call__" ⟨.ref C::us,kw⟩)).units=A.units+1:=by
 first|rfl|simp [Around.under,Code.cUnits,Code.frames,Code.isFrame]
theorem Room.make {k:Nat} {A:Around} (r:Room (k+1) A) (C:Addr) (us:List Value) (kw:List (Str×Value)):Room k (A.under (.builtin "type.__call__" ⟨.ref C::us,kw⟩)):=
 ⟨r.hd,by have:=r.dp;rw[z7R];omega,by have:=r.un;rw[z7Q];omega⟩
theorem Room.depth {k:Nat} {A:Around} (r:Room k A):A.depth<recursionLimit:=by have:=r.dp;omega
theorem Room.units {k:Nat} {A:Around} (r:Room k A):A.units+64<cLine:=by have:=r.un;omega
noncomputable def y0j:TA:=fun _ H Q=>Q [] H
noncomputable def z6z (ta:TE) (tr:TA):TA:=fun σ H Q=>ta σ H fun x H1=>tr σ H1 fun xs H2=>Q (x::xs) H2
section
variable {X:Cx} {e:Expr} {es:List Expr} {te:TE} {t:TA} {pos:Pos}
theorem zD:PA X [] y0j:=fun _ _ _ _ H Q I h=>Calls.spliced_nil ⟨[],H,I,.nil,h⟩
theorem zB (ha:PE X e te) (hr:PA X es t) (hs:starEach (e::es) X.env=(false,eval e X.env)::starEach es X.env:=by rfl):PA X (e::es) (z6z te t):=by
 intro pos pins s σ H Q I h;rw[hs];show wpAny _ _ (spliced ((false,eval e X.env)::backTo pos (starEach es X.env))) _ _ s;refine Calls.spliced_cons (thn (ha pins s σ H _ I h) fun u s1 ⟨x,H1,I1,r1,q1⟩=>?_);exact thn (hr pos pins s1 σ H1 _ I1 q1) fun us s2 ⟨xs,H2,I2,r2,q2⟩=>⟨x::xs,H2,I2,.cons r1 r2,q2⟩
noncomputable def y6D (t:TA):TE:=fun σ H Q=>t σ H fun xs H1=>xs.length<=sizeLine/\∀p,H1 p=none->Q (.ref p) (upd H1 p (.tup xs))
noncomputable def y6J (t:TA):TE:=fun σ H Q=>t σ H fun xs H1=>xs.length<=sizeLine/\∀p,H1 p=none->Q (.ref p) (upd H1 p (.lst xs))
theorem xq {x1} (h:PA X es t):PE X (.Tuple es x1 pos) (y6D t):=by
 intro pins s σ H Q I hq;refine wpAny_Tuple_spliced (thn (h pos pins s σ H _ I hq) fun us s1 ⟨xs,H1,I1,r,z,q⟩=>⟨by rw[←r.length];exact z,?_⟩);have hf:H1 s1.heap.objs.size=none:=I1.hok.fresh (Nat.le_refl _);refine⟨.ref s1.heap.objs.size,upd H1 s1.heap.objs.size (.tup xs),I1.laid (t':=s1.toks) (fun b u e=>Heap.get?_push_of_some _ e) (Nat.le_refl _) ?_,rfl,q _ hf⟩;exact⟨z,us,r,⟨_,Heap.get?_push_size _ rfl,rfl,_,rfl⟩⟩
theorem yq (h:PA X es t):PE X (.List es pos) (y6J t):=by
 intro pins s σ H Q I hq;refine wpAny_List_spliced (thn (h pos pins s σ H _ I hq) fun us s1 ⟨xs,H1,I1,r,z,q⟩=>⟨by rw[←r.length];exact z,?_⟩);have hf:H1 s1.heap.objs.size=none:=I1.hok.fresh (Nat.le_refl _);refine⟨.ref s1.heap.objs.size,upd H1 s1.heap.objs.size (.lst xs),I1.laid (t':=s1.toks) (fun b u e=>Heap.get?_push_of_some _ e) (Nat.le_refl _) ?_,rfl,q _ hf⟩;exact⟨z,us,0,r,Heap.get?_push_size _ rfl⟩
end
noncomputable abbrev Sp:=List V->Hp->VK->XK->Prop
noncomputable abbrev CXT:=List Env->Hp->Shared->XK->Value->Shared->Prop
structure Env0 (P:Program) (w:World) (K:PySem.W.Frag) (mg:Str->Option Value) (base:Heap) (A:Around) (outer:List Env) (s:Shared) (H:Hp):Prop where
 frames:A.frames=some outer
 mod:Mod K mg base
 bs:∀b o,base.get? b=some o->s.heap.get? b=some o/\H b=none
 bsz:base.objs.size<=s.heap.objs.size
 funs:s.heap.FunFrames base outer
 frf:∀b∈frs outer,H b=none
 hok:HOk P w H s.heap
 bare:AllBare s.gens
noncomputable def CE (outer:List Env) (P:Program) (w:World) (H:Hp) (s:Shared) (Q:VK) (u:Value) (s':Shared):Prop:=
 ∃v H',s'.os=s.os/\AllBare s'.gens/\Un (frs outer) [] H H' s.heap s'.heap/\HOk P w H' s'.heap/\RelV v u/\Q v H'
noncomputable def CR (CX:CXT) (outer:List Env) (P:Program) (w:World) (H:Hp) (s:Shared) (Q:VK) (E:XK) (r:Result) (s':Shared):Prop:=
 match r with
 | .ok (.ret u)=>CE outer P w H s Q u s'
 | .ok _=>False
 | .error e=>CX outer H s E e s'
structure FnOk (P:Program) (w:World) (K:PySem.W.Frag) (mg:Str->Option Value) (base:Heap) (CX:CXT) (k:Nat) (f:Addr) (fd:FuncData) (ps:List Str) (sp:Sp):Prop where
 len:∀vs H Q E,sp vs H Q E->vs.length=ps.length
 run:∀(A:Around) (outer:List Env) (s:Shared) (H:Hp) (args:Args) (us:List Value) (vs:List V) (Q:VK) (E:XK),Room k A->Env0 P w K mg base A outer s H->BindsTo s fd args (ps.zip us)->Vals vs us->sp vs H Q E->
  codeAny (model P w) A (.call (.ref f) args) (CR CX outer P w H s Q E) s
theorem FnOk.mono {P:Program} {w:World} {K:PySem.W.Frag} {mg:Str->Option Value} {base:Heap} {CX:CXT} {j k:Nat} {f:Addr} {fd:FuncData} {ps:List Str} {sp:Sp} (F:FnOk P w K mg base CX j f fd ps sp) (h:j<=k) :
  FnOk P w K mg base CX k f fd ps sp:=⟨F.len,fun A outer s H args us vs Q E hr=>F.run A outer s H args us vs Q E (hr.mono h)⟩
theorem Env0.make {P:Program} {w:World} {K:PySem.W.Frag} {mg:Str->Option Value} {base:Heap} {A:Around} {outer:List Env} {s:Shared} {H:Hp} (e:Env0 P w K mg base A outer s H) (C:Addr) (us:List Value) (kw:List (Str×Value)) :
  Env0 P w K mg base (A.under (.builtin "type.__call__" ⟨.ref C::us,kw⟩)) outer s H:=⟨by first|exact e.frames|(simpa [Around.under,Code.envs,Code.isFrame,pushEnvs] using e.frames),e.mod,e.bs,e.bsz,e.funs,e.frf,e.hok,e.bare⟩
section
variable {X:Cx} {pins:List (Addr×Obj)} {σ:St} {H:Hp} {s s':Shared}
theorem Inv.env0 (I:Inv X pins σ H s):Env0 X.prog X.w X.K X.mg X.base X.A X.stack s H:=
 ⟨I.ok.frames,I.ok.mod,I.bs,Nat.le_trans I.ok.bsz I.sz,I.stack,I.stkFree,I.hok,I.bare⟩
theorem Inv.after {Q:VK} {u:Value} (I:Inv X pins σ H s) (h:CE X.stack X.prog X.w H s Q u s'):EP X pins σ Q u s':=by
 obtain⟨v,H',os,bare,un,hok,r,q⟩:=h;obtain⟨hh,g,d,t,os'⟩:=s';obtain rfl:os'=s.os:=os;exact⟨v,H',I.call (h':=hh) (g':=g) (d':=d) (t':=t) (ch:=[]) un hok bare (fun b z=>absurd z (by simp)),r,q⟩
end
noncomputable def z7A (sp:Sp) (dvs:List V) (E:XK) (t:TA):TE:=fun σ H Q=>t σ H fun vs H1=>sp (vs++dvs) H1 Q E
noncomputable def z6y (C:Addr) (m:Str) (sp:Sp) (dvs:List V) (E:XK) (ta:TE) (t:TA):TE:=fun σ H Q=>ta σ H fun x H1=>∃a dx fs,x=.ref a/\H1 a=some (.ins C dx fs)/\fs.lookup m=none/\
 t σ H1 fun vs H2=>sp (x::(vs++dvs)) H2 Q E
noncomputable def z8F (C:Addr) (sp:Sp) (dvs:List V) (E:XK) (t:TA):TE:=fun σ H Q=>t σ H fun vs H1=>∀x dx,H1 x=none->H1 dx=none->dx≠x->
 sp (.ref x::(vs++dvs)) (upd (upd H1 dx (.own x)) x (.ins C dx [])) (fun v H2=>v=.non/\Q (.ref x) H2) E
noncomputable def Binds (K:PySem.W.Frag) (fd:FuncData) (ps:List Str) (ds:List Value):Prop:=
 ∀(s:Shared) (us:List Value),K.In s.heap->(us++ds).length=ps.length->BindsTo s fd ⟨us,[]⟩ (ps.zip (us++ds))
theorem Binds.all {K:PySem.W.Frag} {fd:FuncData} {ps:List Str} (h:∀us:List Value,us.length=ps.length->bindArgs fd ⟨us,[]⟩=pure (ps.zip us)):Binds K fd ps []:=fun s us _ hl=>by
 rw[List.append_nil] at hl ⊢;exact .of_eq (h us hl)
noncomputable def jx (CX:CXT) (X:Cx) (E:XK):Prop:=∀(pins:List (Addr×Obj)) (σ:St) (H:Hp) (s:Shared) (e:Value) (s':Shared),Inv X pins σ H s->CX X.stack H s E e s'->X.xe e s'
section
variable {X:Cx} {CX:CXT} {k:Nat} {f C:Addr} {fd:FuncData} {ps:List Str} {sp:Sp} {dvs:List V} {ds:List Value} {E:XK} {x m:Str} {p pos apos:Pos} {e o:Expr} {es:List Expr} {ta:TE} {t:TA}
theorem z8d {pins:List (Addr×Obj)} {σ:St} {H:Hp} {s:Shared} {Q:VK} {us:List Value} {vs:List V} (F:FnOk X.prog X.w X.K X.mg X.base CX k f fd ps sp) (hr:Room k X.A) (hb:Binds X.K fd ps ds) (hd:Vals dvs ds) (hx:jx CX X E)
  (I:Inv X pins σ H s) (r:Vals vs us) (h:sp (vs++dvs) H Q E):wpAny (model X.prog X.w) X.A (call (.ref f) us) (EP X pins σ Q) X.xe s:=by
 have r2:Vals (vs++dvs) (us++ds):=r.append hd;have hl:(us++ds).length=ps.length:=by rw[←r2.length];exact F.len _ _ _ _ h
 refine wpAny_call (codeAny_mono (F.run X.A X.stack s H ⟨us,[]⟩ (us++ds) (vs++dvs) Q E hr I.env0 (hb s us I.kIn hl) r2 h) fun r s' hq=>?_);cases r with
 | error e=>exact hx pins σ H s e s' I hq
 | ok fl=>
  cases fl with
  | ret u=>exact I.after hq
  | next=>exact False.elim hq
  | brk=>exact False.elim hq
  | cont=>exact False.elim hq
theorem z8s (F:FnOk X.prog X.w X.K X.mg X.base CX k f fd ps sp) (hr:Room k X.A) (hg:Gl X x) (hm:X.mg x=some (.ref f)) (hk:PySem.W.keepIn X.K (.ref f)=true) (hb:Binds X.K fd ps ds) (hd:Vals dvs ds) (hx:jx CX X E)
  (ha:PA X (e::es) t) (hdb:(x == ("__debug__" : Str))=false:=by decide) (he:starEach (e::es) X.env=(false,eval e X.env)::starEach es X.env:=by rfl) (hpl:(backTo pos (starEach es X.env)).any (·.1)=false:=by rfl) :
  PE X (.Call (.Name x p) (e::es) [] pos) (z7A sp dvs E t):=by
 intro pins s σ H Q I h;refine wpAny_Call_Name_kw (vg I hg hm ?_ hdb);refine PySem.W.callWith_K (h₀:=X.base) I.ok.mod.kin hk (thn (ha pos pins s σ H _ I h) fun us s1 ⟨vs,H1,I1,r,q⟩=>⟨I1.kIn,?_⟩) he hpl;exact z8d F hr hb hd hx I1 r q
theorem z8r {pl:Sem Bool} (he:PE X o ta) (c:Cls X.K C) (hm:Meth X.K C m f) (F:FnOk X.prog X.w X.K X.mg X.base CX k f fd ps sp) (hr:Room k X.A) (hb:Binds X.K fd ps ds) (hd:Vals dvs ds) (hx:jx CX X E) (ha:PA X (e::es) t)
  (hst:starEach (e::es) X.env=(false,eval e X.env)::starEach es X.env:=by rfl) (hpl:(backTo pos (starEach es X.env)).any (·.1)=false:=by rfl)
  (ht:eval (.Call (.Attribute o m apos) (e::es) [] pos) X.env=(do
   let ov ←eval o X.env
   standAt apos.atName
   let (f,first) ←holding [ov] (getMethod ov m pl)
   callWith pos f first (backTo pos (starEach (e::es) X.env)) (backToKw pos (keywordEach [] X.env))):=by rfl) :
  PE X (.Call (.Attribute o m apos) (e::es) [] pos) (z6y C m sp dvs E ta t):=by
 intro pins s σ H Q I h;refine PySem.W.methodCall_KW (pl:=pl) (thn (he pins s σ H _ I h) fun u s1 ⟨x,H1,I1,rx,a,dx,fs,ex,ea,l,q⟩=>?_) ht;subst ex;obtain rfl:u=Value.ref a:=rx;refine z0x I1 ea c hm l ?_;refine PySem.W.callWith_K (first:=[.ref a]) (h₀:=X.base) I.ok.mod.kin hm.kp (thn (ha pos pins s1 σ H1 _ I1 q) fun us s2 ⟨vs,H2,I2,r,q2⟩=>⟨I2.kIn,?_⟩) hst hpl;exact z8d (us:=.ref a::us) (vs:=.ref a::vs) F hr hb hd hx I2 (.cons rfl r) q2
theorem y1C {pl:Sem Bool} (he:PE X o ta) (c:Cls X.K C) (hm:Meth X.K C m f) (F:FnOk X.prog X.w X.K X.mg X.base CX k f fd ps sp) (hr:Room k X.A) (hb:Binds X.K fd ps ds) (hd:Vals dvs ds) (hx:jx CX X E)
  (ht:eval (.Call (.Attribute o m apos) [] [] pos) X.env=(do
   let ov ←eval o X.env
   standAt apos.atName
   let (f,first) ←holding [ov] (getMethod ov m pl)
   callWith pos f first (backTo pos (starEach [] X.env)) (backToKw pos (keywordEach [] X.env))):=by rfl) :
  PE X (.Call (.Attribute o m apos) [] [] pos) (z6y C m sp dvs E ta y0j):=by
 intro pins s σ H Q I h;refine PySem.W.methodCall_KW (pl:=pl) (thn (he pins s σ H _ I h) fun u s1 ⟨x,H1,I1,rx,a,dx,fs,ex,ea,l,q⟩=>?_) ht;subst ex;obtain rfl:u=Value.ref a:=rx;refine z0x I1 ea c hm l ?_;exact PySem.W.callWith_K0 (first:=[.ref a]) I1.kIn hm.kp (z8d (us:=[.ref a]) (vs:=[.ref a]) F hr hb hd hx I1 (.cons rfl .nil) q)
structure Mk (K:PySem.W.Frag) (C f:Addr):Prop where
 makes:PySem.W.makesIn K C=true
 init:PySem.W.findIn K (.ref C) "__init__" = some (some (.ref f))
 fn:PySem.W.isFn K (.ref f)=true
 kp:PySem.W.keepIn K (.ref C)=true
theorem z6H {pins:List (Addr×Obj)} {σ:St} {H:Hp} {s:Shared} {Q:VK} {us:List Value} {vs:List V} (M:Mk X.K C f) (F:FnOk X.prog X.w X.K X.mg X.base CX k f fd ps sp) (hr:Room (k+1) X.A) (hb:Binds X.K fd ps ds) (hd:Vals dvs ds)
  (hx:jx CX X E) (I:Inv X pins σ H s) (r:Vals vs us)
  (h:∀x dx,H x=none->H dx=none->dx≠x->sp (.ref x::(vs++dvs)) (upd (upd H dx (.own x)) x (.ins C dx [])) (fun v H2=>v=.non/\Q (.ref x) H2) E) :
  wpAny (model X.prog X.w) X.A (call (.ref C) us) (EP X pins σ Q) X.xe s:=by
 have hq:=h (s.heap.objs.size+1) s.heap.objs.size (I.hok.fresh (Nat.le_succ _)) (I.hok.fresh (Nat.le_refl _)) (Nat.ne_of_lt (Nat.lt_succ_self _));have I2:=Inv.made (C:=C) I;have r2:Vals (V.ref (s.heap.objs.size+1)::(vs++dvs)) (Value.ref (s.heap.objs.size+1)::(us++ds)):=.cons rfl (r.append hd);have hl:(Value.ref (s.heap.objs.size+1)::us++ds).length=ps.length:=by
  have e:=r2.length;rw[F.len _ _ _ _ hq] at e;exact e.symm
 refine wpAny_call (y1U (f:=f) I.kIn M.makes M.init (beq_iff_eq.mp M.fn) (codeAny_mono (F.run _ X.stack _ _ ⟨Value.ref (s.heap.objs.size+1)::us,[]⟩ (Value.ref (s.heap.objs.size+1)::(us++ds)) _ _ E (hr.make C us [])
  (I2.env0.make C us []) (hb _ (Value.ref (s.heap.objs.size+1)::us) I2.kIn hl) r2 hq) fun r s' hq'=>?_))
 cases r with
 | error e=>exact hx pins σ _ _ e s' I2 hq'
 | ok fl=>
  cases fl with
  | ret u=>
   obtain⟨v,H',I3,rv,ev,q3⟩:=I2.after hq';subst ev;exact⟨rv,⟨V.ref (s.heap.objs.size+1),H',I3,rfl,q3⟩⟩
  | next=>exact False.elim hq'
  | brk=>exact False.elim hq'
  | cont=>exact False.elim hq'
theorem y3Q (M:Mk X.K C f) (F:FnOk X.prog X.w X.K X.mg X.base CX k f fd ps sp) (hr:Room (k+1) X.A) (hg:Gl X x) (hm:X.mg x=some (.ref C)) (hb:Binds X.K fd ps ds) (hd:Vals dvs ds) (hx:jx CX X E)
  (ha:PA X (e::es) t) (hdb:(x == ("__debug__" : Str))=false:=by decide) (he:starEach (e::es) X.env=(false,eval e X.env)::starEach es X.env:=by rfl) (hpl:(backTo pos (starEach es X.env)).any (·.1)=false:=by rfl) :
  PE X (.Call (.Name x p) (e::es) [] pos) (z8F C sp dvs E t):=by
 intro pins s σ H Q I h;refine wpAny_Call_Name_kw (vg I hg hm ?_ hdb);refine PySem.W.callWith_K (h₀:=X.base) I.ok.mod.kin M.kp (thn (ha pos pins s σ H _ I h) fun us s1 ⟨vs,H1,I1,r,q⟩=>⟨I1.kIn,?_⟩) he hpl;exact z6H M F hr hb hd hx I1 r q
theorem y1D (M:Mk X.K C f) (F:FnOk X.prog X.w X.K X.mg X.base CX k f fd ps sp) (hr:Room (k+1) X.A) (hg:Gl X x) (hm:X.mg x=some (.ref C)) (hb:Binds X.K fd ps ds) (hd:Vals dvs ds) (hx:jx CX X E)
  (hdb:(x == ("__debug__" : Str))=false:=by decide):PE X (.Call (.Name x p) [] [] pos) (z8F C sp dvs E y0j):=by
 intro pins s σ H Q I h;refine wpAny_Call_Name_kw (vg I hg hm ?_ hdb);exact PySem.W.callWith_K0 I.kIn M.kp (z6H (us:=[]) M F hr hb hd hx I .nil h)
end
noncomputable def PK (X:Cx) (kws:List Keyword) (t:TA):Prop:=
 ∀(pos:Pos) (pins:List (Addr×Obj)) (s:Shared) (σ:St) (H:Hp) (Q:List V->Hp->Prop),Inv X pins σ H s->t σ H Q->wpAny (model X.prog X.w) X.A (evalAll ((backToKw pos (keywordEach kws X.env)).map (·.2))) (AP X pins σ Q) X.xe s
section
variable {X:Cx} {CX:CXT} {k:Nat} {f C:Addr} {fd:FuncData} {ps ks:List Str} {sp:Sp} {E:XK} {x m:Str} {p pos apos kpos:Pos} {e o:Expr} {es:List Expr} {kws:List Keyword} {te ta:TE} {t tk:TA} {nm:Option Str}
theorem y4j:PK X [] y0j:=fun _ _ _ _ H Q I h=>wpAny_evalAll_nil ⟨[],H,I,.nil,h⟩
theorem y3K (ha:PE X e te) (hr:PK X kws t):PK X (⟨nm,e,kpos⟩::kws) (z6z te t):=by
 intro pos pins s σ H Q I h;show wpAny _ _ (evalAll ((do let v ←eval e X.env;standAt pos;pure v)::(backToKw pos (keywordEach kws X.env)).map (·.2))) _ _ s;refine wpAny_evalAll_cons (wpAny_bind (thn (ha pins s σ H _ I h) fun u s1 ⟨x,H1,I1,r1,q1⟩=>wpAny_bind (wpAny_standAt (wpAny_pure ?_))));exact thn (hr pos pins s1 σ H1 _ I1 q1) fun us s2 ⟨xs,H2,I2,r2,q2⟩=>⟨x::xs,H2,I2,.cons r1 r2,q2⟩
variable {g:List Value->List Value->List Value} {gV:List V->List V->List V}
end
structure FnScope (N P:List Str) (sc:Scope):Prop where
 kind:sc.kind=.function
 co:sc.isCoroutine=false
 gen:sc.isGenerator=false
 nd:N.Nodup
 pre:N.take P.length=P
 par:∀x∈P,sc.names.lookup x=some .local∨sc.names.lookup x=some .cell
 nofree:∀y∈sc.names,y.2≠.free
theorem z4D {kindOf:Str->Option NameKind} {x:Str}:∀ {binds:List (Str×Value)} {m:Str->Option Value},(∀v,(x,v)∉binds)->bindL kindOf binds m x=m x
  | [],_,_=>rfl
  | (n,v)::r,m,h=>by
    unfold bindL;rw[z4D fun w hw=>h w (List.mem_cons_of_mem _ hw)];split
    · have:x≠n:=by rintro rfl;exact h v List.mem_cons_self
      simp [this]
    · rfl
theorem z4F {kindOf:Str->Option NameKind} {x:Str}:∀ {binds:List (Str×Value)} {m:Str->Option Value},(∀v,(x,v)∉binds)->bindC kindOf binds m x=m x
  | [],_,_=>rfl
  | (n,v)::r,m,h=>by
    unfold bindC;rw[z4F fun w hw=>h w (List.mem_cons_of_mem _ hw)];split
    · rfl
    · have:x≠n:=by rintro rfl;exact h v List.mem_cons_self
      simp [this]
theorem z4E {kindOf:Str->Option NameKind} {x:Str} {v:Value}:∀ {P:List Str} {vs:List Value} {i:Nat} {m:Str->Option Value},P.Nodup->P[i]?=some x->vs[i]?=some v->kindOf x=some .local->
  bindL kindOf (P.zip vs) m x=some v
 | [],_,_,_,_,h,_,_=>by simp at h
 | _::_,[],_,_,_,_,h,_=>by simp at h
 | p::P,w::vs,0,m,nd,h1,h2,hk=>by
  simp at h1 h2;subst h1;subst h2;show bindL kindOf ((p,w)::P.zip vs) m p=_;unfold bindL;rw[z4D fun v hv=>(List.nodup_cons.mp nd).1 (List.of_mem_zip hv).1,if_pos hk];simp
 | p::P,w::vs,i+1,m,nd,h1,h2,hk=>by
  show bindL kindOf ((p,w)::P.zip vs) m x=_;unfold bindL;exact z4E (i:=i) (List.nodup_cons.mp nd).2 (by simpa using h1) (by simpa using h2) hk
theorem z4G {kindOf:Str->Option NameKind} {x:Str} {v:Value}:∀ {P:List Str} {vs:List Value} {i:Nat} {m:Str->Option Value},P.Nodup->P[i]?=some x->vs[i]?=some v->kindOf x≠some .local->
  bindC kindOf (P.zip vs) m x=some v
 | [],_,_,_,_,h,_,_=>by simp at h
 | _::_,[],_,_,_,_,h,_=>by simp at h
 | p::P,w::vs,0,m,nd,h1,h2,hk=>by
  simp at h1 h2;subst h1;subst h2;show bindC kindOf ((p,w)::P.zip vs) m p=_;unfold bindC;rw[z4F fun v hv=>(List.nodup_cons.mp nd).1 (List.of_mem_zip hv).1,if_neg hk];simp
 | p::P,w::vs,i+1,m,nd,h1,h2,hk=>by
  show bindC kindOf ((p,w)::P.zip vs) m x=_;unfold bindC;exact z4G (i:=i) (List.nodup_cons.mp nd).2 (by simpa using h1) (by simpa using h2) hk
noncomputable def qc (N:List Str) (vs:List V):St:=vs.map some++List.replicate (N.length-vs.length) none
noncomputable def z0J (CX:CXT) (P:Program) (w:World) (K:PySem.W.Frag) (mg:Str->Option Value) (base:Heap) (N:List Str) (qual:Str) (scope:Scope) (f:Addr) (cd:Value) (A:Around) (outer:List Env) (s:Shared) (H:Hp) (E:XK):Cx where
 prog:=P
 w:=w
 K:=K
 mg:=mg
 base:=base
 A:=A.deeper (envOfC qual scope s.heap.objs.size f cd)
 N:=N
 s₀:=s
 H₀:=H
 env:=envOfC qual scope s.heap.objs.size f cd
 outer:=outer
 stack:=envOfC qual scope s.heap.objs.size f cd::outer
 ex:=[]
 calm:=true
 fn:=fun _=>true
 pn:=[]
 xe:=fun e s'=>wpAny (model P w) (A.deeper (envOfC qual scope s.heap.objs.size f cd)) (leaving (envOfC qual scope s.heap.objs.size f cd) e) (fun _ s''=>CX outer H s E e s'') (fun e' s''=>CX outer H s E e' s'') s'
theorem z6j {sc:Scope} {n:Nat} {x:Str} (h:sc.names.lookup x=some .cell):∃c,(cellsFrom n sc.names []).lookup x=some c:=by
 have q:=PySem.W.cellsFrom_some sc.names n [] (.inl h);exact Option.isSome_iff_exists.mp q
theorem z9Z {CX:CXT} {P:Program} {w:World} {K:PySem.W.Frag} {mg:Str->Option Value} {base:Heap} {N ps:List Str} {qual:Str} {scope:Scope} {f:Addr} {cd:Value} {A:Around} {outer:List Env} {s s1:Shared} {H:Hp} {E:XK} {us:List Value} {vs:List V}
  (S:FnScope N ps scope) (hd:A.handled=none) (e0:Env0 P w K mg base A outer s H) (hl:vs.length=ps.length) (r:Vals vs us)
  (x:InCallC s s.heap.objs.size (bindL (envOfC qual scope s.heap.objs.size f cd).kindOf (ps.zip us) fun _=>none) (cellsFrom (s.heap.objs.size+1) scope.names []) (bindC (envOfC qual scope s.heap.objs.size f cd).kindOf (ps.zip us) fun _=>none) s1) :
  Inv (z0J CX P w K mg base N qual scope f cd A outer s H E) [] (qc N vs) H s1:=by
 have hpl:ps.length<=N.length:=by have:=congrArg List.length S.pre;rw[List.length_take] at this;omega
 obtain⟨h1,tk,rfl,hk⟩:=x.done;have noA:∀b:Addr,b∉(z0J CX P w K mg base N qual scope f cd A outer s H E).ex:=fun b z=>absurd (show b∈([]:List Addr) from z) (by simp);refine⟨⟨e0.mod,S.kind,rfl,rfl,Nat.le_refl _,fun y z c h1 h2=>?_,fun y hy=>?_,fun y c _ h=>?_,fun _=>hd,Around.frames_deeper e0.frames,.inr ⟨rfl,rfl⟩,fun b z=>absurd z (noA b),e0.bs,e0.bsz,fun b _ _=>noA b,fun b z=>absurd z (noA b),e0.funs,e0.frf⟩,
  rfl,e0.bare,Un.kept hk,⟨_,x.toInCall.ns,fun i y v h1 h2 h3=>?_⟩,fun y c h=>⟨_,x.cell y c h⟩,e0.hok.fresh (Nat.le_refl _),fun y c h=>?_,fun p hp=>absurd (show p∈([]:List (Addr×Obj)) from hp) (by simp),e0.hok.kept hk,?_⟩
 ·exact name_of_addr x.apart (PySem.mem_of_lookup h1) (PySem.mem_of_lookup h2)
 ·have hy:scope.names.lookup y=some .cell∨scope.names.lookup y=some .free:=hy;rcases hy with hy|hy
  ·exact z6j hy
  ·exact absurd rfl (S.nofree _ (PySem.mem_of_lookup hy))
 ·exact Nat.le_of_lt (x.above y c (PySem.mem_of_lookup h))
 ·have hi:i<vs.length:=by
   unfold qc at h2;by_cases hi:i<vs.length
   ·exact hi
   ·rw[List.getElem?_append_right (by simpa using hi)] at h2;rw[List.getElem?_replicate] at h2;split at h2 <;> cases h2
  have ha:vs[i]?=some v:=by
   unfold qc at h2;rw[List.getElem?_append_left (by simpa using hi),List.getElem?_map] at h2;cases e:vs[i]? with
   | none=>rw[e] at h2;cases h2
   | some a=>rw[e] at h2;cases h2;rfl
  obtain⟨u,hu,rv⟩:=r.get ha;have hp:ps[i]?=some y:=by
   rw[←S.pre,List.getElem?_take_of_lt (by omega)];exact h1
  have ndP:ps.Nodup:=by rw[←S.pre];exact S.nd.sublist (List.take_sublist _ _)
  refine⟨u,rv,?_⟩;rcases S.par y (List.mem_of_getElem? hp) with k|k
  ·exact .inl ⟨k,z4E ndP hp hu k⟩
  ·obtain⟨c,e⟩:=z6j (n:=s.heap.objs.size+1) k;refine .inr ⟨.inl k,c,e,?_⟩;have q:=x.cell y c e;rw[z4G ndP hp hu (by show scope.names.lookup y≠_;rw[k];decide)] at q;exact q
 ·exact e0.hok.fresh (Nat.le_of_lt (x.above y c (PySem.mem_of_lookup h)))
 ·unfold qc;show _=N.length;rw[List.length_append,List.length_map,List.length_replicate];omega
theorem y3n {CX:CXT} {P:Program} {w:World} {K:PySem.W.Frag} {mg:Str->Option Value} {base:Heap} {k:Nat} {f:Addr} {name qual:Str} {params:Arguments} {body:List Stmt} {scope:Scope} {dV kV doc pm cdv ct oc:Value} {an od:Option Addr}
  {osl:Array (Option Value)} {N ps:List Str} {sp:Sp} (lk:K.lookup f=some ⟨oc,od,.func (PySem.W.fnOf name qual params body scope dV kV doc pm an cdv ct),osl⟩) (hcd:PySem.W.codeIn K cdv qual=true) (S:FnScope N ps scope)
  (len:∀vs H Q E,sp vs H Q E->vs.length=ps.length)
  (hbody:∀(A:Around) (outer:List Env) (s:Shared) (H:Hp) (vs:List V) (Q:VK) (E:XK),Room k (A.deeper (envOfC qual scope s.heap.objs.size f cdv))->sp vs H Q E->
   ∃t,PSs (z0J CX P w K mg base N qual scope f cdv A outer s H E) body t/\t { nx:=fun _ H'=>Q .non H',rt:=Q } (qc N vs) H) :
  FnOk P w K mg base CX (k+1) f (PySem.W.fnOf name qual params body scope dV kV doc pm an cdv ct) ps sp:=by
 refine⟨len,fun A outer s H args us vs Q E hr e0 hb r hsp=>?_⟩;have hl:=len _ _ _ _ hsp;have KX:K.In s.heap:=e0.mod.kin.keeps fun b o e=>(e0.bs b o e).1;have lim:s.heap.NoLimit:=e0.mod.nolimit.keeps fun b o e=>(e0.bs b o e).1;have hkind:∀y∈ps.zip us,scope.names.lookup y.1=some .local∨(scope.names.lookup y.1=some .cell/\((cellsFrom (s.heap.objs.size+1) scope.names []).lookup y.1).isSome=true):=fun⟨n,v⟩ hy=>by
  rcases S.par n (List.of_mem_zip hy).1 with q|q
  ·exact .inl q
  ·exact .inr ⟨q,PySem.W.cellsFrom_some _ _ _ (.inl q)⟩
 refine codeAny_call_function hr.depth (KX _ _ lk) rfl S.co S.gen rfl (PySem.W.codeRec_of KX hcd) (hb _ _ _ _ ?_);refine wpAny_newFunctionEnv_cells S.kind hkind fun env he s1 x=>?_;subst he;refine⟨lim.keeps x.toInCall.keep,codeAny_func ?_⟩;obtain⟨t,ht,hq⟩:=hbody A outer s H vs Q E (hr.deeper _) hsp;have I:Inv (z0J CX P w K mg base N qual scope f cdv A outer s H E) [] (qc N vs) H s1:=z9Z S hr.hd e0 hl r x;refine wpAny_mono (ht [] s1 (qc N vs) H _ I hq) (fun fl s' hs=>?_) fun e s' hs=>hs;have fin:∀ {σ':St} {H':Hp} {v:V} {u:Value},Inv (z0J CX P w K mg base N qual scope f cdv A outer s H E) [] σ' H' s'->RelV v u->Q v H'->CE outer P w H s Q u s':=
  fun {σ' H' v u} J rv q=>⟨v,H',J.os,J.bare,J.base,J.hok,rv,q⟩
 cases fl with
 | ret u=>
  obtain⟨v,σ',H',J,rv,q⟩:=hs;exact fin J rv q
 | next=>
  obtain⟨σ',H',J,q⟩:=hs;exact fin (v:=V.non) (u:=Value.none) J rfl q
 | brk=>
  obtain⟨_,_,_,q⟩:=hs;exact False.elim q
 | cont=>
  obtain⟨_,_,_,q⟩:=hs;exact False.elim q
section
variable {X:Cx} {x:Str} {p pos:Pos} {e:Expr} {es:List Expr} {t:TA} {id T:String} {r:List V->Hp->VK->Prop}
noncomputable def tCB (r:List V->Hp->VK->Prop) (t:TA):TE:=fun σ H Q=>t σ H fun vs H1=>r vs H1 Q
theorem zY (hc:qS X (.builtin id) r) (hg:Gl X x) (hm:X.mg x=none) (hv:bootBuiltins x=some (.builtin id)) (ha:PA X (e::es) t) (hn:x≠ "__name__" :=by decide) (hdb:(x == ("__debug__" : Str))=false:=by decide)
  (he:starEach (e::es) X.env=(false,eval e X.env)::starEach es X.env:=by rfl) (hpl:(backTo pos (starEach es X.env)).any (·.1)=false:=by rfl):PE X (.Call (.Name x p) (e::es) [] pos) (tCB r t):=by
 intro pins s σ H Q I h;refine wpAny_Call_Name_kw (jr I hg hm hv ?_ hn hdb);exact PyProof.Rows.callWith_builtin1 (thn (ha pos pins s σ H _ I h) fun us s1 ⟨vs,H1,I1,r1,q1⟩=>hc pins s1 σ H1 vs us Q I1 r1 q1) he hpl
theorem yA (hc:qS X (.type T) r) (hg:Gl X x) (hm:X.mg x=none) (hv:bootBuiltins x=some (.type T)) (ha:PA X (e::es) t) (hn:x≠ "__name__" :=by decide) (hdb:(x == ("__debug__" : Str))=false:=by decide)
  (he:starEach (e::es) X.env=(false,eval e X.env)::starEach es X.env:=by rfl) (hpl:(backTo pos (starEach es X.env)).any (·.1)=false:=by rfl):PE X (.Call (.Name x p) (e::es) [] pos) (tCB r t):=by
 intro pins s σ H Q I h;refine wpAny_Call_Name_kw (jr I hg hm hv ?_ hn hdb);exact PyProof.Rows.callWith_type1 (thn (ha pos pins s σ H _ I h) fun us s1 ⟨vs,H1,I1,r1,q1⟩=>hc pins s1 σ H1 vs us Q I1 r1 q1) he hpl
end
end L2
namespace HT
open PySem PyProof.Rows
section
open PySem.SeqAt
open PySem.AutoSeq1 (wpAny_loadPart')
open PySem.MeetsSeq PySem.MeetsSeq2 PySem.MeetsSeq3
end
section
variable {prog:Program} {w:World} {A:Around} {E:Value->Shared->Prop} {s:Shared}
noncomputable def sIx (n d:Nat):Option Int->Nat
 | none=>d
 | some v=>if v<0 then (v+(n:Int)).toNat else min v.toNat n
theorem sIx_none (n d:Nat):sIx n d none=d:=rfl
theorem sIx_nat (n d k:Nat):sIx n d (some (k:Int))=min k n:=by
 show (if (k:Int)<0 then ((k:Int)+(n:Int)).toNat else min (k:Int).toNat n)=min k n;rw[if_neg (by omega),Int.toNat_natCast]
end
end HT
namespace L2
open PySem PySem.Spec PyProof.Rows
noncomputable abbrev TO:=St->Hp->(Option Int->Hp->Prop)->Prop
noncomputable def PO (X:Cx) (e:Option Expr) (t:TO):Prop:=
 ∀(pins:List (Addr×Obj)) (s:Shared) (σ:St) (H:Hp) (Q:Option Int->Hp->Prop),Inv X pins σ H s->t σ H Q->
  wpAny (model X.prog X.w) X.A (evalPart e X.env) (fun u s'=>∃o H',Inv X pins σ H' s'/\IsPart u o/\Q o H') X.xe s
noncomputable def z8E:TO:=fun _ H Q=>Q none H
noncomputable def y4O (t:TE):TO:=fun σ H Q=>t σ H fun x H1=>∃i,x=.int i/\Q (some i) H1
theorem wE {ns:List Int}:∀ {us:List Value},Vals (ns.map V.int) us->IntsAre us ns:=by
 induction ns with
 | nil=>intro us r;rw[List.map_nil] at r;cases r;exact .nil
 | cons n ns ih=>
  intro us r;rw[List.map_cons] at r;cases r with
  | cons r1 r2=>
   obtain⟨t,e⟩:=r1;subst e;exact .cons n t (ih r2)
section
variable {X:Cx} {e:Expr} {te:TE} {lo hi:Option Expr} {tl th:TO} {pos p2:Pos}
theorem z1k:PO X none z8E:=by
 intro pins s σ H Q I h;rw[evalPart_none];exact wpAny_pure ⟨none,H,I,.none,h⟩
theorem jp (h:PE X e te):PO X (some e) (y4O te):=by
 intro pins s σ H Q I hw;rw[evalPart_some];refine thn (h pins s σ H _ I hw) fun u s1 ⟨x,H1,I1,r1,q1⟩=>?_;obtain⟨i,rfl,q⟩:=q1;obtain⟨t,rfl⟩:=r1;exact⟨some i,H1,I1,.int i t,q⟩
noncomputable def SlR (X:Cx) (r:V->Option Int->Option Int->Hp->VK->Prop):Prop:=
 ∀(pins:List (Addr×Obj)) (s:Shared) (σ:St) (H:Hp) (x:V) (v vl vu:Value) (lo hi:Option Int) (sl:Addr) (Q:VK),Inv X pins σ H s->RelV x v->s.heap.IsSliceOf sl vl vu .none->IsPart vl lo->IsPart vu hi->r x lo hi H Q->
  ∃T id,typeLookup (.type T) "__getitem__" = pure (some (.builtin id))/\s.TypeIs v T/\wpAny (model X.prog X.w) X.A (getItem v (.ref sl)) (EP X pins σ Q) X.xe s
noncomputable def tSl (r:V->Option Int->Option Int->Hp->VK->Prop) (te:TE) (tl th:TO):TE:=fun σ H Q=>te σ H fun x H1=>tl σ H1 fun l H2=>th σ H2 fun u H3=>r x l u H3 Q
theorem qI {r:V->Option Int->Option Int->Hp->VK->Prop} (hr:SlR X r) (he:PE X e te) (hl:PO X lo tl) (hu:PO X hi th):PE X (.Subscript e (.Slice lo hi none p2) pos) (tSl r te tl th):=by
 intro pins s σ H Q I h;refine Subscript_ (thn (he pins s σ H _ I h) fun v s1 ⟨x,H1,I1,r1,q1⟩=>?_);refine wpAny_Slice (thn (hl pins s1 σ H1 _ I1 q1) fun vl s2 ⟨l,H2,I2,pl,q2⟩=>thn (hu pins s2 σ H2 _ I2 q2) fun vu s3 ⟨u,H3,I3,pu,q3⟩=>?_);rw[evalPart_none];refine wpAny_pure ?_;have I4:Inv X pins σ H3 { s3 with heap:=s3.heap.push { cls:=.type "slice",data:=.fields #[vl,vu,.none] } }:=I3.kept (t':=s3.toks) fun b ob q=>Heap.get?_push_of_some _ q;obtain⟨T,id,hT,ht,hg⟩:=hr pins { s3 with heap:=s3.heap.push { cls:=.type "slice",data:=.fields #[vl,vu,.none] } } σ H3 x v vl vu l u s3.heap.objs.size Q I4 r1 (Heap.IsSliceOf.new ..) pl pu q3;show wpAny (model X.prog X.w) X.A (subscriptTail e (.Slice lo hi none p2) v (.ref s3.heap.objs.size)) (EP X pins σ Q) X.xe { s3 with heap:=s3.heap.push { cls:=.type "slice",data:=.fields #[vl,vu,.none] } };exact tail_any (ops:=[.ref s3.heap.objs.size,v]) ht hT hg (by with_unfolding_all rfl)
noncomputable def y2c (xs:List V) (lo hi:Option Int):List V:=(xs.drop (HT.sIx xs.length 0 lo)).take (HT.sIx xs.length xs.length hi-HT.sIx xs.length 0 lo)
theorem z5b (xs:List V) (lo hi:Option Int):(y2c xs lo hi).length<=xs.length:=by
 unfold y2c;rw[List.length_take,List.length_drop];omega
end
noncomputable def ixN (n:Nat) (i:Int):Option Nat:=if 0<=i then (if i<n then some i.toNat else none) else if -(n:Int)<=i then some (i+n).toNat else none
noncomputable def atI {α:Type} (xs:List α) (i:Int):Option α:=(ixN xs.length i).bind fun j=>xs[j]?
theorem y3e {n:Nat} {i:Int} {j:Nat} (h:ixN n i=some j):seqIndex? i n=some j/\j<n/\-(n:Int)<=i/\i<n:=by
 unfold ixN at h;by_cases h0:0<=i
 ·rw[if_pos h0] at h;by_cases h1:i<n
  ·rw[if_pos h1] at h;have e:i.toNat=j:=Option.some.inj h;exact⟨by rw[seqIndex_of h0 h1,e],by omega,by omega,h1⟩
  ·rw[if_neg h1] at h;cases h
 ·rw[if_neg h0] at h;by_cases h1:-(n:Int)<=i
  ·rw[if_pos h1] at h;have e:(i+n).toNat=j:=Option.some.inj h;exact⟨by rw[seqIndex_neg (by omega) h1,e],by omega,h1,by omega⟩
  ·rw[if_neg h1] at h;cases h
theorem z5g {α:Type} {xs:List α} {i:Int} {v:α} (h:atI xs i=some v):∃j,seqIndex? i xs.length=some j/\xs[j]?=some v/\j<xs.length/\-(xs.length:Int)<=i/\i<xs.length:=by
 unfold atI at h;cases e:ixN xs.length i with
 | none=>rw[e] at h;cases h
 | some j=>
  rw[e] at h;obtain⟨h1,h2,h3,h4⟩:=y3e e;exact⟨j,h1,h,h2,h3,h4⟩
theorem zj {α:Type} {xs:List α} {j:Nat} {v:α} (h:xs[j]?=some v):atI xs (j:Int)=some v:=by
 have hj:j<xs.length:=(List.getElem?_eq_some_iff.mp h).1;have e:ixN xs.length (j:Int)=some j:=by
  unfold ixN;rw[if_pos (by omega),if_pos (by omega)];simp
 unfold atI;rw[e];exact h
noncomputable def y4D (b:Expr):Prop:=∀o i,subscripted b false o i=operate [o,i] (getItem o i)
noncomputable def IxR (X:Cx) (r:R2):Prop:=
 ∀(value slice:Expr) (pins:List (Addr×Obj)) (s:Shared) (σ:St) (H:Hp) (x y:V) (v u:Value) (Q:VK),Inv X pins σ H s->RelV x v->RelV y u->r x y H Q->
  subscripted slice false v u=operate [v,u] (getItem v u)->wpAny (model X.prog X.w) X.A (subscriptTail value slice v u) (EP X pins σ Q) X.xe s
noncomputable def MtR (X:Cx) (id:String) (r:V->List V->Hp->VK->Prop):Prop:=
 ∀(pins:List (Addr×Obj)) (s:Shared) (σ:St) (H:Hp) (x:V) (xs:List V) (v:Value) (us:List Value) (Q:VK),Inv X pins σ H s->RelV x v->Vals xs us->r x xs H Q->
  wpAny (model X.prog X.w) X.A (call (.builtin id) (v::us)) (EP X pins σ Q) X.xe s
section
variable {X:Cx} {a b:Expr} {ta tb:TE} {pos:Pos}
theorem zU {r:R2} (hr:IxR X r) (ha:PE X a ta) (hb:PE X b tb) (hs:y4D b):PE X (.Subscript a b pos) (tOp r ta tb):=by
 intro pins s σ H Q I h;exact Subscript_ (y6A ha hb I h fun v u s2 x y H2 I2 rx ry q=>hr a b pins s2 σ H2 x y v u Q I2 rx ry q (hs _ _))
noncomputable def y4c (K:PySem.W.Frag):R2:=fun x y H Q=>∃p xs i v,x=.ref p/\y=.int i/\SqL K H p xs/\atI xs i=some v/\Q v H
noncomputable def y6S (K:PySem.W.Frag):R2:=fun x y H Q=>∃p xs i v,x=.ref p/\y=.int i/\SqT K H p xs/\atI xs i=some v/\Q v H
noncomputable def y6m:R2:=fun x y H Q=>∃z i c,x=.str z/\y=.int i/\z.length<=sizeLine/\atI z.cps.toList i=some c/\Q (.str ⟨#[c]⟩) H
theorem zo:IxR X (y4c X.K):=by
 intro value slice pins s σ H x y v u Q I rx ry h hs;obtain⟨p,xs,i,z,rfl,rfl,hq,he,q⟩:=h;cases rx;obtain⟨t,rfl⟩:=ry;obtain⟨its,r,pl,hz⟩:=I.list hq;obtain⟨j,h1,h2,h3,h4,h5⟩:=z5g he;obtain⟨w,ew,rw'⟩:=r.get h2;have hl:=r.length;have hn:=z3V;have fin:EP X pins σ Q w s:=⟨z,H,I,rw',q⟩
 by_cases h0:0<=i
 ·have hj:i.toNat=j:=by
   rw[seqIndex_of h0 h5] at h1;exact Option.some.inj h1
  exact item_listR pl.isList h0 (by omega) (by rw[hj];simpa using ew) fin hs
 ·have hj:(i+(its.toArray.size:Int)).toNat=j:=by
   rw[seqIndex_neg (by omega) h4] at h1;rw[List.size_toArray,←hl];exact Option.some.inj h1
  exact subscriptTail_builtinR (x:=w) pl.isList.typeIs slot_list_getitem.lookup
   (wpAny_getItem_list_neg (Q:=fun r s'=>r=w/\EP X pins σ Q r s') pl.isList (by omega) (by rw[List.size_toArray] <;> omega) (by omega) (by rw[hj];simpa using ew) ⟨rfl,fin⟩) hs
theorem zZ:IxR X (y6S X.K):=by
 intro value slice pins s σ H x y v u Q I rx ry h hs;obtain⟨p,xs,i,z,rfl,rfl,hq,he,q⟩:=h;cases rx;obtain⟨t,rfl⟩:=ry;obtain⟨its,r,pl,hz⟩:=I.tuple hq;obtain⟨j,h1,h2,h3,h4,h5⟩:=z5g he;obtain⟨w,ew,rw'⟩:=r.get h2;have hl:=r.length;have hn:=z3V;have fin:EP X pins σ Q w s:=⟨z,H,I,rw',q⟩
 exact subscriptTail_builtinR (x:=w) pl.typeIs slot_tuple_getitem.lookup
  (getItem_tuple (j:=j) (Q:=fun r s'=>r=w/\EP X pins σ Q r s') pl (by omega) (by omega) (by rw[List.size_toArray,←hl];exact h1) (by simpa using ew) ⟨rfl,fin⟩) hs
theorem z9S:IxR X y6m:=by
 intro value slice pins s σ H x y v u Q I rx ry h hs;obtain⟨z,i,c,rfl,rfl,hz,he,q⟩:=h;obtain⟨t,rfl⟩:=rx;obtain⟨t',rfl⟩:=ry;obtain⟨j,h1,h2,h3,h4,h5⟩:=z5g he;have hl:z.cps.toList.length=z.length:=by simp [Str.length]
 rw[hl] at h1 h4 h5;have hn:=z3V;exact tail_any (typeIs_str s z t) slot_str_getitem.lookup (getItem_str (c:=c) (by
  have e1:decide (i < -(2^63:Int))=false:=decide_eq_false (by omega);have e2:decide (i ≥ 2^63)=false:=decide_eq_false (by omega);rw[e1,e2,Bool.or_false]) (by rw[h1];simpa using h2) ⟨.str ⟨#[c]⟩,H,I.tok _,⟨_,rfl⟩,q⟩) hs
theorem Inv.lst {pins:List (Addr×Obj)} {σ:St} {H:Hp} {s:Shared} {p:Addr} {xs:List V} (I:Inv X pins σ H s) (h:H p=some (.lst xs)) :
  ∃(its:List Value) (n:Nat),Vals xs its/\s.heap.get? p=some { cls:=.type "list",data:=.seq its.toArray n }/\xs.length<=sizeLine:=by
 obtain⟨z,its,n,r,e⟩:=I.hok p _ h;exact⟨its,n,r,e,z⟩
theorem z2y (lo hi:Option Int) (n:Nat):(sliceBounds lo hi none n).1=((HT.sIx n 0 lo:Nat):Int)/\(sliceBounds lo hi none n).2.1=((HT.sIx n n hi:Nat):Int)/\(sliceBounds lo hi none n).2.2=1:=by
 refine⟨?_,?_,rfl⟩
 ·cases lo with
  | none=>simp [sliceBounds,HT.sIx]
  | some i=>
   simp only [sliceBounds,HT.sIx,Option.getD_none,show (1:Int) > 0 by decide,if_true];by_cases h:i<0
   ·simp only [h,if_true] <;> omega
   ·simp only [h,if_false] <;> omega
 ·cases hi with
  | none=>simp [sliceBounds,HT.sIx]
  | some i=>
   simp only [sliceBounds,HT.sIx,Option.getD_none,show (1:Int) > 0 by decide,if_true];by_cases h:i<0
   ·simp only [h,if_true] <;> omega
   ·simp only [h,if_false] <;> omega
theorem z1a (its:List Value) (lo hi:Option Int):slicePick its.toArray lo hi none=((its.drop (HT.sIx its.length 0 lo)).take (HT.sIx its.length its.length hi-HT.sIx its.length 0 lo)).toArray:=by
 obtain⟨h1,h2,h3⟩:=z2y lo hi its.toArray.size;unfold slicePick;rw[h1,h2,h3];simp only [sliceRange_one,pick_run,List.size_toArray] <;> rfl
noncomputable def y6l (K:PySem.W.Frag):V->Option Int->Option Int->Hp->VK->Prop:=fun x lo hi H Q=>∃a xs,x=.ref a/\SqL K H a xs/\∀p,H p=none->Q (.ref p) (upd H p (.lst (y2c xs lo hi)))
theorem z8X:SlR X (y6l X.K):=by
 intro pins s σ H x v vl vu lo hi sl Q I rx hs pl pu h;obtain⟨a,xs,rfl,hx,q⟩:=h;cases rx;obtain⟨its,r,ht,hz⟩:=I.list hx;have hlen:=r.length;refine⟨"list",_,slot_list_getitem.lookup,ht.isList.typeIs,?_⟩;refine wpAny_getItem_list_slice ht.isList hs pl pu .none (by simp) ?_ (by rw[List.size_toArray] <;> omega);rw[z1a,←hlen];refine⟨.ref s.heap.objs.size,_,I.laid (t':=s.toks) (o:=.lst (y2c xs lo hi)) (fun b ob q=>Heap.get?_push_of_some _ q) (Nat.le_refl _) ?_,rfl,q _ (I.hok.fresh (Nat.le_refl _))⟩;exact⟨Nat.le_trans (z5b xs lo hi) hz,_,0,(r.drop (HT.sIx xs.length 0 lo)).take (HT.sIx xs.length xs.length hi-HT.sIx xs.length 0 lo),Heap.get?_push_size _ rfl⟩
theorem z3R:OpR X (compareOp .NotIn) (fun x y H Q=>∃i j,x=.str i/\y=.str j/\Q (.bl (!(!(Builtin.Str.occurrences j i 0 j.length 1).isEmpty))) H):=by
 intro pins s σ H x y v u Q I rx ry h;obtain⟨i,j,rfl,rfl,q⟩:=h;obtain⟨t,rfl⟩:=rx;obtain⟨t',rfl⟩:=ry;exact notIn_str ⟨.bl _,H,I,rfl,q⟩
theorem zc:qS X (.builtin "len") (fun xs H Q=>∃p ys,xs=[.ref p]/\(SqL X.K H p ys∨SqT X.K H p ys)/\Q (.int ys.length) H):=by
 intro pins s σ H xs us Q I r h;obtain⟨p,ys,rfl,hq,q⟩:=h;obtain⟨u,rfl,rx⟩:=z6u r;cases rx;have hn:=z3V;rcases hq with hq|hq
 ·obtain⟨its,r',pl,hz⟩:=I.list hq;have hlen:=r'.length;exact Calls.call_len_list pl.isList (by simp only [List.size_toArray] <;> omega) ⟨.int ys.length,H,I.tok _,⟨s.toks+1,by rw[List.size_toArray,hlen]⟩,q⟩
 ·obtain⟨its,r',pl,hz⟩:=I.tuple hq;have hlen:=r'.length;exact len_tuple pl (by simp only [List.size_toArray] <;> omega) ⟨.int ys.length,H,I.tok _,⟨s.toks+1,by rw[List.size_toArray,hlen]⟩,q⟩
theorem yO:qS X (.builtin "len") (fun xs H Q=>∃z,xs=[.str z]/\z.length<=sizeLine/\Q (.int z.length) H):=by
 intro pins s σ H xs us Q I r h;obtain⟨z,rfl,hz,q⟩:=h;obtain⟨u,rfl,t,rfl⟩:=z6u r;have hn:=z3V;exact len_str (by omega) ⟨.int z.length,H,I.tok _,⟨_,rfl⟩,q⟩
theorem z4A:qS X (.type "list") (fun xs H Q=>∃p ys,xs=[.ref p]/\(SqL X.K H p ys∨SqT X.K H p ys)/\∀l,H l=none->Q (.ref l) (upd H l (.lst ys))):=by
 intro pins s σ H xs us Q I r h;obtain⟨p,ys,rfl,hq,q⟩:=h;obtain⟨u,rfl,rx⟩:=z6u r;cases rx;have fin:∀(its:List Value),Vals ys its->ys.length<=sizeLine->∀(h':Heap) (c':Nat),(∀b o',s.heap.get? b=some o'->h'.get? b=some o')->
   h'.get? s.heap.objs.size=some { cls:=.type "list",dict:=none,data:=.seq its.toArray c',slots:=#[] }->EP X pins σ Q (.ref s.heap.objs.size) { s with heap:=h' }:=fun its r' hz h' c' kp e=>
  ⟨.ref s.heap.objs.size,_,I.laid (t':=s.toks) kp (Nat.le_refl _) (show ObjOk X.prog X.w _ h' _ (.lst ys) from⟨hz,its,c',r',e⟩),rfl,q _ (I.hok.fresh (Nat.le_refl _))⟩
 rcases hq with hq|hq
 ·obtain⟨its,r',pl,hz⟩:=I.list hq;have hlen:=r'.length;obtain⟨o,ho,hc,n,hd⟩:=pl.isList;exact call_list_seq p (.inl rfl) ho hc hd (fun h' c' kp e=>fin its r' hz h' c' kp e) (by simp only [List.size_toArray] <;> omega)
 ·obtain⟨its,r',pl,hz⟩:=I.tuple hq;have hlen:=r'.length;obtain⟨o,ho,hc,n,hd⟩:=pl;exact call_list_seq p (.inr rfl) ho hc hd (fun h' c' kp e=>fin its r' hz h' c' kp e) (by simp only [List.size_toArray] <;> omega)
theorem z2Y:qS X (.type "tuple") (fun xs H Q=>∃p ys,xs=[.ref p]/\((SqL X.K H p ys/\∀l,H l=none->Q (.ref l) (upd H l (.tup ys)))∨(SqT X.K H p ys/\Q (.ref p) H))):=by
 intro pins s σ H xs us Q I r h;obtain⟨p,ys,rfl,h⟩:=h;obtain⟨u,rfl,rx⟩:=z6u r;cases rx;rcases h with⟨hq,q⟩|⟨hq,q⟩
 ·obtain⟨its,r',pl,hz⟩:=I.list hq;have hlen:=r'.length;refine call_tuple_list pl.isList (fun h' kp=>?_) (by simp only [List.size_toArray] <;> omega);have I1:Inv X pins σ H { s with heap:=h' }:=I.kept (t':=s.toks) kp;have I2:Inv X pins σ (upd H h'.objs.size (.tup ys)) { s with heap:=h'.push { cls:=.type "tuple",data:=.seq its.toArray } }:=
   I1.laid (t':=s.toks) (fun b o e=>Heap.get?_push_of_some _ e) (Nat.le_refl _) (show ObjOk X.prog X.w _ _ _ (.tup ys) from⟨hz,its,r',IsTup.new _ _⟩)
  exact⟨.ref h'.objs.size,_,I2,rfl,q _ (I1.hok.fresh (Nat.le_refl _))⟩
 ·obtain⟨its,r',pl,hz⟩:=I.tuple hq;exact call_tuple_same pl ⟨.ref p,H,I,rfl,q⟩
noncomputable def tyV (K:PySem.W.Frag) (T:String) (x:V) (H:Hp):Prop:=match x with
 | .str _=>T = "str"
 | .int _=>T = "int"
 | .ref p=>(T = "list" /\∃xs,SqL K H p xs)∨(T = "tuple" /\∃o,K.lookup p=some o/\o.cls=.type "tuple" /\o.dict=none)∨
   (T = "dict" /\((∃kvs,H p=some (.dK kvs))∨∃kvs,H p=some (.dT kvs)))∨(T = "set" /\∃S n,H p=some (.set S n))
 | _=>False
theorem y4I {pins:List (Addr×Obj)} {σ:St} {H:Hp} {s:Shared} {T:String} {x:V} {v:Value} (I:Inv X pins σ H s) (r:RelV x v) (ty:tyV X.K T x H) :
  s.TypeIs v T/\∀a,v=.ref a->∃ob,s.heap.get? a=some ob/\ob.dict=none:=by
 cases x with
 | str z=>
  obtain⟨t,rfl⟩:=r;cases (show T = "str" from ty);exact⟨typeIs_str s z t,fun _ e=>nomatch e⟩
 | int i=>
  obtain⟨t,rfl⟩:=r;cases (show T = "int" from ty);exact⟨typeIs_int s i t,fun _ e=>nomatch e⟩
 | ref p=>
  cases r;rcases ty with⟨rfl,xs,hq⟩|⟨rfl,o,hk,hc,hd⟩|⟨rfl,hk⟩|⟨rfl,S,n,hk⟩
  ·obtain⟨its,_,pl,_⟩:=I.list hq;refine⟨pl.isList.typeIs,fun a e=>?_⟩;cases e;obtain⟨o,n,e,c,hd,_⟩:=pl;exact⟨o,e,hd⟩
  ·refine⟨⟨o,I.kIn p o hk,hc⟩,fun a e=>?_⟩;cases e;exact⟨o,I.kIn _ o hk,hd⟩
  ·have z:∃o,s.heap.get? p=some o/\o.ExactDict:=by
    rcases hk with⟨kvs,hk⟩|⟨kvs,hk⟩
    ·obtain⟨_,_,_,_,o,_,_,e,ex,_⟩:=I.hok p _ hk;exact⟨o,e,ex⟩
    ·obtain⟨_,_,_,_,o,_,_,e,ex,_⟩:=I.hok p _ hk;exact⟨o,e,ex⟩
   obtain⟨o,e,ex⟩:=z;refine⟨⟨o,e,ex.1⟩,fun a e2=>?_⟩;cases e2;exact⟨o,e,ex.2.1⟩
  ·obtain⟨o,_,_,_,e,ex,_⟩:=I.hok p _ hk;refine⟨⟨o,e,ex.1⟩,fun a e2=>?_⟩;cases e2;exact⟨o,e,ex.2.1⟩
 | _=>exact False.elim ty
noncomputable def y6i (K:PySem.W.Frag) (T:String) (r:V->List V->Hp->VK->Prop) (to:TE):TE:=fun σ H Q=>to σ H fun x H1=>tyV K T x H1/\r x [] H1 Q
noncomputable def tBM (K:PySem.W.Frag) (T:String) (r:V->List V->Hp->VK->Prop) (to:TE) (t:TA):TE:=fun σ H Q=>to σ H fun x H1=>tyV K T x H1/\t σ H1 fun xs H2=>r x xs H2 Q
variable {o e:Expr} {es:List Expr} {to:TE} {t:TA} {name:Str} {apos cpos:Pos} {T id:String} {r:V->List V->Hp->VK->Prop}
theorem xn (pa:PlainAttrs T) (slot:Slot T name id) (hty:typeOf (.builtin id)=pure (.type "method_descriptor")) (hm:MtR X id r) (ho:PE X o to) (ha:PA X (e::es) t)
  (hbase:attributeBase o name X.env (eval o X.env)=eval o X.env:=by rfl)
  (hfew:((backTo cpos (starEach (e::es) X.env)).all (fun x=>!x.1) && (backToKw cpos (keywordEach [] X.env)).all (fun x=>x.1.isSome)
   && decide ((e::es).length+([]:List Keyword).length+(if ([]:List Keyword).isEmpty then 0 else 1)<30))=true:=by rfl)
  (hline:(apos.endLine == cpos.line)=true:=by rfl) (hs:starEach (e::es) X.env=(false,eval e X.env)::starEach es X.env:=by rfl) (hplain:(backTo cpos (starEach es X.env)).any (·.1)=false:=by rfl) :
  PE X (.Call (.Attribute o name apos) (e::es) [] cpos) (tBM X.K T r to t):=by
 intro pins s σ H Q I h;refine wpAny_Call_method_late hbase hfew hline rfl (thn (ho pins s σ H _ I h) fun v s1 ⟨x,H1,I1,r1,ty,q1⟩=>?_);obtain⟨h1,h2⟩:=y4I I1 r1 ty;refine⟨T,id,pa,slot,hty,h1,h2,?_⟩;have hA:=ha cpos pins s1 σ H1 _ I1 q1;rw[hs] at hA ⊢;refine Calls.callWith_builtin (by show (false || (backTo cpos (starEach es X.env)).any (·.1))=false;rw[hplain] <;> rfl) (Calls.evalArgs_plain ?_);exact thn hA fun us s2 ⟨vs,H2,I2,r2,q2⟩=>hm pins s2 σ H2 x vs v us Q I2 r1 r2 q2
end
noncomputable def MtM (X:Cx) (id:String) (r:V->List V->Hp->VK->Prop):Prop:=
 ∀(pins:List (Addr×Obj)) (s:Shared) (σ:St) (H:Hp) (x:V) (xs:List V) (v:Value) (us:List Value) (Q:VK),Inv X pins σ H s->RelV x v->Vals xs us->r x xs H Q->
  wpAny (model X.prog X.w) X.A (call (.builtin id) (v::us)) (EP X pins σ Q) X.xe s
theorem Vals.one:∀ {x:V} {us:List Value},Vals [x] us->∃u,us=[u]/\RelV x u
 | _,_,.cons r .nil=>⟨_,rfl,r⟩
theorem Vals.two:∀ {x y:V} {us:List Value},Vals [x,y] us->∃u v,us=[u,v]/\RelV x u/\RelV y v
 | _,_,_,.cons r (.cons q .nil)=>⟨_,_,rfl,r,q⟩
section
variable {X:Cx} {pins:List (Addr×Obj)} {σ:St} {H:Hp} {s:Shared} {l b:Addr} {xs ys zs:List V}
theorem Inv.lset {its its':List Value} {n:Nat} {f:Array Value->Array Value} {t':Nat} (I:Inv X pins σ H s) (hH:H l=some (.lst xs))
  (e:s.heap.get? l=some { cls:=.type "list",data:=.seq its.toArray n }) (hf:f its.toArray=its'.toArray) (hv:Vals ys its') (hz:ys.length<=sizeLine) :
  Inv X pins σ (upd H l (.lst ys)) { s with heap:=s.heap.update l (Obj.mapSeq f),toks:=t' }:=by
 have q:=PySem.IsL.update e f;rw[hf] at q;refine I.write (x:=l) (e:=l) (by rw[hH];exact trivial) (.inl rfl) (fun b' u hb hu=>(Heap.get?_update_other s.heap (Obj.mapSeq f) (Ne.symm hb)).trans hu) ⟨_,q⟩ ?_;exact⟨hz,its',_,hv,q⟩
theorem Inv.lnew {its:List Value} {t':Nat} (I:Inv X pins σ H s) (hv:Vals ys its) (hz:ys.length<=sizeLine) :
  Inv X pins σ (upd H s.heap.objs.size (.lst ys)) { s with heap:=s.heap.push { cls:=.type "list",data:=.seq its.toArray },toks:=t' }:=
 I.laid (fun _ _ q=>Heap.get?_push_of_some _ q) (Nat.le_refl _) ⟨hz,its,0,hv,Heap.get?_push_size _ rfl⟩
theorem Inv.fresh (I:Inv X pins σ H s):H s.heap.objs.size=none:=I.hok.fresh (Nat.le_refl _)
theorem Inv.lstM (I:Inv X pins σ H s) (hH:H l=some (.lst xs)):xs.length<=sizeLine/\∃(its:List Value) (n:Nat),Vals xs its/\xs.length=its.length/\s.heap.get? l=some { cls:=.type "list",data:=.seq its.toArray n }:=by
 obtain⟨z,its,n,r,e⟩:=I.hok l _ hH;exact⟨z,its,n,r,r.length,e⟩
theorem y1J {n:Nat} (h:n<=sizeLine):Builtin.List.listTooLong n=false:=by
 unfold Builtin.List.listTooLong;exact decide_eq_false (by omega)
end
section
variable {X:Cx}
noncomputable def y3H:V->List V->Hp->VK->Prop:=fun x vs H Q=>∃l xs y,x=.ref l/\vs=[y]/\H l=some (.lst xs)/\xs.length<sizeLine/\Q .non (upd H l (.lst (xs++[y])))
theorem yn:MtM X "list.append" y3H:=by
 intro pins s σ H x vs v us Q I rx rv h;obtain⟨l,xs,y,rfl,rfl,hH,hz,q⟩:=h;cases rx;obtain⟨u,rfl,ru⟩:=rv.one;obtain⟨z,its,n,r,hl,e⟩:=I.lstM hH;refine call_meets F.slot_list_append ⟨_,e,rfl⟩ F.entry_list_append (F.args_list_append_2 _ _) (PySem.list_append l its.toArray n u (by rw[List.size_toArray];omega)) ⟨e,?_⟩;refine⟨.non,_,I.lset (its':=its++[u]) hH e (by simp) (r.append (.cons ru .nil)) ?_,rfl,q⟩;rw[List.length_append,List.length_singleton];omega
noncomputable def y3G:V->List V->Hp->VK->Prop:=fun x vs H Q=>∃l b xs zs,x=.ref l/\vs=[.ref b]/\H l=some (.lst xs)/\H b=some (.lst zs)/\xs.length+zs.length<=sizeLine/\Q .non (upd H l (.lst (xs++zs)))
theorem z3T:MtM X "list.extend" y3G:=by
 intro pins s σ H x vs v us Q I rx rv h;obtain⟨l,b,xs,zs,rfl,rfl,hH,hB,hz,q⟩:=h;cases rx;obtain⟨u,rfl,ru⟩:=rv.one;cases ru;obtain⟨z,its,n,r,hl,e⟩:=I.lstM hH;obtain⟨z2,its2,n2,r2,hl2,e2⟩:=I.lstM hB;have hsz:its.toArray.size+its2.toArray.size<=sizeLine:=by rw[List.size_toArray,List.size_toArray];omega
 have hlong:¬(!its.toArray.isEmpty && Builtin.List.listTooLong (its.toArray.size+its2.toArray.size))=true:=by
  rw[y1J hsz,Bool.and_false];exact Bool.false_ne_true
 refine call_meets F.slot_list_extend ⟨_,e,rfl⟩ F.entry_list_extend (F.args_list_extend_2 _ _)
  (AutoSeq1.list_extend_list_list_0 l its.toArray n b its2.toArray n2 hlong (by rw[List.size_toArray];omega) (by omega)) ⟨e,e2,?_⟩
 refine⟨.non,_,I.lset (its':=its++its2) hH e (by simp) (r.append r2) ?_,rfl,q⟩;rw[List.length_append];omega
noncomputable def y6n:R2:=fun x y H Q=>∃l b xs zs,x=.ref l/\y=.ref b/\H l=some (.lst xs)/\H b=some (.lst zs)/\xs.length+zs.length<=sizeLine/\∀p,H p=none->Q (.ref p) (upd H p (.lst (xs++zs)))
theorem y4r:OpR X (binaryOp .Add) y6n:=by
 intro pins s σ H x y v u Q I rx ry h;obtain⟨l,b,xs,zs,rfl,rfl,hH,hB,hz,q⟩:=h;cases rx;cases ry;obtain⟨z,its,n,r,hl,e⟩:=I.lstM hH;obtain⟨z2,its2,n2,r2,hl2,e2⟩:=I.lstM hB;refine PySem.P.add_list e e2 ?_ (by rw[List.size_toArray,List.size_toArray];omega);have ea:its.toArray++its2.toArray=(its++its2).toArray:=by simp
 rw[ea];exact⟨.ref _,_,I.lnew (t':=s.toks) (r.append r2) (by rw[List.length_append];omega),rfl,q _ I.fresh⟩
end
section
variable {prog:Program} {w:World} {A:Around} {E:Value->Shared->Prop} {s:Shared}
end
section
variable {X:Cx}
end
end L2
namespace Att
open PySem PySem.W PySem.Calls PyProof.Rows
theorem vk {P:Params} {h:Heap}:∀(ns:List Int) (vs:List Value),WellAll P h vs (ns.map WData.int)->IntsAre vs ns:=by
 intro ns
 induction ns with
 | nil=>
  intro vs w;rw[List.map_nil] at w;cases w;exact .nil
 | cons n ns ih=>
  intro vs w;rw[List.map_cons] at w;cases w with
  | cons a b=>
   cases a;exact .cons _ _ (ih _ b)
theorem script_of {l:OpenLaw} {n:Nat} (hn:l.most=some n) {P:Params} {h:Heap} {args:List WData} {vals:List Value}
    (hpre:l.row.toRowW.claim.pre args=true) (hwl:WellAll P h vals args) :
    ∃a vs ns,vals=[Value.ref a]/\args=[WData.list (ns.map WData.int)]/\h.get? a=some { cls:=.type "list",data:=.seq vs.toArray }/\IntsAre vs ns/\ns.length<=n:=by
  have hsh:WShape.hasAll [] args [.list .int]=true:=(pre_splitW hpre).1;have hc:l.pre.holds [] { args:=args }=true:=(pre_splitW hpre).2;obtain⟨d,r,rfl,h1,h2⟩:=hasAllW_cons hsh;obtain rfl:=hasAllW_nil h2;obtain⟨xs,rfl,h3⟩:=hasW_list h1;obtain⟨ns,rfl⟩:=items_int h3;have hlen:ns.length<=n:=by
    unfold OpenLaw.pre at hc;have h4:(WTm.not (.lt (.lit (.int (n:Int))) (.len (.arg 0)))).holds [] { args:=[.list (ns.map .int)] }=true:=by
      have h4:=(holds_andW hc).1;rw[hn] at h4;exact h4
    have h5:=condW_of h4 (w_not (w_lt w_lit (w_len_list (w_arg rfl))));rw[List.length_map] at h5;refine Nat.le_of_not_lt fun q=>?_;have q':(n:Int)<((ns.length:Nat):Int):=by omega
    first
      | (rw[decide_eq_true q'] at h5;exact absurd h5 (by decide))
      | (simp at h5;omega)
  cases hwl with
  | cons w1 w2=>
    cases w2;cases w1 with
    | list ho hall=>exact⟨_,_,ns,rfl,rfl,ho,vk ns _ hall,hlen⟩
theorem post_true (l:OpenLaw) (args:List WData):l.row.toRowW.claim.post args (.bool true) args=true:=
 postW_of (r:=l.row.toRowW) (X:=(true == true))
  (show WShape.has [] (.bool true) .bool=true by first|rfl|decide|simp [WShape.has,WShape.arms,WShape.armsAll])
  (show (WTm.eq .res (.lit (.bool true))).value [] { args:=args,res:=some (.bool true),after:=args }=some (.bool (true == true)) from w_eq_bool (w_res rfl) w_lit) rfl
section
variable {prog:Program} {w:World} {A:Around} {E:Value->Shared->Prop} {s:Shared} {K:Frag}
end
end Att
namespace L2
open PySem PySem.Spec PyProof.Rows
theorem z2g:∀ {vs:List Value} {ns:List Int},IntsAre vs ns->Vals (ns.map V.int) vs
 | _,_,.nil=>.nil
 | _,_,.cons n t h=>.cons ⟨t,rfl⟩ (z2g h)
noncomputable def y6Z (H:Hp):Prop:=∀b,H b=none∨∃o xs,H b=some (.frz o (.lst xs))
theorem y1d {P:Program} {w:World} {K:PySem.W.Frag} {mg mb:Str->Option Value} {CX:CXT} {k:Nat} {fa a:Addr} {fd:FuncData} {x:Str} {sp:Sp} {s₁:Shared} {vs:List Value} {ns:List Int}
  (KX:K.In s₁.heap) (hns:s₁.heap.Ns mainGlobals mg) (hb:s₁.heap.Ns builtinsNs mb) (hbb:∀x:Str,x≠ "__name__" ->mb x=bootBuiltins x) (hlim:s₁.heap.NoLimit) (hg:s₁.gens = #[])
  (ha:s₁.heap.get? a=some { cls:=.type "list",data:=.seq vs.toArray }) (hi:IntsAre vs ns) (hl:ns.length<=sizeLine) (hr:Room k callerA)
  (F:∀base:Heap,K.In base->base.Ns mainGlobals mg->FnOk P w K mg base CX k fa fd [x] sp) (hbind:∀(s:Shared) (u:Value),BindsTo s fd ⟨[u],[]⟩ [(x,u)])
  (hsp:∀H:Hp,y6Z H->SqL K H a (ns.map V.int)->sp [.ref a] H (fun v _=>v=.bl true) fun _ _ _=>False)
  (hCX:∀H e s',CX [] H s₁ (fun _ _ _=>False) e s'->False) :
  codeAny (model P w) callerA (.call (.ref fa) ⟨[.ref a],[]⟩) (fun r s'=>r=.ok (.ret (.bool true))/\OldK s₁.heap s'.heap/\s'.os=s₁.os/\AllBare s'.gens) s₁:=by
 have rv:=z2g hi;have lenV:=hi.length;have core:∀H:Hp,y6Z H->SqL K H a (ns.map V.int)->HOk P w H s₁.heap->(∀b,H b≠none->b=a)->(H a≠none->K.lookup a=none)->
   codeAny (model P w) callerA (.call (.ref fa) ⟨[.ref a],[]⟩) (fun r s'=>r=.ok (.ret (.bool true))/\OldK s₁.heap s'.heap/\s'.os=s₁.os/\AllBare s'.gens) s₁:=by
  intro H hO hS hok hA hK;have base_of:∀ {b:Addr} {o:Obj},s₁.heap.get? b=some o->H b=none->(y1i s₁.heap H).get? b=some o:=fun e n=>y1h e n;have noA:∀ {b:Addr} {o:Obj} {es:Array DictEntry} {ep:Nat},s₁.heap.get? b=some o->o.data=.dict es ep->H b=none:=fun {b o es ep} e d=>by
   cases q:H b with
   | none=>rfl
   | some u=>
    have e':b=a:=hA b (by rw[q];simp);subst e';rw[ha] at e;cases e;have d':Data.seq vs.toArray _=Data.dict es ep:=d;cases d'
  have nsK:∀ {b:Addr} {m:Str->Option Value},s₁.heap.Ns b m->(y1i s₁.heap H).Ns b m:=fun {b m} ⟨o,es,ep,e,d,r⟩=>⟨o,es,ep,base_of e (noA e d),d,r⟩
  have hKb:K.In (y1i s₁.heap H):=fun b o e=>base_of (KX b o e) (by
   cases q:H b with
   | none=>rfl
   | some u=>
    have e':b=a:=hA b (by rw[q];simp);subst e';rw[hK (by rw[q];simp)] at e;cases e)
  have hM:Mod K mg (y1i s₁.heap H):=⟨hKb,nsK hns,⟨mb,nsK hb,hbb⟩,let ⟨mc,h1,h2⟩:=hlim;⟨mc,nsK h1,h2⟩⟩
  have e0:Env0 P w K mg (y1i s₁.heap H) callerA [] s₁ H:=⟨rfl,hM,fun b o e=>y3Y e,Nat.le_of_eq (z9e _ _),trivial,fun b hb=>absurd (show b∈([]:List Addr) from hb) (by simp),hok,.of_eq hg⟩
  refine codeAny_mono ((F _ hKb (nsK hns)).run callerA [] s₁ H ⟨[.ref a],[]⟩ [.ref a] [.ref a] _ _ hr e0 (hbind s₁ (.ref a)) (.cons rfl .nil) (hsp H hO hS)) fun r s' h=>?_;cases r with
  | error e=>exact (hCX H e s' h).elim
  | ok fl=>
   cases fl with
   | next=>exact False.elim h
   | brk=>exact False.elim h
   | cont=>exact False.elim h
   | ret u=>
    obtain⟨v,H',os,bare,un,hok',r',q⟩:=h;have q':v=.bl true:=q;subst q';obtain rfl:u=Value.bool true:=r';refine⟨rfl,OldK.of_keep fun b o e=>?_,os,bare⟩;cases q:H b with
    | none=>exact un.keep b o e q (by intro z;exact absurd (show b∈([]:List Addr) from z) (by simp)) (by simp)
    | some u=>
     rcases hO b with z|⟨ob,xs,z⟩
     ·rw[q] at z;cases z
     ·have z2:=un.frzs b ob _ z;obtain⟨e1,_⟩:=hok b _ z;obtain⟨e2,_⟩:=hok' b _ z2;rw[e] at e1;cases e1;exact e2
 cases hk:K.lookup a with
 | some o=>
  have e:=KX a o hk;rw[ha] at e;cases e;refine core (fun _=>none) (fun _=>.inl rfl) (.inr ⟨_,vs.toArray,_,hk,rfl,rfl,rfl,by rw[List.size_toArray,lenV];exact hl,by simpa using rv⟩) (fun b u z=>by have z':(none:Option HO)=some u:=z;cases z') (fun b z=>absurd rfl z) fun z=>absurd rfl z
 | none=>
  refine core (fun b=>if b=a then some (.frz { cls:=.type "list",data:=.seq vs.toArray } (.lst (ns.map V.int))) else none) (fun b=>?_) (.inl (.inr ⟨{ cls:=.type "list",data:=.seq vs.toArray },if_pos rfl⟩)) (fun b u z=>?_) (fun b z=>?_) fun _=>hk
  ·by_cases hb:b=a
   ·exact .inr ⟨_,_,if_pos hb⟩
   ·exact .inl (if_neg hb)
  ·by_cases hb:b=a
   ·have z':=(if_pos hb).symm.trans z;cases z';subst hb;exact⟨ha,by rw[List.length_map];exact hl,vs,_,rv,ha⟩
   ·have z':=(if_neg hb).symm.trans z;cases z'
  ·by_cases hb:b=a
   ·exact hb
   ·exact absurd (if_neg hb) z
noncomputable def jV (s:Stmt) (j:Nat):Stmt:=match s with
 | .ClassDef _ _ _ body _ _ _ _ _ _ _=>body.getD j (.Pass ⟨0,0,0,0⟩)
 | _=>.Pass ⟨0,0,0,0⟩
noncomputable def jX (s:Stmt):Arguments:=match s with
 | .FunctionDef _ a _ _ _ _ _ _ _ _=>a
 | _=>{ posonlyargs:=[],args:=[],vararg:=none,kwonlyargs:=[],kw_defaults:=[],kwarg:=none,defaults:=[] }
noncomputable def yo (s:Stmt):List Stmt:=match s with
 | .FunctionDef _ _ b _ _ _ _ _ _ _=>b
 | _=>[]
noncomputable def zG (s:Stmt):Scope:=match s with
 | .FunctionDef _ _ _ _ _ _ sc _ _ _=>sc
 | _=>{ kind:=.function,names:=[],isGenerator:=false,isCoroutine:=false }
noncomputable abbrev CX0:CXT:=fun _ _ _ _ _ _=>False
noncomputable abbrev E0:XK:=fun _ _ _=>False
theorem z8u {X:Cx}:jx CX0 X E0:=fun _ _ _ _ _ _ _ h=>h.elim
structure Fun (K:PySem.W.Frag) (x qual:Str) (st:Stmt) (f:Addr) (fd:FuncData):Prop where
 ex:∃(oc:Value) (od:Option Addr) (kV doc pm:Value) (an:Option Addr) (cdv ct:Value) (osl:Array (Option Value)),
  fd=PySem.W.fnOf x qual (jX st) (yo st) (zG st) .none kV doc pm an cdv ct/\K.lookup f=some ⟨oc,od,.func fd,osl⟩/\PySem.W.codeIn K cdv qual=true
 kp:PySem.W.keepIn K (.ref f)=true
section
variable {P:Program} {w:World} {K:PySem.W.Frag} {mg:Str->Option Value} {base:Heap}
theorem Fun.ok {x qual:Str} {st:Stmt} {f:Addr} {fd:FuncData} {N ps:List Str} {k:Nat} {sp:Sp} (F:Fun K x qual st f fd) (S:FnScope N ps (zG st)) (len:∀vs H Q E,sp vs H Q E->vs.length=ps.length)
  (hbody:∀(cdv:Value) (A:Around) (outer:List Env) (s:Shared) (H:Hp) (vs:List V) (Q:VK) (E:XK),Room k (A.deeper (envOfC qual (zG st) s.heap.objs.size f cdv))->sp vs H Q E->
   ∃t,PSs (z0J CX0 P w K mg base N qual (zG st) f cdv A outer s H E).nox (yo st) t/\t { nx:=fun _ H'=>Q .non H',rt:=Q } (qc N vs) H):FnOk P w K mg base CX0 (k+1) f fd ps sp:=by
 obtain⟨oc,od,kV,doc,pm,an,cdv,ct,osl,rfl,lk,hcd⟩:=F.ex;refine y3n lk hcd S len fun A outer s H vs Q E hr hsp=>?_;obtain⟨t,h,q⟩:=hbody cdv A outer s H vs Q E hr hsp;exact⟨t,h.nox,q⟩
theorem y2X {x qual:Str} {st:Stmt} {f:Addr} {oc:Value} {od an:Option Addr} {osl:Array (Option Value)} {kV doc pm cdv ct:Value} (l:K.lookup f=some ⟨oc,od,.func (PySem.W.fnOf x qual (jX st) (yo st) (zG st) .none kV doc pm an cdv ct),osl⟩)
  (c:PySem.W.codeIn K cdv qual=true) (k:PySem.W.keepIn K (.ref f)=true):Fun K x qual st f (PySem.W.fnOf x qual (jX st) (yo st) (zG st) .none kV doc pm an cdv ct):=⟨⟨oc,od,kV,doc,pm,an,cdv,ct,osl,rfl,l,c⟩,k⟩
end
theorem y3f {A:Around} {k:Nat} (hr:Room k A):A.units+1<cLine:=Nat.lt_of_le_of_lt (Nat.add_le_add_left (by decide:1<=64) _) hr.units
theorem z8V {n:Nat} (h:n<=1000):n<sizeLine:=Nat.lt_of_le_of_lt h (by decide)
section
variable {X:Cx}
theorem pv (i:Nat) {x:Str} {pos:Pos} (hN:X.N[i]?=some x:=by rfl) (hv:Vis X.env.scope x:=by first|exact Or.inl rfl|exact Or.inr (Or.inl rfl)|exact Or.inr (Or.inr rfl)) (hd:(x == ("__debug__" : Str))=false:=by decide)
  (hcd:(x == ("__classdict__" : Str))=false:=by decide):PE X (.Name x pos) (z5l i):=y4l hN hv hd hcd
end
noncomputable def Same (H H':Hp):Prop:=∀b o,H b=some o->H' b=some o
theorem Same.refl (H:Hp):Same H H:=fun _ _ h=>h
theorem Same.trans {H H1 H2:Hp} (a:Same H H1) (b:Same H1 H2):Same H H2:=fun c o h=>b c o (a c o h)
theorem Same.free {H H':Hp} (e:Same H H') {l:Addr} (h:H' l=Option.none):H l=Option.none:=by
 cases q:H l with
 | none=>rfl
 | some o=>
  rw[e l o q] at h;cases h
theorem Same.seq {K:PySem.W.Frag} {H H':Hp} {a:Addr} {xs:List V} (e:Same H H') (h:SqL K H a xs):SqL K H' a xs:=by
 rcases h with (h|⟨o,h⟩)|h
 ·exact .inl (.inl (e _ _ h))
 ·exact .inl (.inr ⟨o,e _ _ h⟩)
 ·exact .inr h
section
variable {κ:Type} [DecidableEq κ]
noncomputable def z0I (kvs:List (κ×V)) (k:κ):Option V:=(kvs.find? fun kv=>decide (kv.1=k)).map (·.2)
noncomputable def z6L (kvs:List (κ×V)) (k:κ) (v:V):List (κ×V):=
 if (kvs.any fun kv=>decide (kv.1=k))=true then kvs.map (fun kv=>if kv.1=k then (kv.1,v) else kv) else kvs++[(k,v)]
theorem yj {p:κ×V} {r:List (κ×V)} {k:κ} (e:p.1=k):z0I (p::r) k=some p.2:=by simp [z0I,List.find?_cons,e]
theorem yk {p:κ×V} {r:List (κ×V)} {k:κ} (e:¬p.1=k):z0I (p::r) k=z0I r k:=by simp [z0I,List.find?_cons,e]
theorem wc (k:κ):∀kvs:List (κ×V),(kvs.any fun kv=>decide (kv.1=k))=(z0I kvs k).isSome
 | []=>rfl
 | p::r=>by
  rw[List.any_cons];by_cases e:p.1=k
  ·simp only [yj e,decide_eq_true e,Bool.true_or,Option.isSome_some]
  ·rw[yk e,decide_eq_false e,Bool.false_or];exact wc k r
theorem z5i (k j:κ) (y:V):∀kvs:List (κ×V),z0I (kvs.map fun kv=>if kv.1=k then (kv.1,y) else kv) j=(z0I kvs j).map fun x=>if j=k then y else x
 | []=>rfl
 | p::r=>by
  have ih:=z5i k j y r;rw[List.map_cons];by_cases h:p.1=k
  ·rw[if_pos h];by_cases e:p.1=j
   ·rw[yj (p:=(p.1,y)) e,yj e,Option.map_some,if_pos (e.symm.trans h)]
   ·rw[yk (p:=(p.1,y)) e,yk e,ih]
  ·rw[if_neg h];by_cases e:p.1=j
   ·rw[yj (p:=p) e,yj e,Option.map_some,if_neg (fun z=>h (e.trans z))]
   ·rw[yk (p:=p) e,yk e,ih]
theorem z2i (k j:κ) (y:V):∀kvs:List (κ×V),z0I kvs k=none->z0I (kvs++[(k,y)]) j=if j=k then some y else z0I kvs j
 | [],_=>by
  by_cases e:k=j
  ·rw[if_pos e.symm];exact yj (p:=(k,y)) e
  ·rw[if_neg (fun z=>e z.symm)];exact yk (p:=(k,y)) e
 | p::r,hn=>by
  rw[List.cons_append];have hk:¬p.1=k:=fun z=>by rw[yj z] at hn;cases hn
  rw[yk hk] at hn;have ih:=z2i k j y r hn;by_cases e:p.1=j
  ·rw[yj e,yj e,if_neg (fun z=>hk (e.trans z))]
  ·rw[yk e,yk e,ih]
theorem y0e (kvs:List (κ×V)) (k j:κ) (y:V):z0I (z6L kvs k y) j=if j=k then some y else z0I kvs j:=by
 unfold z6L;by_cases a:(kvs.any fun kv=>decide (kv.1=k))=true
 ·rw[if_pos a,z5i];rw[wc] at a;by_cases e:j=k
  ·obtain⟨x,hx⟩:=Option.isSome_iff_exists.mp a;rw[if_pos e,e,hx,Option.map_some,if_pos rfl]
  ·rw[if_neg e];cases z0I kvs j with
   | none=>rfl
   | some x=>rw[Option.map_some,if_neg e]
 ·rw[if_neg a];refine z2i k j y kvs ?_;rw[wc] at a;cases q:z0I kvs k with
  | none=>rfl
  | some x=>rw[q] at a;exact (a rfl).elim
theorem qw (kvs:List (κ×V)) (k:κ) (v:V):(z6L kvs k v).length<=kvs.length+1:=by
 unfold z6L;split
 ·rw[List.length_map];omega
 ·rw[List.length_append,List.length_cons,List.length_nil];omega
theorem RelO.isSome_eq {o:Option V} {u:Option Value} (r:RelO o u):o.isSome=u.isSome:=by
 cases o with
 | none=>cases u with
  | none=>rfl
  | some _=>exact (show False from r).elim
 | some _=>cases u with
  | none=>exact (show False from r).elim
  | some _=>rfl
theorem KV.val {kvs:List (κ×V)} {vs:List (κ×Value)} (r:KV kvs vs) (k:κ):RelO (z0I kvs k) (valueAt vs k):=by
 unfold KV at r
 induction r with
 | nil=>exact True.intro
 | @cons p q ps qs h t ih=>
  obtain⟨h1,h2⟩:=h;by_cases e:p.1=k
  ·have e':q.1=k:=h1.symm.trans e;have b:valueAt (q::qs) k=some q.2:=by simp [valueAt,List.find?_cons,e']
   rw[yj e,b];exact h2
  ·have e':¬q.1=k:=fun z=>e (h1.trans z);have b:valueAt (q::qs) k=valueAt qs k:=by simp [valueAt,List.find?_cons,e']
   rw[yk e,b];exact ih
theorem KV.any {kvs:List (κ×V)} {vs:List (κ×Value)} (r:KV kvs vs) (k:κ):(kvs.any fun kv=>decide (kv.1=k))=vs.any fun kv=>decide (kv.1=k):=by
 unfold KV at r
 induction r with
 | nil=>rfl
 | cons h t ih=>rw[List.any_cons,List.any_cons,ih,h.1]
theorem KV.repl {kvs:List (κ×V)} {vs:List (κ×Value)} (r:KV kvs vs) (k:κ) {y:V} {u:Value} (ry:RelV y u) :
  KV (kvs.map fun kv=>if kv.1=k then (kv.1,y) else kv) (vs.map fun kv=>if kv.1=k then (kv.1,u) else kv):=by
 unfold KV at r ⊢
 induction r with
 | nil=>exact .nil
 | @cons p q ps qs h t ih=>
  rw[List.map_cons,List.map_cons];refine .cons ?_ ih;obtain⟨h1,h2⟩:=h;by_cases e:p.1=k
  ·rw[if_pos e,if_pos (h1.symm.trans e)];exact⟨h1,ry⟩
  ·rw[if_neg e,if_neg (fun z=>e (h1.trans z))];exact⟨h1,h2⟩
theorem KV.put {kvs:List (κ×V)} {vs:List (κ×Value)} (r:KV kvs vs) (k:κ) {y:V} {u:Value} (ry:RelV y u):KV (z6L kvs k y) (stored vs k u):=by
 unfold z6L stored;rw[r.any k];by_cases e:(vs.any fun kv=>decide (kv.1=k))=true
 ·rw[if_pos e,if_pos e];exact r.repl k ry
 ·rw[if_neg e,if_neg e];exact Paired.snoc r ⟨rfl,ry⟩
theorem KV.length {kvs:List (κ×V)} {vs:List (κ×Value)} (r:KV kvs vs):kvs.length=vs.length:=Paired.length r
end
theorem z9Q {P:Program} {w:World} {k:Key} {u:Value} (r:RelV (kV k) u):(yP P w).is k u=true:=by
 cases k with
 | inl i=>obtain⟨t,e⟩:=(show ∃t,u=Value.int i t from r);subst e;exact z4z P w i t
 | inr x=>obtain⟨t,e⟩:=(show ∃t,u=Value.str x t from r);subst e;exact vc P w x t
theorem z3Z {P:Program} {w:World}:∀ {ks:List Key} {us:List Value},Vals (ks.map kV) us->ItemsAre (yP P w) ks us
 | [],_,r=>by rw[List.map_nil] at r;cases r;exact .nil
 | k::ks,_,r=>by
  rw[List.map_cons] at r;cases r with
  | cons h t=>exact .cons (z9Q h) (z3Z t)
noncomputable abbrev KT (H:Hp):List (List Key×V)->List (List Key×Addr×Value)->Prop:=Paired fun p q=>p.1=q.1/\H q.2.1=some (.tup (p.1.map kV))/\RelV p.2 q.2.2
theorem KT.val {H:Hp} {kvs:List (List Key×V)} {xs:List (List Key×Addr×Value)} (r:KT H kvs xs) (k:List Key):RelO (z0I kvs k) ((atKey xs k).map (·.2)):=by
 induction r with
 | nil=>exact True.intro
 | @cons p q ps qs h t ih=>
  obtain⟨h1,_,h2⟩:=h;by_cases e:p.1=k
  ·have e':q.1=k:=h1.symm.trans e;have b:atKey (q::qs) k=some q.2:=by simp [atKey,List.find?_cons,e']
   rw[yj e,b];exact h2
  ·have e':¬q.1=k:=fun z=>e (h1.trans z);have b:atKey (q::qs) k=atKey qs k:=by simp [atKey,List.find?_cons,e']
   rw[yk e,b];exact ih
theorem KT.repl {H:Hp} {kvs:List (List Key×V)} {xs:List (List Key×Addr×Value)} (r:KT H kvs xs) (k:List Key) {y:V} {u:Value} (ry:RelV y u) :
  KT H (kvs.map fun kv=>if kv.1=k then (kv.1,y) else kv) (xs.map (putAt k u)):=by
 induction r with
 | nil=>exact .nil
 | @cons p q ps qs h t ih=>
  rw[List.map_cons,List.map_cons];refine .cons ?_ ih;obtain⟨h1,h2,h3⟩:=h;unfold putAt;by_cases e:p.1=k
  ·rw[if_pos e,if_pos (h1.symm.trans e)];exact⟨h1,h2,ry⟩
  ·rw[if_neg e,if_neg (fun z=>e (h1.trans z))];exact⟨h1,h2,h3⟩
theorem KT.put {H:Hp} {kvs:List (List Key×V)} {xs:List (List Key×Addr×Value)} (r:KT H kvs xs) (k:List Key) {b:Addr} {y:V} {u:Value} (hb:H b=some (.tup (k.map kV))) (ry:RelV y u) :
  KT H (z6L kvs k y) (storedH xs k b u):=by
 have e:(kvs.any fun kv=>decide (kv.1=k))=(atKey xs k).isSome:=by
  rw[wc,(r.val k).isSome_eq,Option.isSome_map]
 unfold z6L storedH;rw[e];by_cases q:(atKey xs k).isSome=true
 ·rw[if_pos q,if_pos q];exact r.repl k ry
 ·rw[if_neg q,if_neg q];exact Paired.snoc r ⟨rfl,hb,ry⟩
theorem KT.keeps {H H':Hp} {kvs:List (List Key×V)} {xs:List (List Key×Addr×Value)} (r:KT H kvs xs) (ht:∀b ys,H b=some (.tup ys)->H' b=some (.tup ys)):KT H' kvs xs:=
 Paired.mapP r fun _ _ z=>⟨z.1,ht _ _ z.2.1,z.2.2⟩
section
variable {P:Program} {w:World} {H:Hp} {h:Heap} {a:Addr}
theorem y4b {u:HO} (ok:HOk P w H h) (e:Rd H a u):ObjOk P w H h a u:=e.ok ok
theorem y2A {kvs:List (Key×V)} (ok:HOk P w H h) (e:Rd H a (.dK kvs)):kvs.length<=sizeLine/\(a == sysModules)=false/\∃vs,KV kvs vs/\h.DictOf (yP P w) a vs:=
 show ObjOk P w H h a (.dK kvs) from y4b ok e
theorem y5y {kvs:List (Key×V)} (ok:HOk P w H h) (e:H a=some (.dK kvs)):kvs.length<=sizeLine/\(a == sysModules)=false/\∃vs,KV kvs vs/\h.DictOf (yP P w) a vs:=y2A ok (.inl e)
theorem z6b {ks:List Key} (ok:HOk P w H h) (e:H a=some (.tup (ks.map kV))):(tupleKind (yP P w)).is h ks a:=by
 obtain⟨_,its,r,o,h1,h2,n,h3⟩:=(show ObjOk P w H h a (.tup (ks.map kV)) from ok a _ e)
 exact⟨o,its.toArray,n,h1,h2,h3,by simpa using z3Z r⟩
theorem y1z {kvs:List (List Key×V)} (ok:HOk P w H h) (e:Rd H a (.dT kvs)):kvs.length<=sizeLine/\(a == sysModules)=false/\
  ∃xs,KT H kvs xs/\h.DictOfH (tupleKind (yP P w)) a xs:=by
 obtain⟨z,y,xs,r,o,es,ep,h1,h2,h3,h4,h5⟩:=(show ObjOk P w H h a (.dT kvs) from y4b ok e)
 refine⟨z,y,xs,r,o,es,ep,h1,h2,h3,h4,fun x hx=>?_,h5⟩;have all:∀ {l:List (List Key×V)} {m:List (List Key×Addr×Value)},KT H l m->∀x∈m,(tupleKind (yP P w)).is h x.1 x.2.1:=by
  intro l m q
  induction q with
  | nil=>intro x hx;exact nomatch hx
  | @cons p q ps qs hq t ih=>
   intro x hx;rcases List.mem_cons.mp hx with e|hx
   ·subst e;exact z6b ok (by rw[←hq.1];exact hq.2.1)
   ·exact ih x hx
 exact all r x hx
theorem y5x {kvs:List (List Key×V)} (ok:HOk P w H h) (e:H a=some (.dT kvs)):kvs.length<=sizeLine/\(a == sysModules)=false/\
  ∃xs,KT H kvs xs/\h.DictOfH (tupleKind (yP P w)) a xs:=y1z ok (.inl e)
end
noncomputable def DGet (H:Hp) (a:Addr) (y:V) (r:Option V):Prop:=
 (∃kvs k,Rd H a (.dK kvs)/\y=kV k/\r=z0I kvs k)∨∃kvs k b,Rd H a (.dT kvs)/\y=.ref b/\H b=some (.tup (k.map kV))/\r=z0I kvs k
noncomputable def DPut (H:Hp) (a:Addr) (y v:V) (H':Hp):Prop:=
 (∃kvs k,H a=some (.dK kvs)/\y=kV k/\kvs.length<sizeLine/\H'=upd H a (.dK (z6L kvs k v)))∨
 ∃kvs k b,H a=some (.dT kvs)/\y=.ref b/\H b=some (.tup (k.map kV))/\kvs.length<sizeLine/\H'=upd H a (.dT (z6L kvs k v))
theorem DGet.k {H:Hp} {a:Addr} {kvs:List (Key×V)} {k:Key} (e:H a=some (.dK kvs)):DGet H a (kV k) (z0I kvs k):=.inl ⟨kvs,k,.inl e,rfl,rfl⟩
theorem DPut.k {H:Hp} {a:Addr} {kvs:List (Key×V)} {k:Key} {v:V} (e:H a=some (.dK kvs)) (hl:kvs.length<sizeLine):DPut H a (kV k) v (upd H a (.dK (z6L kvs k v))):=.inl ⟨kvs,k,e,rfl,hl,rfl⟩
section
variable {X:Cx} {pins:List (Addr×Obj)} {σ:St} {H:Hp} {s:Shared} {a:Addr} {y v:V} {u r:Value} {o:Option V} {A:Around} {E:Value->Shared->Prop}
theorem Inv.big (I:Inv X pins σ H s):sysModules<s.heap.objs.size:=by
 have h:mainGlobals<s.heap.objs.size:=(I.mod.glob.keeps I.bk).lt;exact Nat.lt_trans (by decide) h
theorem y0H {Q:Value->Shared->Prop} (hu:A.units+1<cLine) (I:Inv X pins σ H s) (g:DGet H a y (some v)) (ry:RelV y u) (h:∀w' s',Inv X pins σ H s'->RelV v w'->Q w' s') :
  wpAny (model X.prog X.w) A (getItem (.ref a) u) Q E s:=by
 rcases g with⟨kvs,k,e,ey,l⟩|⟨kvs,k,b,e,ey,eb,l⟩
 ·subst ey;obtain⟨z,hd,vs,rel,dd⟩:=y2A I.hok e;obtain⟨w',hw,rw'⟩:=RelO.some_of (v:=v) (o:=valueAt vs k) (by rw[l];exact rel.val k);exact wpAny_getItem_of (z9Q ry) dd.mapOf hw (h w' _ (I.tok _) rw')
 ·subst ey;cases (show u=Value.ref b from ry);obtain⟨z,hd,xs,rel,dd⟩:=y1z I.hok e;obtain⟨w',hw,rw'⟩:=RelO.some_of (v:=v) (o:=(atKey xs k).map (·.2)) (by rw[l];exact rel.val k);obtain⟨p,hp,hp2⟩:=Option.map_eq_some_iff.mp hw;refine wpAny_getItem_heap (tupleKind_room_in1 hu) (z6b I.hok eb) dd hp ?_;rw[hp2];exact h w' _ (I.tok _) rw'
theorem y3s {Q:Value->Shared->Prop} (hu:A.units+1<cLine) (I:Inv X pins σ H s) (g:DGet H a y o) (ry:RelV y u) (h:∀s',Inv X pins σ H s'->Q (.bool (!o.isSome)) s') :
  wpAny (model X.prog X.w) A (compareOp .NotIn u (.ref a)) Q E s:=by
 rcases g with⟨kvs,k,e,ey,l⟩|⟨kvs,k,b,e,ey,eb,l⟩
 ·subst ey;obtain⟨z,hd,vs,rel,dd⟩:=y2A I.hok e;refine wpAny_notIn_of (z9Q ry) hd dd.mapOf ?_;rw[←(rel.val k).isSome_eq,←l];exact h _ (I.tok _)
 ·subst ey;cases (show u=Value.ref b from ry);obtain⟨z,hd,xs,rel,dd⟩:=y1z I.hok e;refine wpAny_notIn_heap (tupleKind_room_in1 hu) (z6b I.hok eb) hd dd ?_;have q:=(rel.val k).isSome_eq;rw[Option.isSome_map] at q;rw[←q,←l];exact h _ (I.tok _)
theorem y0F {h':Heap} {t':Nat} {ob:HO} (I:Inv X pins σ H s) (mu:Mut (H a)) (hs:Heap.SameBut a s.heap h') (he:∃q,h'.get? a=some q) (new:ObjOk X.prog X.w (upd H a ob) h' a ob) :
  Inv X pins σ (upd H a ob) { s with heap:=h',toks:=t' }:=
 I.write (x:=a) (e:=a) mu (.inl rfl) (fun b q hb z=>(hs.2 b hb).trans z) he new
theorem y5M {P:Program} {w:World} {H':Hp} {h':Heap} {kvs:List (Key×V)} {vs:List (Key×Value)} (z:kvs.length<=sizeLine) (hd:(a == sysModules)=false) (rel:KV kvs vs) (dd:h'.DictOf (yP P w) a vs) :
  ObjOk P w H' h' a (.dK kvs):=⟨z,hd,vs,rel,dd⟩
theorem y0G {H':Hp} {Q:Unit->Shared->Prop} (hu:A.units+1<cLine) (I:Inv X pins σ H s) (g:DPut H a y v H') (ry:RelV y u) (rv:RelV v r) (h:∀s',Inv X pins σ H' s'->Q () s') :
  wpAny (model X.prog X.w) A (setItem (.ref a) u r) Q E s:=by
 rcases g with⟨kvs,k,e,ey,l,eH⟩|⟨kvs,k,b,e,ey,eb,l,eH⟩
 ·subst ey eH;obtain⟨z,hd,vs,rel,dd⟩:=y5y I.hok e;have hz:vs.length<=sizeLine:=by rw[←rel.length];exact z
  have hl:(z6L kvs k v).length<=sizeLine:=by have:=qw kvs k v;omega
  refine wpAny_setItem_pairs (hsz:=hz) (z9Q ry) dd fun h' dd' hs=>h _ ?_;have he:∃q,h'.get? a=some q:=let ⟨q,_,_,hq,_⟩:=dd';⟨q,hq⟩;exact y0F I (by rw[e];exact True.intro) hs he (y5M hl hd (rel.put k rv) dd')
 ·subst ey eH;cases (show u=Value.ref b from ry);obtain⟨z,hd,xs,rel,dd⟩:=y5x I.hok e;have hz:xs.length<=sizeLine:=by rw[←Paired.length rel];exact z
  have hl:(z6L kvs k v).length<=sizeLine:=by have:=qw kvs k v;omega
  refine wpAny_setItem_heap (hsz:=hz) (tupleKind_room_in1 hu) (z6b I.hok eb) dd fun h' dd' hs=>h _ ?_;obtain⟨q,es,ep,hq,h2,h3,h4,_,h5⟩:=dd';refine y0F I (by rw[e];exact True.intro) hs ⟨q,hq⟩ ⟨hl,hd,_,(rel.put k eb rv).keeps fun c ys ec=>?_,q,es,ep,hq,h2,h3,h4,h5⟩;rw[za (wC ec e (fun z=>nomatch z))];exact ec
end
section
variable {X:Cx} {pins:List (Addr×Obj)} {σ:St} {H:Hp} {s:Shared} {a:Addr} {kvs:List (Key×V)} {k:Key} {u:Value} {A:Around} {E:Value->Shared->Prop}
end
noncomputable def y6a (i:Expr):Prop:=∀ov iv,subscripted i false ov iv=operate [ov,iv] (getItem ov iv)
theorem y2s {prog:Program} {w:World} {A:Around} {E:Value->Shared->Prop} {s:Shared} {env:Env} {value slice:Expr} {pos:Pos} {T id:String} {Q:Value->Shared->Prop}
  (hl:typeLookup (.type T) "__getitem__" = pure (some (.builtin id))) (hs:y6a slice)
  (h:wpAny (model prog w) A (eval value env) (fun o s₁=>wpAny (model prog w) A (eval slice env) (fun i s₂=>s₂.TypeIs o T/\wpAny (model prog w) A (getItem o i) Q E s₂) E s₁) E s) :
  wpAny (model prog w) A (eval (.Subscript value slice pos) env) Q E s:=by
 refine Subscript_ (wpAny_mono h (fun o s₁ h₁=>wpAny_mono h₁ (fun i s₂ h₂=>?_) fun _ _ x=>x) fun _ _ x=>x);obtain⟨hT,h₂⟩:=h₂;unfold subscriptTail;refine wpAny_bind ?_;rw[getitemInPython_of_ne hT.not_modules];refine wpAny_bind (wpAny_specialOf hT hl ?_);have fin:wpAny (model prog w) A (subscripted slice false o i) (fun r s₃=>wpAny (model prog w) A (letTemporaryGo value o r >>= fun _=>pure r) Q E s₃) E s₂:=by
  rw[hs o i];exact wpAny_operating (wpAny_mono h₂ (fun r s₃ h₃=>wpAny_bind (wpAny_letTemporaryGo (wpAny_pure h₃))) fun _ _ x=>x)
 first
  | exact wpAny_pure (wpAny_bind fin)
  | exact wpAny_bind (wpAny_pure (wpAny_bind fin))
  | exact wpAny_bind fin
theorem z5a {X:Cx} {pins:List (Addr×Obj)} {σ:St} {H:Hp} {s:Shared} {a:Addr} {y:V} {o:Option V} (I:Inv X pins σ H s) (g:DGet H a y o):s.TypeIs (.ref a) "dict" :=by
 rcases g with⟨kvs,k,e,_,_⟩|⟨kvs,k,b,e,_,_,_⟩
 ·obtain⟨_,_,vs,_,dd⟩:=y2A I.hok e;exact dd.typeIs
 ·obtain⟨_,_,xs,_,dd⟩:=y1z I.hok e;exact dd.typeIs
noncomputable def y4U (td ty:TE):TE:=fun σ H Q=>td σ H fun x H1=>ty σ H1 fun y H2=>∃a v,x=.ref a/\DGet H2 a y (some v)/\Q v H2
noncomputable def y6g (ty td:TE):TE:=fun σ H Q=>ty σ H fun y H1=>td σ H1 fun x H2=>∃a o,x=.ref a/\DGet H2 a y o/\Q (.bl o.isSome) H2
noncomputable def z8H (ty td:TE):TE:=fun σ H Q=>ty σ H fun y H1=>td σ H1 fun x H2=>∃a o,x=.ref a/\DGet H2 a y o/\Q (.bl (!o.isSome)) H2
noncomputable def y4a (td ty tv:TE):TS:=fun D σ H=>tv σ H fun v H1=>td σ H1 fun x H2=>ty σ H2 fun y H3=>∃a H4,x=.ref a/\DPut H3 a y v H4/\D.nx σ H4
section
variable {X:Cx} {o i e value:Expr} {pos pos' tpos:Pos} {td ty tv:TE}
theorem y3R (hu:X.A.units+1<cLine) (ho:PE X o td) (hi:PE X i ty) (hs:y6a i):PE X (.Subscript o i pos) (y4U td ty):=by
 intro pins s σ H Q I h;refine y2s PySem.F.slot_dict_getitem.lookup hs (thn (ho pins s σ H _ I h) fun u s1 ⟨x,H1,I1,rx,q1⟩=>thn (hi pins s1 σ H1 _ I1 q1) fun iv s2 ⟨y,H2,I2,ry,a,v,ex,g,q2⟩=>?_);subst ex;obtain rfl:u=Value.ref a:=rx;exact⟨z5a I2 g,y0H hu I2 g ry fun w' s3 I3 rw'=>⟨v,H2,I3,rw',q2⟩⟩
theorem z8t (hu:X.A.units+1<cLine) (hi:PE X i ty) (ho:PE X o td):PC X .NotIn i o (z8H ty td):=by
 intro pins s σ H Q I h;refine thn (hi pins s σ H _ I h) fun iv s1 ⟨y,H1,I1,ry,q1⟩=>thn (ho pins s1 σ H1 _ I1 q1) fun u s2 ⟨x,H2,I2,rx,a,ov,ex,g,q2⟩=>?_;subst ex;obtain rfl:u=Value.ref a:=rx;exact y3s hu I2 g ry fun s3 I3=>⟨.bl (!ov.isSome),H2,I3,rfl,q2⟩
theorem y3I (hu:X.A.units+1<cLine) (ho:PE X o td) (hi:PE X i ty) (hv:PE X value tv) (hs:swapsWith value (some (.Subscript o i pos')) pos.line X.env=pure false) :
  PS X (.Assign [.Subscript o i pos'] value pos) (y4a td ty tv):=by
 intro pins s σ H D I h;refine wpAny_Assign_Subscript (thn (hv pins s σ H _ I h) fun r s1 ⟨v,H1,I1,rv,q1⟩=>thn (ho pins s1 σ H1 _ I1 q1) fun u s2 ⟨x,H2,I2,rx,q2⟩=>thn (hi pins s2 σ H2 _ I2 q2) fun iv s3 ⟨y,H3,I3,ry,a,H4,ex,g,q3⟩=>?_) hs;subst ex;obtain rfl:u=Value.ref a:=rx;exact y0G hu I3 g ry rv fun s4 I4=>⟨σ,H4,I4,q3⟩
end
theorem y2B {P:Program} {w:World} {H:Hp} (h:Heap) (hb:sysModules<h.objs.size):ObjOk P w H (h.push { cls:=.type "dict",data:=.dict #[] }) h.objs.size (.dK []):=
 ⟨Nat.zero_le _,beq_eq_false_iff_ne.mpr (Ne.symm (Nat.ne_of_lt hb)),[],.nil,Heap.DictOf.new h⟩
noncomputable def y2K:TE:=fun _ H Q=>∀p,H p=none->Q (.ref p) (upd H p (.dK []))
section
variable {X:Cx} {pos:Pos}
theorem y1E:PE X (.Dict [] [] pos) y2K:=fun pins s σ H Q I h=>
 wpAny_Dict_empty ⟨.ref s.heap.objs.size,_,I.laid (a:=s.heap.objs.size) (o:=.dK []) (t':=s.toks) (fun _ _ q=>Heap.get?_push_of_some _ q) (Nat.le_refl _) (y2B s.heap I.big),rfl,h _ (I.hok.fresh (Nat.le_refl _))⟩
end
structure M1 (X:Cx) (o:Expr) (m:Str) (apos:Pos) (e:Expr) (cpos:Pos):Prop where
 base:attributeBase o m X.env (eval o X.env)=eval o X.env
 few:((backTo cpos (starEach [e] X.env)).all (fun x=>!x.1) && (backToKw cpos (keywordEach [] X.env)).all (fun x=>x.1.isSome)
  && decide (([e]:List Expr).length+([]:List Keyword).length+(if ([]:List Keyword).isEmpty then 0 else 1)<30))=true
 line:(apos.endLine == cpos.line)=true
 trees:backTo cpos (starEach [e] X.env)=[(false,eval e X.env)]
section
variable {X:Cx} {pins:List (Addr×Obj)} {σ:St} {H:Hp} {s:Shared} {a:Addr} {y d:V} {u r:Value} {o:Option V} {A:Around} {E:Value->Shared->Prop}
end
section
variable {X:Cx} {o e f:Expr} {apos cpos:Pos} {td ty tx:TE}
end
section
variable {X:Cx} {pins:List (Addr×Obj)} {σ:St} {H:Hp} {s:Shared} {a:Addr} {kvs:List (Key×V)} {A:Around} {E:Value->Shared->Prop}
end
section
variable {X:Cx} {pins:List (Addr×Obj)} {σ:St} {H:Hp} {s:Shared} {a:Addr} {y:V} {u:Value} {A:Around} {E:Value->Shared->Prop}
end
theorem z3u {prog:Program} {w:World} {A:Around} {R:Result->Shared->Prop} {s:Shared} {elt target iter:Expr} {ifs:List Expr} {scope:Scope} {pos:Pos} {it acc:Value} {env:Env} (J:Nat->Shared->Prop)
  (turn:∀n s,J n s->wpAny (model prog w) A (pyNext it) (fun r s₁=>match r with
   | none=>R (.ok .next) s₁
   | some v=>wpAny (model prog w) A (letOwnedTupleGo target it v) (fun _ s₁'=>wpAny (model prog w) A (assign target env v) (fun _ s₂=>
     wpAny (model prog w) A (forIn ifs true fun c r=>if r=true then do let ok ←isTrue c env (eval c env);pure (ForInStep.yield ok) else pure (ForInStep.yield r)) (fun ok s₃=>
      if ok=true then wpAny (model prog w) A (eval elt env) (fun x s₄=>
       wpAny (model prog w) A (call (.builtin "list.append") [acc,x]) (fun _ s₅=>∃m,m<n/\J m s₅) (fun _ _=>False) s₄) (fun _ _=>False) s₃
      else ∃m,m<n/\J m s₃) (fun _ _=>False) s₂) (fun _ _=>False) s₁') (fun _ _=>False) s₁) (fun _ _=>False) s)
  (n:Nat) (h:J n s):codeAny (model prog w) A (.compLoop (.ListComp elt [⟨target,iter,ifs,0⟩] scope pos) 0 it acc env) R s:=by
 refine codeAny_loop rfl J (fun n s hI=>?_) n h;show wpAny _ A ((compTurn (.ListComp elt [⟨target,iter,ifs,0⟩] scope pos) 0 it acc env).onRaise (fun x=>do noteFrame x env;theTreesLotGoes x)) _ _ s;refine wpAny_noted ?_;rw[compTurn_list];refine wpAny_bind (wpAny_standAt (wpAny_bind (wpAny_mono (turn n s hI) (fun r s₁ h₁=>?_) fun _ _ h'=>h'.elim)));cases r with
 | none=>exact wpAny_pure h₁
 | some v=>
  refine wpAny_bind (wpAny_mono h₁ (fun _ s₁' h₁'=>?_) fun _ _ h'=>h'.elim);refine wpAny_bind (wpAny_mono h₁' (fun _ s₂ h₂=>wpAny_bind (wpAny_mono h₂ (fun ok s₃ h₃=>?_) fun _ _ h'=>h'.elim)) fun _ _ h'=>h'.elim);cases ok with
  | false=>exact wpAny_pure ⟨rfl,h₃⟩
  | true=>exact wpAny_bind (wpAny_bind (wpAny_mono h₃ (fun x s₄ h₄=>wpAny_bind (wpAny_mono h₄ (fun _ s₅ h₅=>wpAny_pure (wpAny_pure ⟨rfl,h₅⟩)) fun _ _ h'=>h'.elim)) fun _ _ h'=>h'.elim))
noncomputable def xG (X:Cx) (N:List Str) (scope:Scope) (cl:List (Str×Addr)) (s:Shared) (H:Hp) (fp:List Addr):Cx:=
 { X with N:=N,s₀:=s,H₀:=H,env:=compEnvC scope cl s.heap.objs.size X.env,outer:=X.stack,ex:=fp,fn:=fun _=>false,pn:=[],xe:=fun _ _=>False }
structure CompSc (X:Cx) (own capt:List Str) (scope:Scope) (cl:List (Str×Addr)) (fr:List Nat):Prop where
 clos:closureFor scope X.env=pure cl
 nocell:∀y∈scope.names,y.2≠.cell
 kind:scope.kind=.function
 names:∀y∈scope.names,y.2=.local->scope.names.lookup y.1=some .local
 inn:∀y c,cl.lookup y=some c->X.env.cells.lookup y=some c
 has:∀y,((relabel scope X.env).names.lookup y=some .cell∨(relabel scope X.env).names.lookup y=some .free)->∃c,cl.lookup y=some c
 cap:∀(k:Nat) (y:Str),capt[k]?=some y->∃j c,fr[k]?=some j/\X.N[j]?=some y/\X.env.scope.names.lookup y=some .cell/\cl.lookup y=some c/\
  ((relabel scope X.env).names.lookup y=some .cell∨(relabel scope X.env).names.lookup y=some .free)
 len:capt.length=fr.length
theorem CompSc.none {X:Cx} {own:List Str} {scope:Scope} (h1:∀y∈scope.names,y.2≠.free) (h2:∀y∈scope.names,y.2≠.cell) (kind:scope.kind=.function) (names:∀y∈scope.names,y.2=.local->scope.names.lookup y.1=some .local) :
  CompSc X own [] scope [] [] where
 clos:=closureFor_none h1
 nocell:=h2
 kind:=kind
 names:=names
 inn:=fun y c e=>nomatch e
 has:=fun y e=>by
  have mem:∀(l:List (Str×NameKind)) (y:Str) (k:NameKind),l.lookup y=some k->∃z∈l,z.2=k:=by
   intro l
   induction l with
   | nil=>intro y k e;cases e
   | cons a r ih=>
    intro y k e;obtain⟨n,q⟩:=a;rw[List.lookup_cons] at e;cases hy:y == n with
    | true=>rw[hy] at e;exact⟨(n,q),by simp,Option.some.inj e⟩
    | false=>
     rw[hy] at e;obtain⟨z,hz,e2⟩:=ih y k e;exact⟨z,by simp [hz],e2⟩
  exfalso;have same:(relabel scope X.env).names=scope.names:=by
   unfold relabel;exact map_eq_self (l:=scope.names) fun x hx=>by
    obtain⟨n,k⟩:=x;have:(k == NameKind.free)=false:=by simpa using h1 _ hx
    simp [this]
  rw[same] at e;rcases e with e|e
  ·obtain⟨z,hz,e2⟩:=mem _ _ _ e;exact h2 z hz e2
  ·obtain⟨z,hz,e2⟩:=mem _ _ _ e;exact h1 z hz e2
 cap:=fun k y e=>by simp at e
 len:=rfl
noncomputable def st0 (own:List Str) (fr:List Nat) (σ:St):St:=own.map (fun _=>Option.none)++fr.map fun j=>(σ[j]?).join
theorem y0J {X:Cx} {pins:List (Addr×Obj)} {σ:St} {H:Hp} {s:Shared} {own capt:List Str} {scope:Scope} {cl:List (Str×Addr)} {fr:List Nat} {fp:List Addr} (C:CompSc X own capt scope cl fr)
  (I:Inv X pins σ H s) (hf:∀b∈fp,z6p X pins H b/\b<s.heap.objs.size):(xG X (own++capt) scope cl s H fp).Ok where
 mod:=I.ok.mod
 kind:=C.kind
 glob:=I.ok.glob
 blt:=I.ok.blt
 above:=Nat.le_refl _
 inj:=fun x y c e1 e2=>I.ok.inj x y c (C.inn x c e1) (C.inn y c e2)
 has:=fun x e=>C.has x e
 cab:=fun x c e _=>by cases e
 hd:=I.ok.hd
 frames:=I.ok.frames
 stk:=.inl rfl
 exf:=fun b hb=>⟨Nat.ne_of_lt (hf b hb).2,fun x c e=>(hf b hb).1.2.2.2.2.1 x c (C.inn x c e)⟩
 bs:=I.bs
 bsz:=Nat.le_trans I.ok.bsz I.sz
 noex:=fun b o e hb=>by
  rcases (hf b hb).1.2.2.2.1 with z|z
  ·exact I.ok.noex b o e z
  ·exact absurd (Nat.lt_of_lt_of_le (Heap.lt_size e) (Nat.le_trans I.ok.bsz z)) (Nat.lt_irrefl _)
 exfs:=fun b hb z=>by
  rcases List.mem_cons.mp (I.stkSub b z) with e|z
  ·exact (hf b hb).1.2.1 e
  ·exact (hf b hb).1.2.2.1 z
 funs:=I.stack
 frf:=I.stkFree
theorem z3q {X:Cx} {pins:List (Addr×Obj)} {σ:St} {H:Hp} {s:Shared} {own capt:List Str} {scope:Scope} {cl:List (Str×Addr)} {fr:List Nat} {fp:List Addr} {h':Heap} {t':Nat} {m':Str->Option Value} (C:CompSc X own capt scope cl fr)
  (I:Inv X pins σ H s) (hf:∀b∈fp,z6p X pins H b/\b<s.heap.objs.size) (hn:h'.Ns s.heap.objs.size m') (k:∀b o,s.heap.get? b=some o->h'.get? b=some o) :
  Inv (xG X (own++capt) scope cl s H fp) [] (st0 own fr σ) H { s with heap:=h',toks:=t' } where
 ok:=y0J C I hf
 os:=rfl
 bare:=I.bare
 base:=Un.kept k
 loc:=by
  obtain⟨m,_,hl⟩:=I.loc;refine⟨m',hn,fun i y v e1 e2 _=>?_⟩;have e1':(own++capt)[i]?=some y:=e1;unfold st0 at e2;by_cases hi:i<own.length
  ·rw[List.getElem?_append_left (by simpa using hi)] at e2;rw[List.getElem?_map] at e2;cases q:own[i]? with
   | none=>rw[q] at e2;cases e2
   | some _=>rw[q] at e2;cases e2
  ·rw[List.getElem?_append_right (by simpa using hi)] at e2;rw[List.getElem?_append_right (by simpa using hi)] at e1';simp only [List.length_map] at e2;obtain⟨j,c,f1,f2,f3,f4,f5⟩:=C.cap _ y e1';rw[List.getElem?_map,f1] at e2;have e3:(σ[j]?).join=some v:=Option.some.inj e2;have e4:σ[j]?=some (some v):=by
    cases q:σ[j]? with
    | none=>rw[q] at e3;cases e3
    | some z=>rw[q] at e3;exact congrArg some e3
   obtain⟨u,r,l⟩:=hl j y v f2 e4 (.inr (.inl f3));refine⟨u,r,.inr ⟨f5,c,f4,?_⟩⟩;rcases l with⟨k1,_⟩|⟨_,c',h1,h2⟩
   ·have k1':X.env.scope.names.lookup y=some .local:=k1;rw[f3] at k1';cases k1'
   ·rw[C.inn y c f4] at h1;cases h1;obtain⟨o,ho,hd⟩:=h2;exact⟨o,k _ _ ho,hd⟩
 cell:=fun y c e=>by
  obtain⟨v,o,ho,hd⟩:=I.cell y c (C.inn y c e);exact⟨v,o,k _ _ ho,hd⟩
 free:=I.hok.fresh (Nat.le_refl _)
 freeC:=fun y c e=>I.freeC y c (C.inn y c e)
 pin:=fun p hp=>by
  have:p∈([]:List (Addr×Obj)):=hp;cases this
 hok:=I.hok.kept k
 len:=by
  show (st0 own fr σ).length=(own++capt).length;unfold st0;simp [C.len]
theorem z7g {X:Cx} {pins:List (Addr×Obj)} {σ σ':St} {H H':Hp} {s s':Shared} {N:List Str} {scope:Scope} {cl:List (Str×Addr)} {fp:List Addr} {pins':List (Addr×Obj)} {h':Heap}
  (I:Inv X pins σ H s) (hf:∀b∈fp,z6p X pins H b/\b<s.heap.objs.size) (J:Inv (xG X N scope cl s H fp) pins' σ' H' s') (hs:Heap.SameBut s.heap.objs.size s'.heap h') :
  Inv X pins σ H' { s' with heap:=h' }:=by
 have fr:H' s.heap.objs.size=none:=J.free;have ne:∀ {b:Addr} {o:Obj},s.heap.get? b=some o->b≠s.heap.objs.size:=fun e=>Nat.ne_of_lt (Heap.lt_size e);have B:Un (frs X.stack) fp H H' s.heap s'.heap:=J.base;refine I.call' (s':={ s' with heap:=h' }) (ch:=fp) J.os ?_ ?_ J.bare fun b hb=>⟨(hf b hb).1.2.2.2.1,(hf b hb).1.2.1,(hf b hb).1.2.2.2.2.1,(hf b hb).1.2.2.2.2.2⟩
 ·exact⟨fun b o e n h1 h2=>(hs.2 b (ne e)).trans (B.keep b o e n h1 h2),fun b o e n h1 h2=>let ⟨sl,q⟩:=B.slot b o e n h1 h2;⟨sl,(hs.2 b (ne e)).trans q⟩,B.free,
   fun b o e h1=>let ⟨o',q⟩:=B.there b o e h1;⟨o',(hs.2 b (ne e)).trans q⟩,B.tups,B.frzs,B.tbls⟩
 ·intro b ob e;refine (J.hok b ob e).stay (fun c w' hc q=>(hs.2 c ?_).trans q) (fun _ q=>q) fun _ _ q=>q;rintro rfl;rcases hc with rfl|hc
  ·rw[fr] at e;cases e
  ·rw[fr] at hc;cases hc
noncomputable def PTs (X:Cx) (ifs:List Expr) (t:TT):Prop:=
 ∀(pins:List (Addr×Obj)) (s:Shared) (σ:St) (H:Hp) (Q:Bool->Hp->Prop),Inv X pins σ H s->t σ H Q->
  wpAny (model X.prog X.w) X.A (forIn ifs true fun c r=>if r=true then do let ok ←isTrue c X.env (eval c X.env);pure (ForInStep.yield ok) else pure (ForInStep.yield r)) (TP X pins σ Q) X.xe s
noncomputable def z2m:TT:=fun _ H Q=>Q true H
theorem yX {X:Cx}:PTs X [] z2m:=fun _ _ _ H _ I h=>wpAny_tests_nil ⟨H,I,h⟩
theorem z4w {X:Cx} {c:Expr} {t:TT} (hc:PT X c t):PTs X [c] t:=fun pins s σ H Q I h=>wpAny_tests_one (hc pins s σ H Q I h)
noncomputable def y0l (wi:TI) (g:TG) (tt:TT) (te:TE) (own:List Str) (fr:List Nat):TE:=fun σ H Q=>wi σ H fun J H1=>∀D,H1 D=none->∃W:Nat->Nat->St->Hp->Prop,(∃m,W 0 m (st0 own fr σ) (upd H1 D (.lst [])))/\∀i m σc H,W i m σc H->
 (J.stop i H/\Q (.ref D) H)∨(J.go i H/\∃N:St->Hp->Prop,(∀σ' H',N σ' H'->∃m',m'<m/\W (i+1) m' σ' H')/\∀x H',J.yld i H x H'->g x σc H' fun σ2 H2=>tt σ2 H2 fun b H3=>
  if b=true then te σ2 H3 fun y H4=>∃ys,H4 D=some (.lst ys)/\ys.length<sizeLine/\N σ2 (upd H4 D (.lst (ys++[y]))) else N σ2 H3)
theorem z3r {X:Cx} {own capt:List Str} {scope:Scope} {cl:List (Str×Addr)} {fr:List Nat} {tg iter elt:Expr} {ifs:List Expr} {wi:TI} {g:TG} {tt:TT} {te:TE} {pos:Pos} (C:CompSc X own capt scope cl fr) (hc:X.calm=true)
  (hi:PI X tg iter wi) (hg:∀s H fp,PG (xG X (own++capt) scope cl s H fp) tg g) (ht:∀s H fp,PTs (xG X (own++capt) scope cl s H fp) ifs tt) (he:∀s H fp,PE (xG X (own++capt) scope cl s H fp) elt te)
  {pins:List (Addr×Obj)} {s:Shared} {σ:St} {H:Hp} {Q:VK} {RR:Value->Addr->Result->Shared->Prop} (I:Inv X pins σ H s) (h:y0l wi g tt te own fr σ H Q)
  (hR:∀(D C:Addr) (H':Hp) (s':Shared) (m:Str->Option Value),s'.heap.Ns C m->z6p X pins H' C->(∀h',Heap.SameBut C s'.heap h'->Inv X pins σ H' { s' with heap:=h' })->Q (.ref D) H'->RR (.ref D) C (.ok .next) s') :
  wpAny (model X.prog X.w) X.A (eval iter X.env) (fun x s₁=>wpAny (model X.prog X.w) X.A (pyIter x) (fun it s₂=>wpAny (model X.prog X.w) X.A (newList []) (fun acc s₃=>
   wpAny (model X.prog X.w) X.A (newFunctionEnv scope X.env.globals cl [] X.env.qual none .none (some X.env)) (fun cenv s₄=>
    codeAny (model X.prog X.w) X.A (.compStart (.ListComp elt [⟨tg,iter,ifs,0⟩] scope pos) 0 it acc { cenv with scope:=relabel scope X.env }) (RR acc cenv.locals) s₄) X.xe s₃) X.xe s₂) X.xe s₁) X.xe s:=by
 refine thn (hi pins s σ H _ I h) fun v s1 h1=>thn h1 fun itv s2 h2=>?_;obtain⟨it,fp,tn,J,H2,e,I2,T,st2,f2,h2⟩:=h2;subst e;obtain⟨W,⟨m0,w0⟩,turn⟩:=h2 s2.heap.objs.size I2.fresh;refine wpAny_newObj_type ?_;have I3:Inv X pins σ (upd H2 s2.heap.objs.size (.lst [])) { s2 with heap:=s2.heap.push { cls:=.type "list",data:=.seq ([]:List Value).toArray } }:=I2.lnew (ys:=[]) (its:=[]) (t':=s2.toks) .nil (Nat.zero_le _);generalize hs3:({ s2 with heap:=s2.heap.push { cls:=.type "list",data:=.seq ([]:List Value).toArray } }:Shared)=s3 at I3 ⊢;have keep3:∀b o,s2.heap.get? b=some o->s3.heap.get? b=some o:=fun b o e=>by rw[←hs3];exact Heap.get?_push_of_some _ e
 have sz3:s2.heap.objs.size<s3.heap.objs.size:=by rw[←hs3];show _<(s2.heap.push _).objs.size;rw[Heap.size_push];exact Nat.lt_succ_self _
 have fin:∀b∈fp,b<s2.heap.objs.size:=fun b hb=>by obtain⟨o,e,_⟩:=T.obj _ _ st2 b hb;exact Heap.lt_size e
 have f3:∀b∈fp,z6p X pins (upd H2 s2.heap.objs.size (.lst [])) b/\b<s3.heap.objs.size:=fun b hb=>by
  obtain⟨a1,a2⟩:=f2 b hb;exact⟨⟨by rw[za (Nat.ne_of_lt (fin b hb))];exact a1,a2⟩,Nat.lt_trans (fin b hb) sz3⟩
 refine wpAny_newFunctionEnv C.nocell (by intro y hy;simp at hy) (fun h4 hn4 hs4=>?_) C.kind;have keep4:∀b o,s3.heap.get? b=some o->h4.get? b=some o:=fun b o e=>(hs4.2 b (Nat.ne_of_lt (Heap.lt_size e))).trans (Heap.get?_push_of_some _ e);have I4:Inv (xG X (own++capt) scope cl s3 (upd H2 s2.heap.objs.size (.lst [])) fp) [] (st0 own fr σ) (upd H2 s2.heap.objs.size (.lst [])) { s3 with heap:=h4,toks:=s3.toks+([]:List (Str×Value)).length }:=z3q C I3 f3 hn4 keep4;have st4:tn 0 h4:=T.keep _ _ _ st2 fun b _ o e=>keep4 b o (keep3 b o e);generalize hs5:({ s3 with heap:=h4,toks:=s3.toks+([]:List (Str×Value)).length }:Shared)=s5 at I4 ⊢;have st5:tn 0 s5.heap:=by rw[←hs5];exact st4
 generalize hX:xG X (own++capt) scope cl s3 (upd H2 s2.heap.objs.size (.lst [])) fp=Y at I4;have hY1:Y.prog=X.prog:=by rw[←hX];rfl
 have hY2:Y.w=X.w:=by rw[←hX];rfl
 have hY3:Y.K=X.K:=by rw[←hX];rfl
 have hY4:Y.A=X.A:=by rw[←hX];rfl
 have hY5:Y.calm=true:=by rw[←hX];exact hc
 have hY6:Y.env=compEnvC scope cl s3.heap.objs.size X.env:=by rw[←hX];rfl
 have hY7:Y.xe=fun _ _=>False:=by rw[←hX];rfl
 have gY:PG Y tg g:=by rw[←hX];exact hg _ _ _
 have tY:PTs Y ifs tt:=by rw[←hX];exact ht _ _ _
 have eY:PE Y elt te:=by rw[←hX];exact he _ _ _
 have fY:∀ {H':Hp},(∀b∈fp,H' b=none)->∀b∈fp,z6p Y [] H' b:=fun {H'} hn b hb=>by
  have ok:=I4.ok;refine⟨hn b hb,(ok.exf b (by rw[←hX];exact hb)).1,ok.exfs b (by rw[←hX];exact hb),.inl (by rw[←hX];exact hb),fun x c e=>(ok.exf b (by rw[←hX];exact hb)).2 x c e,fun p hp=>?_⟩;have:p∈([]:List (Addr×Obj)):=by rw[←hX] at hp;exact hp
  cases this
 have loop:∀s6,s6=s5->codeAny (model X.prog X.w) X.A (.compLoop (.ListComp elt [⟨tg,iter,ifs,0⟩] scope pos) 0 (.ref it) (.ref s2.heap.objs.size) (compEnvC scope cl s3.heap.objs.size X.env)) (RR (.ref s2.heap.objs.size) s3.heap.objs.size) s6:=by
  rintro s6 rfl;refine z3u (fun n s'=>∃i σ' H',Inv Y [] σ' H' s'/\tn i s'.heap/\(∀b∈fp,H' b=none)/\W i n σ' H') ?_ m0 ⟨0,_,_,I4,st5,fun b hb=>(f3 b hb).1.1,w0⟩;rintro n s7 ⟨i,σ7,H7,I7,st7,fr7,w7⟩;have pn:=hY1;have pw:=hY2;rcases turn i n σ7 H7 w7 with⟨stop,qn⟩|⟨go,N,hN,step⟩
  ·have z:=T.done Y hY1 hY2 hY3 hY5 i [] s7 σ7 H7 (fun _ _=>False) I7 (fY fr7) st7 stop;rw[hY4] at z;refine thn z fun r s8 ⟨hr,I8⟩=>?_;subst hr;obtain⟨m8,hn8,_⟩:=I8.loc;rw[hY6] at hn8;have fC:H7 s3.heap.objs.size=none:=by have z:=I8.free;rw[hY6] at z;exact z
   refine hR _ _ H7 s8 m8 hn8 (I3.fpOk (Nat.le_refl _) fC) (fun h' sb=>?_) qn;rw[←hX] at I8;exact z7g I3 f3 I8 sb
  ·have z:=T.item Y hY1 hY2 hY3 hY5 i [] s7 σ7 H7 (fun _ _=>False) I7 (fY fr7) st7 go;rw[hY4] at z;refine thn z fun r s8 ⟨u,hr,h8⟩=>?_;subst hr;refine thn h8 fun _ s9 ⟨x,H9,I9,r9,y9,st9,fr9⟩=>?_;have I9':=I9.pinned (fY fr9) (T.obj _ _ st9);have z2:=gY _ s9 σ7 H9 x u _ I9' r9 (step x H9 y9);rw[hY1,hY2,hY4,hY6,hY7] at z2;refine thn z2 fun _ sA ⟨σA,HA,IA,qA⟩=>?_;have z3:=tY _ sA σA HA _ IA qA;rw[hY1,hY2,hY4,hY6,hY7] at z3;refine thn z3 fun b sB ⟨HB,IB,qB⟩=>?_;have again:∀ {σZ:St} {HZ:Hp} {sZ:Shared},Inv Y ([]++z3N fp s9.heap) σZ HZ sZ->N σZ HZ->∃m,m<n/\∃i σ' H',Inv Y [] σ' H' sZ/\tn i sZ.heap/\(∀b∈fp,H' b=none)/\W i m σ' H':=fun {σZ HZ sZ} IZ nZ=>by
    obtain⟨m',hm,wZ⟩:=hN σZ HZ nZ;refine⟨m',hm,i+1,σZ,HZ,IZ.unpinned,T.keep _ _ _ st9 fun b hb o e=>(IZ.pin (b,o) (List.mem_append_right _ (List.mem_append_right _ (qJ hb e)))).1,fun b hb=>?_,wZ⟩;obtain⟨o,e,d⟩:=T.obj _ _ st9 b hb;exact (IZ.pin (b,o) (List.mem_append_right _ (List.mem_append_right _ (qJ hb e)))).2.1
   cases b with
   | false=>exact again IB qB
   | true=>
    have z4:=eY _ sB σA HB _ IB qB;rw[hY1,hY2,hY4,hY6,hY7] at z4;refine thn z4 fun y sC ⟨vy,HC,IC,rC,ys,hD,hz,nC⟩=>?_;have z5:=yn (X:=Y) _ sC σA HC (.ref s2.heap.objs.size) [vy] (.ref s2.heap.objs.size) [y] (fun _ H'=>N σA H') IC rfl (.cons rC .nil) ⟨_,ys,vy,rfl,rfl,hD,hz,nC⟩;rw[hY1,hY2,hY4,hY7] at z5;exact thn z5 fun _ sD ⟨_,HD,ID,_,nD⟩=>again ID nD
 exact codeAny_compStart_list (loop _ rfl) (T.self _ 0 _ _ _ st5 (loop _ rfl))
theorem ya {X:Cx} {own capt:List Str} {scope:Scope} {cl:List (Str×Addr)} {fr:List Nat} {tg iter elt:Expr} {ifs:List Expr} {wi:TI} {g:TG} {tt:TT} {te:TE} {pos:Pos} (C:CompSc X own capt scope cl fr) (hc:X.calm=true)
  (hi:PI X tg iter wi) (hg:∀s H fp,PG (xG X (own++capt) scope cl s H fp) tg g) (ht:∀s H fp,PTs (xG X (own++capt) scope cl s H fp) ifs tt) (he:∀s H fp,PE (xG X (own++capt) scope cl s H fp) elt te)
  (hs:∀x,foldedSetIterable iter X.env x=pure x:=by intro _;rfl):PE X (.ListComp elt [⟨tg,iter,ifs,0⟩] scope pos) (y0l wi g tt te own fr):=by
 intro pins s σ H Q I h;rw[eval_ListComp];refine wpAny_comprehension_free (use:=none) rfl hs C.clos C.kind C.names ?_;exact z3r (RR:=fun acc C=>compPost (model X.prog X.w) X.A X.xe none (EP X pins σ Q) acc C) C hc hi hg ht he I h fun D C H' s' m hn _ hI q=>⟨m,hn,fun h' sb=>⟨.ref D,H',hI h' sb,rfl,q⟩⟩
theorem qH {X:Cx} {own capt:List Str} {scope:Scope} {cl:List (Str×Addr)} {fr:List Nat} {tg iter elt:Expr} {ifs:List Expr} {wi:TI} {g:TG} {tt:TT} {te:TE} {pos spos py:Pos} {y:Str} {i:Nat} (hN:X.N.Nodup) (hi':X.N[i]?=some y) (hy:Loc X.env.scope y) (C:CompSc X own capt scope cl fr) (hc:X.calm=true)
  (hi:PI X tg iter wi) (hg:∀s H fp,PG (xG X (own++capt) scope cl s H fp) tg g) (ht:∀s H fp,PTs (xG X (own++capt) scope cl s H fp) ifs tt) (he:∀s H fp,PE (xG X (own++capt) scope cl s H fp) elt te)
  (hsw:swapsWith (.ListComp elt [⟨tg,iter,ifs,0⟩] scope pos) (some (.Name y py)) spos.line X.env=pure true:=by rfl)
  (hs:∀x,foldedSetIterable iter X.env x=pure x:=by intro _;rfl) (hf:X.fn y=true∨X.env.scope.names.lookup y=some .local:=by first|exact .inl rfl|exact .inr rfl|assumption) :
  PS X (.Assign [.Name y py] (.ListComp elt [⟨tg,iter,ifs,0⟩] scope pos) spos) (y5l (y0l wi g tt te own fr) (jW i)):=by
 intro pins s σ H D I h;rw[exec_Assign_Name_used _ _ _ _ hsw];refine wpAny_bind (wpAny_standAt (wpAny_bind ?_));show wpAny _ X.A (do let _ ←comprehension (.ListComp elt [⟨tg,iter,ifs,0⟩] scope pos) scope X.env _ (newList []) false (eval iter X.env) (some (assign (.Name y py) X.env))) _ _ s;refine wpAny_bind (wpAny_mono (wpAny_comprehension_free (use:=some (assign (.Name y py) X.env)) (Q:=fun _ s'=>SP X pins D .next s') rfl hs C.clos C.kind C.names ?_) (fun _ s' hq=>wpAny_pure (wpAny_pure hq)) fun _ _ e=>e);refine z3r (RR:=fun acc C=>compPost (model X.prog X.w) X.A X.xe (some (assign (.Name y py) X.env)) (fun _ s'=>SP X pins D .next s') acc C) C hc hi hg ht he I h fun Dn Cn H' s' m hn F hI q=>?_;show wpAny _ X.A (assign (.Name y py) X.env (.ref Dn)) _ _ _;have IX:Inv X pins σ H' s':=hI s'.heap (.refl ..);refine wpAny_assign_Name (z2o IX hN hi' hy (v:=.ref Dn) rfl (fun s'' I'' ⟨a,sb,ha⟩=>?_) hf);have na:Cn≠a:=by
  rcases ha with z|z
  ·rw[z];exact F.2.1
  ·exact fun q=>F.2.2.2.2.1 _ _ z q.symm
 refine⟨m,hn.sameBut sb na,fun h' sb'=>⟨_,H',?_,q⟩⟩;exact I''.turned (t':=s''.toks) (fun b o hb e=>(sb'.2 b hb).trans e) F.1 F.2.1 F.2.2.2.1 F.2.2.2.2.1 F.2.2.2.2.2
noncomputable def Has (P:Program) (w:World) (K:PySem.W.Frag) (mg:Str->Option Value) (base:Heap) (k:Nat) (x:Str) (ps:List Str) (sp:Sp):Prop:=
 ∃f fd,FnOk P w K mg base CX0 k f fd ps sp/\(∀us:List Value,us.length=ps.length->bindArgs fd ⟨us,[]⟩=pure (ps.zip us))/\PySem.W.keepIn K (.ref f)=true/\mg x=some (.ref f)/\∃oc od osl,K.lookup f=some ⟨oc,od,.func fd,osl⟩
theorem Has.mono {P:Program} {w:World} {K:PySem.W.Frag} {mg:Str->Option Value} {base:Heap} {j k:Nat} {x:Str} {ps:List Str} {sp:Sp} (h:Has P w K mg base j x ps sp) (hk:j<=k):Has P w K mg base k x ps sp:=
 let ⟨f,fd,F,b⟩:=h
 ⟨f,fd,F.mono hk,b⟩
theorem zL {X:Cx} {k:Nat} {x:Str} {ps:List Str} {sp:Sp} {p pos:Pos} {e:Expr} {es:List Expr} {t:TA} (h:Has X.prog X.w X.K X.mg X.base k x ps sp) (hr:Room k X.A) (ha:PA X (e::es) t) (hg:Gl X x:=by rfl)
  (hdb:(x == ("__debug__" : Str))=false:=by decide) (he:starEach (e::es) X.env=(false,eval e X.env)::starEach es X.env:=by rfl) (hpl:(backTo pos (starEach es X.env)).any (·.1)=false:=by rfl) :
  PE X (.Call (.Name x p) (e::es) [] pos) (z7A sp [] E0 t):=by
 obtain⟨f,fd,F,hb,hk,hm,_⟩:=h;exact z8s F hr hg hm hk (.all hb) .nil z8u ha hdb he hpl
noncomputable def TF (K:PySem.W.Frag) (mg:Str->Option Value) (x:Str) (st:Stmt):Prop:=∃f fd,Fun K x x st f fd/\mg x=some (.ref f)
theorem zl {K:PySem.W.Frag} {h:Heap} {mg:Str->Option Value} {x:Str} {st:Stmt} {f:Addr} {oc:Value} {od an:Option Addr} {osl:Array (Option Value)} {kV doc pm cdv ct:Value} (X:K.In h) (G:h.Ns mainGlobals mg)
  (a:PySem.W.nsIn K mainGlobals x=some (some (.ref f))) (l:K.lookup f=some ⟨oc,od,.func (PySem.W.fnOf x x (jX st) (yo st) (zG st) .none kV doc pm an cdv ct),osl⟩) (c:PySem.W.codeIn K cdv x=true) (k:PySem.W.keepIn K (.ref f)=true):TF K mg x st:=
 ⟨f,_,y2X l c k,PySem.W.mg_of X G a⟩
theorem TF.has {P:Program} {w:World} {K:PySem.W.Frag} {mg:Str->Option Value} {base:Heap} {x:Str} {st:Stmt} {N ps:List Str} {k:Nat} {sp:Sp} (T:TF K mg x st) (S:FnScope N ps (zG st))
  (hb:∀(kV doc pm:Value) (an:Option Addr) (cdv ct:Value) (us:List Value),us.length=ps.length->bindArgs (PySem.W.fnOf x x (jX st) (yo st) (zG st) .none kV doc pm an cdv ct) ⟨us,[]⟩=pure (ps.zip us))
  (len:∀vs H Q E,sp vs H Q E->vs.length=ps.length)
  (hbody:∀(f:Addr) (cdv:Value) (A:Around) (outer:List Env) (s:Shared) (H:Hp) (vs:List V) (Q:VK) (E:XK),Room k (A.deeper (envOfC x (zG st) s.heap.objs.size f cdv))->sp vs H Q E->
   ∃t,PSs (z0J CX0 P w K mg base N x (zG st) f cdv A outer s H E).nox (yo st) t/\t { nx:=fun _ H'=>Q .non H',rt:=Q } (qc N vs) H):Has P w K mg base (k+1) x ps sp:=by
 obtain⟨f,fd,F,m⟩:=T;have ok:=F.ok (P:=P) (w:=w) (mg:=mg) (base:=base) S len fun cdv A outer s H vs Q E hr hsp=>hbody f cdv A outer s H vs Q E hr hsp;obtain⟨oc,od,kV,doc,pm,an,cdv,ct,osl,rfl,lk,hcd⟩:=F.ex;exact⟨f,_,ok,hb kV doc pm an cdv ct,F.kp,m,oc,od,osl,lk⟩
theorem y3g {P:Program} {w:World} {K:PySem.W.Frag} {mg:Str->Option Value} {h:Heap} {k:Nat} {sp:Sp} {fa:Addr} (KX:K.In h) (G:h.Ns mainGlobals mg) (hfa:mg "law" = some (.ref fa))
  (H:∀base:Heap,K.In base->base.Ns mainGlobals mg->Has P w K mg base k "law" ["script"] sp) :
  ∃fd:FuncData,(∀(s:Shared) (v:Value),BindsTo s fd ⟨[v],[]⟩ [("script",v)])/\∀base:Heap,K.In base->base.Ns mainGlobals mg->FnOk P w K mg base CX0 k fa fd ["script"] sp:=by
 obtain⟨f,fd,F,hb,hk,hm,oc,od,osl,hl⟩:=H h KX G;rw[hfa] at hm;cases hm;refine⟨fd,fun s v=>.of_eq (hb [v] rfl),fun base kb nb=>?_⟩;obtain⟨f',fd',F',_,_,hm',oc',od',osl',hl'⟩:=H base kb nb;rw[hfa] at hm';cases hm';rw[hl] at hl';cases hl';exact F'
theorem z5d {ns:List Int}:∀z∈ns,Builtin.Int.intBits z<=PySem.W.WData.weightAll (ns.map PySem.W.WData.int):=by
 induction ns with
 | nil=>intro z hz;cases hz
 | cons a r ih=>
  intro z hz;rw[List.map_cons];show _<=PySem.W.WData.weight (.int a)+1+PySem.W.WData.weightAll (r.map PySem.W.WData.int);rcases List.mem_cons.mp hz with e|hz
  ·subst e;have:PySem.W.WData.weight (.int z)=Builtin.Int.intBits z:=rfl;omega
  ·have:=ih z hz;omega
open PySem.W in
theorem y1c {l:PySem.W.OpenLaw} {k:Nat} {q:Program} {loose:List Str} {XP:(Str->Option Value)->Heap->Prop} {YP:World->Heap->Prop} {d:DefRec} {K:Params->PySem.W.Frag} {sp:PySem.W.Frag->Sp}
  (hn:l.most=some 63) (hdf:d.params.defaults=[]) (hr:Room k callerA)
  (hY:∀(w:World) (h:Heap),YP w h->(K w.params).In h)
  (F:∀(w:World) (mg:Str->Option Value) (fa:Addr) (h:Heap),(K w.params).In h->h.Ns mainGlobals mg->mg d.name=some (.ref fa)->
   ∃fd:FuncData,(∀(s:Shared) (u:Value),BindsTo s fd ⟨[u],[]⟩ [("script",u)])/\
    ∀base:Heap,(K w.params).In base->base.Ns mainGlobals mg->FnOk l.prog w (K w.params) mg base CX0 k fa fd ["script"] (sp (K w.params)))
  (hsp:∀(K:PySem.W.Frag) (H:Hp) (a:Addr) (ns:List Int),ns.length<=63->(∀z∈ns,Builtin.Int.intBits z<=2^20)->SqL K H a (ns.map V.int)->sp K [.ref a] H (fun v _=>v=.bl true) fun _ _ _=>False) :
  PySem.W.WalkO q loose XP YP l.row.toRowW d [] (fun f vs=>PySem.call f vs):=by
 intro w s₀ s₁ mg mb G Y fa o pm cd doc dV kV ho hd hcd hD hmg hg args vals as hpre hlay hrd hwl hlo;obtain rfl:dV=.none:=Dflts.none hD hdf;obtain rfl:kV=.none:=Dflts.noKw hD;obtain⟨a,vs,ns,rfl,rfl,hobj,hints,hlen⟩:=Att.script_of hn hpre hwl;have hbits:∀z∈ns,Builtin.Int.intBits z<=2^20:=fun z hz=>by
  have h1:WData.layable (WData.list (ns.map WData.int))=true:=by
   have:=hlay;simp only [WData.layableAll,List.all_cons,List.all_nil,Bool.and_true] at this;exact this
  unfold WData.layable at h1;have h2:WData.weight (WData.list (ns.map WData.int))<=2^20:=by
   have:=(Bool.and_eq_true_iff.mp h1).2;exact of_decide_eq_true this
  exact Nat.le_trans (z5d z hz) h2
 have KX:=hY w _ Y;obtain⟨fd,hb,hF⟩:=F w mg fa _ KX G.T.g hmg;refine enter_call (codeAny_mono (y1d (CX:=CX0) (sp:=sp (K w.params)) KX G.T.g G.T.b G.T.builtins G.T.nolimit hg hobj hints (Nat.le_trans hlen (by decide)) hr hF hb (fun H _ hS=>hsp _ H a ns hlen hbits hS) fun _ _ _ z=>z) fun r s' hq=>?_);obtain⟨rfl,h2,h3,h4⟩:=hq;exact⟨.inl ⟨.bool true,.bool true,[],rfl,fun _=>rfl,.bool true,Att.post_true l _,fun _=>⟨List.Pairwise.nil,fun _ hm=>(nomatch hm)⟩⟩,h2,h3,h4⟩
theorem xY {X:Cx}:OpR X (binaryOp .Mult) (rI IntMulOk fun i j=>.int (i*j)):=opI fun _ _ _ _ _ _ _ hc q=>mul_int q hc
noncomputable def y5W (_ j:Int):Prop:=0<j/\j.natAbs.log2<9000
theorem yz {X:Cx}:OpR X (binaryOp .FloorDiv) (rI y5W fun i j=>.int (i/j)):=opI fun i j _ _ _ _ _ hc q=>by
 refine floordiv_int (by have:=hc.1;omega) ?_ (.inl (PyProof.noPylong_of_log2 hc.2));rw[Int.fdiv_eq_ediv_of_nonneg i (Int.le_of_lt hc.1)];exact q
theorem mok {i j:Int} (m n:Nat) (h1:i.natAbs<2^m) (h2:j.natAbs<2^n) (h:m+n<=134217728):IntMulOk i j:=IntMulOk.of_le (intBits_le_iff.mpr h1) (intBits_le_iff.mpr h2) h
theorem y4H {i j:Int} (h1:-(2^64)<j) (h2:j<2^64):IntMulOk i j:=.of_right (intBits_le_64 h1 h2)
theorem y0b {i j:Int} (n:Nat) (h0:0<j) (h:j.natAbs<2^n) (hn:n<=9000):y5W i j:=⟨h0,Nat.lt_of_lt_of_le ((Nat.log2_lt (by omega)).mpr h) hn⟩
noncomputable def y4d (K:PySem.W.Frag):List V->Hp->VK->Prop:=fun xs H Q=>∃x T t b,xs=[x,.ty T]/\TyOf K H x t/\PySem.W.kitOne K t (.type T)=some b/\Q (.bl b) H
theorem z2a {X:Cx}:qS X (.builtin "isinstance") (y4d X.K):=by
 intro pins s σ H xs us Q I r h;obtain⟨x,T,t,b,rfl,ty,e,q⟩:=h;obtain⟨u,c,rfl,r1,r2⟩:=Vals.two r;obtain rfl:c=Value.type T:=r2;exact z9T I r1 ty e fun tk=>⟨.bl b,H,I.tok tk,rfl,q⟩
section
variable {D:Ends} {σ:St} {H:Hp} {Q:VK}
theorem z4Q {t u:TS}:y6E t u D σ H=t { D with nx:=u D } σ H:=rfl
theorem z4Y {c:TT} {t u:TS}:y6K c t u D σ H=c σ H fun b H1=>if b=true then t D σ H1 else u D σ H1:=rfl
theorem z4e {te:TE} {g:TG}:y5l te g D σ H=te σ H fun x H1=>g x σ H1 D.nx:=rfl
theorem z2S {i:Nat} {v:V} {R:St->Hp->Prop}:jW i v σ H R=R (σ.set i (some v)) H:=rfl
theorem z4S {te:TE}:y6G te D σ H=te σ H D.rt:=rfl
theorem z1G:y5h D σ H=D.rt .non H:=rfl
theorem z1J:y4P D σ H=D.nx σ H:=rfl
theorem vA:y4W D σ H=D.bk σ H:=rfl
theorem z1Q:y5k D σ H=D.ct σ H:=rfl
theorem z1P {te:TE}:y4T te D σ H=te σ H fun _ H1=>D.nx σ H1:=rfl
theorem y2q {v:V}:tC v σ H Q=Q v H:=rfl
theorem y2p {i:Nat} {v:V} (h:σ[i]?=some (some v)):z5l i σ H Q=Q v H:=propext ⟨fun⟨u,e,q⟩=>by rw[h] at e;cases e;exact q,fun q=>⟨v,h,q⟩⟩
theorem z7z {v:V} {l:St}:z5l 0 (some v::l) H Q=Q v H:=y2p rfl
theorem z7y {i:Nat} {o:Option V} {l:St}:z5l (i+1) (o::l) H Q=z5l i l H Q:=rfl
theorem z8D {r:R2} {ta tb:TE}:tOp r ta tb σ H Q=ta σ H fun x H1=>tb σ H1 fun y H2=>r x y H2 Q:=rfl
theorem z8A {r:V->Hp->VK->Prop} {ta:TE}:tUn r ta σ H Q=ta σ H fun x H1=>r x H1 Q:=rfl
theorem z8g {g:Int->Int->V} {i j:Int}:rI0 g (.int i) (.int j) H Q=Q (g i j) H:=propext ⟨fun⟨a,b,e1,e2,q⟩=>by cases e1;cases e2;exact q,fun q=>⟨i,j,rfl,rfl,q⟩⟩
theorem y3F {C:Int->Int->Prop} {g:Int->Int->V} {i j:Int}:rI C g (.int i) (.int j) H Q=(C i j/\Q (g i j) H):=propext ⟨fun⟨a,b,e1,e2,q⟩=>by cases e1;cases e2;exact q,fun q=>⟨i,j,rfl,rfl,q⟩⟩
theorem y3D {g:Int->V} {i:Int}:rU g (.int i) H Q=Q (g i) H:=propext ⟨fun⟨a,e1,q⟩=>by cases e1;exact q,fun q=>⟨i,rfl,q⟩⟩
theorem z4u {i j:Int}:rEq (.int i) (.int j) H Q=Q (.bl (decide (i=j))) H:=propext ⟨fun⟨_,q⟩=>by simpa using q,fun q=>⟨rfl,by simpa using q⟩⟩
theorem z4t {i j:Int}:rNe (.int i) (.int j) H Q=Q (.bl (!decide (i=j))) H:=propext ⟨fun⟨_,q⟩=>by simpa using q,fun q=>⟨rfl,by simpa using q⟩⟩
theorem z1F {t:TE} {R:Bool->Hp->Prop}:y0i t σ H R=t σ H fun x H'=>∃k,x=.bl k/\R k H':=rfl
theorem y3p {b:Bool} {R:Bool->Prop}:(∃k,V.bl b=.bl k/\R k)=R b:=propext ⟨fun⟨k,e,q⟩=>by cases e;exact q,fun q=>⟨b,rfl,q⟩⟩
theorem z9z {a:Addr} {R:Addr->Prop}:(∃k,V.ref a=.ref k/\R k)=R a:=propext ⟨fun⟨k,e,q⟩=>by cases e;exact q,fun q=>⟨a,rfl,q⟩⟩
theorem y0A {a:Int} {R:Int->Prop}:(∃k,V.int a=.int k/\R k)=R a:=propext ⟨fun⟨k,e,q⟩=>by cases e;exact q,fun q=>⟨a,rfl,q⟩⟩
theorem z4f {t u:TT} {R:Bool->Hp->Prop}:y6P t u σ H R=t σ H fun c H1=>if c=true then u σ H1 R else R false H1:=rfl
theorem z8C {t u:TT} {R:Bool->Hp->Prop}:tOr t u σ H R=t σ H fun c H1=>if c=true then R true H1 else u σ H1 R:=rfl
theorem z4V {t:TT} {R:Bool->Hp->Prop}:y6I t σ H R=t σ H fun c H1=>R (!c) H1:=rfl
theorem z1U {ta tb:TE}:y4X ta tb σ H Q=ta σ H fun x H1=>∃c,x=.bl c/\if c=true then tb σ H1 Q else Q (.bl false) H1:=rfl
theorem z4U {ta tb:TE}:y6f ta tb σ H Q=ta σ H fun x H1=>∃c,x=.bl c/\if c=true then Q (.bl true) H1 else tb σ H1 Q:=rfl
theorem z1I {ta:TE}:y5i ta σ H Q=ta σ H fun x H1=>∃c,x=.bl c/\Q (.bl (!c)) H1:=rfl
theorem z8G {t:TT} {ta tb:TE}:tIf t ta tb σ H Q=t σ H fun c H1=>if c=true then ta σ H1 Q else tb σ H1 Q:=rfl
theorem z4W {R:List V->Hp->Prop}:y0j σ H R=R [] H:=rfl
theorem z1R {ta:TE} {tr:TA} {R:List V->Hp->Prop}:z6z ta tr σ H R=ta σ H fun x H1=>tr σ H1 fun xs H2=>R (x::xs) H2:=rfl
theorem z4P {t:TA}:y6D t σ H Q=t σ H fun xs H1=>xs.length<=sizeLine/\∀p,H1 p=none->Q (.ref p) (upd H1 p (.tup xs)):=rfl
theorem z4X {t:TA}:y6J t σ H Q=t σ H fun xs H1=>xs.length<=sizeLine/\∀p,H1 p=none->Q (.ref p) (upd H1 p (.lst xs)):=rfl
theorem z1T {sp:Sp} {dvs:List V} {E:XK} {t:TA}:z7A sp dvs E t σ H Q=t σ H fun vs H1=>sp (vs++dvs) H1 Q E:=rfl
theorem z8K {r:List V->Hp->VK->Prop} {t:TA}:tCB r t σ H Q=t σ H fun vs H1=>r vs H1 Q:=rfl
theorem wz {r r':R2} {ta tb tc:TE}:z8J r r' ta tb tc σ H Q=ta σ H fun x H1=>tb σ H1 fun y H2=>r x y H2 fun z H3=>∃k,z=.bl k/\(if k=true then tc σ H3 fun w' H4=>r' y w' H4 Q else Q (.bl false) H3):=rfl
theorem z4T {i j:Nat} {ta:TA}:y6H i j ta D σ H=ta σ H fun vs H1=>∃v w,vs=[v,w]/\D.nx ((σ.set i (some v)).set j (some w)) H1:=rfl
theorem z9y {v w:V} {R:V->V->Prop}:(∃a b,[v,w]=[a,b]/\R a b)=R v w:=propext ⟨fun⟨a,b,e,q⟩=>by cases e;exact q,fun q=>⟨v,w,rfl,q⟩⟩
theorem z4d {i:Nat} {te:TE} {ti:TIp}:y6O i te ti D σ H=z5l i σ H fun x _=>te σ H fun y H1=>ti x y H1 fun z H2=>D.nx (σ.set i (some z)) H2:=rfl
theorem z9Y {f:Int->Int->Int} {i j:Int}:ipI f (.int i) (.int j) H Q=Q (.int (f i j)) H:=propext ⟨fun⟨a,b,e1,e2,q⟩=>by cases e1;cases e2;exact q,fun q=>⟨i,j,rfl,rfl,q⟩⟩
theorem z8B {r:V->Option Int->Option Int->Hp->VK->Prop} {te:TE} {tl th:TO}:tSl r te tl th σ H Q=te σ H fun x H1=>tl σ H1 fun l H2=>th σ H2 fun u H3=>r x l u H3 Q:=rfl
theorem kd {R:Option Int->Hp->Prop}:z8E σ H R=R none H:=rfl
theorem z1H {t:TE} {R:Option Int->Hp->Prop}:y4O t σ H R=t σ H fun x H1=>∃i,x=.int i/\R (some i) H1:=rfl
theorem z8L {K:PySem.W.Frag} {T:String} {r:V->List V->Hp->VK->Prop} {to:TE} {t:TA}:tBM K T r to t σ H Q=to σ H fun x H1=>tyV K T x H1/\t σ H1 fun xs H2=>r x xs H2 Q:=rfl
theorem z1E {R:Bool->Hp->Prop}:z2m σ H R=R true H:=rfl
theorem z5X {to ti:TE} {t:y6Y} {v:V} {R:St->Hp->Prop}:y6u to ti t v σ H R=to σ H fun o H1=>ti σ H1 fun i H2=>t o i v H2 fun H3=>R σ H3:=rfl
theorem z5D {c:Prop} [Decidable c] {A B:Prop}:(if c then A else B)=((c->A)/\(¬c->B)):=by
 by_cases h:c
 ·simp [h]
 ·simp [h]
noncomputable def oV:Option Int->V
 | some i=>.int i
 | none=>.non
end
theorem y0I {CX:CXT} {P:Program} {w:World} {K:PySem.W.Frag} {mg:Str->Option Value} {base:Heap} {N:List Str} {qual:Str} {scope:Scope} {f:Addr} {cd:Value} {A:Around} {outer:List Env} {s:Shared} {H:Hp} {E:XK}:(z0J CX P w K mg base N qual scope f cd A outer s H E).K=K:=rfl
theorem z2X {X:Cx} {N:List Str} {scope:Scope} {cl:List (Str×Addr)} {s:Shared} {H:Hp} {fp:List Addr}:(xG X N scope cl s H fp).K=X.K:=rfl
section
variable {D:Ends} {σ:St} {H:Hp} {Q:VK}
noncomputable def y2j (J:It) (g:TG) (tb:TS) (D:Ends) (σ:St) (H:Hp):Prop:=∃W:Nat->Nat->St->Hp->Prop,(∃m,W 0 m σ H)/\∀i m σ H,W i m σ H->
 (J.stop i H/\D.nx σ H)∨(J.go i H/\∃N:St->Hp->Prop,(∀σ' H',N σ' H'->∃m',m'<m/\W (i+1) m' σ' H')/\∀x H',J.yld i H x H'->g x σ H' fun σ2 H2=>tb { D with nx:=N,ct:=N,bk:=D.nx } σ2 H2)
theorem z4Z {wi:TI} {g:TG} {tb:TS}:y6L wi g tb D σ H=wi σ H fun J H1=>y2j J g tb D σ H1:=rfl
theorem xx {lo:Int} {n:Nat} {g:TG} {tb:TS} (Pv:Nat->St->Hp->Prop) (h0:Pv 0 σ H)
  (hs:∀i σ H,i<n->Pv i σ H->g (.int (lo+i)) σ H fun σ2 H2=>tb { D with nx:=Pv (i+1),ct:=Pv (i+1),bk:=D.nx } σ2 H2) (hd:∀σ H,Pv n σ H->D.nx σ H):y2j (Itr lo n) g tb D σ H:=z9u Pv h0 hs hd
theorem yR {K:PySem.W.Frag} {a:Addr} {xs:List V} {g:TG} {tb:TS} (Pv:Nat->St->Hp->Prop) (h0:Pv 0 σ H) (hl:∀i σ H,i<=xs.length->Pv i σ H->SqL K H a xs)
  (hs:∀i x σ H,xs[i]?=some x->Pv i σ H->g x σ H fun σ2 H2=>tb { D with nx:=Pv (i+1),ct:=Pv (i+1),bk:=D.nx } σ2 H2) (hd:∀σ H,Pv xs.length σ H->D.nx σ H):y2j (Itl K a) g tb D σ H:=y1p Pv h0 hl hs hd
theorem y1q {K:PySem.W.Frag} {a:Addr} {xs:List V} {g:TG} {tb:TS} (Pv:Nat->St->Hp->Prop) (h0:Pv 0 σ H) (hl:∀i σ H,i<=xs.length->Pv i σ H->SqT K H a xs)
  (hs:∀i x σ H,xs[i]?=some x->Pv i σ H->g x σ H fun σ2 H2=>tb { D with nx:=Pv (i+1),ct:=Pv (i+1),bk:=D.nx } σ2 H2) (hd:∀σ H,Pv xs.length σ H->D.nx σ H):y2j (Itt K a) g tb D σ H:=y3m Pv h0 hl hs hd
theorem z2B {ta:TA} {R:It->Hp->Prop}:y5G ta σ H R=ta σ H fun vs H1=>∃j:Int,vs=[.int j]/\-(2^62)<=j/\j<2^62/\R (Itr 0 j.toNat) H1:=rfl
theorem z2A {ta:TA} {R:It->Hp->Prop}:y5F ta σ H R=ta σ H fun vs H1=>∃i j:Int,vs=[.int i,.int j]/\(-(2^62)<=i/\i<2^62/\-(2^62)<=j/\j<2^62)/\R (Itr i (j-i).toNat) H1:=rfl
theorem z2D {K:PySem.W.Frag} {tl:TE} {R:It->Hp->Prop}:y5H K tl σ H R=tl σ H fun x H1=>∃a,x=.ref a/\(∃xs,SqL K H1 a xs)/\R (Itl K a) H1:=rfl
theorem z5F {K:PySem.W.Frag} {tl:TE} {R:It->Hp->Prop}:y5r K tl σ H R=tl σ H fun x H1=>∃a,x=.ref a/\(∃xs,SqT K H1 a xs)/\R (Itt K a) H1:=rfl
noncomputable def kC (J:It) (g:TG) (tt:TT) (te:TE) (own:List Str) (fr:List Nat) (σ:St) (H1:Hp) (Q:VK):Prop:=∀D,H1 D=none->∃W:Nat->Nat->St->Hp->Prop,(∃m,W 0 m (st0 own fr σ) (upd H1 D (.lst [])))/\∀i m σc H,W i m σc H->
 (J.stop i H/\Q (.ref D) H)∨(J.go i H/\∃N:St->Hp->Prop,(∀σ' H',N σ' H'->∃m',m'<m/\W (i+1) m' σ' H')/\∀x H',J.yld i H x H'->g x σc H' fun σ2 H2=>tt σ2 H2 fun b H3=>
  if b=true then te σ2 H3 fun y H4=>∃ys,H4 D=some (.lst ys)/\ys.length<sizeLine/\N σ2 (upd H4 D (.lst (ys++[y]))) else N σ2 H3)
theorem z1S {wi:TI} {g:TG} {tt:TT} {te:TE} {own:List Str} {fr:List Nat}:y0l wi g tt te own fr σ H Q=wi σ H fun J H1=>kC J g tt te own fr σ H1 Q:=rfl
noncomputable def qR (Sv:St->Prop) (Pv:Addr->Nat->List V->Hp->Prop) (D:Addr) (i:Nat) (σ:St) (H:Hp):Prop:=Sv σ/\∃ys,H D=some (.lst ys)/\ys.length<=i/\Pv D i ys H
noncomputable def CompP (Sv:St->Prop) (Pv:Addr->Nat->List V->Hp->Prop) (D:Addr) (i:Nat) (σ2:St) (y:V) (H4:Hp):Prop:=∃ys,H4 D=some (.lst ys)/\ys.length<sizeLine/\qR Sv Pv D (i+1) σ2 (upd H4 D (.lst (ys++[y])))
theorem CompP.mk {Sv:St->Prop} {Pv:Addr->Nat->List V->Hp->Prop} {D:Addr} {i:Nat} {σ2:St} {y:V} {H4:Hp} {ys:List V} (h:H4 D=some (.lst ys)) (hl:ys.length<=i) (hi:i<sizeLine) (hS:Sv σ2) (hP:Pv D (i+1) (ys++[y]) (upd H4 D (.lst (ys++[y])))) :
  CompP Sv Pv D i σ2 y H4:=⟨ys,h,Nat.lt_of_le_of_lt hl hi,hS,_,zH,by simp;omega,hP⟩
theorem yL {K:PySem.W.Frag} {a:Addr} {xs:List V} {g:TG} {tt:TT} {te:TE} {own:List Str} {fr:List Nat} (Sv:St->Prop) (Pv:Addr->Nat->List V->Hp->Prop) (hS:Sv (st0 own fr σ))
  (h0:∀D,H D=none->Pv D 0 [] (upd H D (.lst []))) (hl:∀D i ys H',H' D=some (.lst ys)->Pv D i ys H'->SqL K H' a xs)
  (hs:∀D i x ys σ H',xs[i]?=some x->i<xs.length->Sv σ->H' D=some (.lst ys)->ys.length<=i->Pv D i ys H'->g x σ H' fun σ2 H2=>tt σ2 H2 fun b H3=>if b=true then te σ2 H3 fun y H4=>CompP Sv Pv D i σ2 y H4 else qR Sv Pv D (i+1) σ2 H3)
  (hd:∀D ys H',H' D=some (.lst ys)->Pv D xs.length ys H'->Q (.ref D) H'):kC (Itl K a) g tt te own fr σ H Q:=by
 intro D hD;refine⟨fun i m σ H=>m=xs.length-i/\i<=xs.length/\qR Sv Pv D i σ H,⟨_,rfl,Nat.zero_le _,hS,[],zH,Nat.le_refl _,h0 D hD⟩,?_⟩;rintro i m σ1 H1 ⟨rfl,hi,hs1,ys,hy,hy2,p⟩;have q:=hl D i ys H1 hy p;by_cases hlt:i<xs.length
 ·refine .inr ⟨⟨xs,xs[i],q,by simp [hlt]⟩,qR Sv Pv D (i+1),fun σ' H' p'=>⟨xs.length-(i+1),by omega,rfl,hlt,p'⟩,fun x H' y=>?_⟩;obtain⟨e,y⟩:=y;subst e;exact hs D i x ys σ1 _ (y xs q) hlt hs1 hy hy2 p
 ·have e:i=xs.length:=by omega
  subst e;exact .inl ⟨⟨xs,q,Nat.le_refl _⟩,hd D ys H1 hy p⟩
theorem qz {lo:Int} {n:Nat} {g:TG} {tt:TT} {te:TE} {own:List Str} {fr:List Nat} (Sv:St->Prop) (Pv:Addr->Nat->List V->Hp->Prop) (hS:Sv (st0 own fr σ))
  (h0:∀D,H D=none->Pv D 0 [] (upd H D (.lst [])))
  (hs:∀D i ys σ H',i<n->Sv σ->H' D=some (.lst ys)->ys.length<=i->Pv D i ys H'->g (.int (lo+i)) σ H' fun σ2 H2=>tt σ2 H2 fun b H3=>if b=true then te σ2 H3 fun y H4=>CompP Sv Pv D i σ2 y H4 else qR Sv Pv D (i+1) σ2 H3)
  (hd:∀D ys H',H' D=some (.lst ys)->Pv D n ys H'->Q (.ref D) H'):kC (Itr lo n) g tt te own fr σ H Q:=by
 intro D hD;refine⟨fun i m σ H=>m=n-i/\i<=n/\qR Sv Pv D i σ H,⟨_,rfl,Nat.zero_le _,hS,[],zH,Nat.le_refl _,h0 D hD⟩,?_⟩;rintro i m σ1 H1 ⟨rfl,hi,hs1,ys,hy,hy2,p⟩;by_cases hlt:i<n
 ·refine .inr ⟨hlt,qR Sv Pv D (i+1),fun σ' H' p'=>⟨n-(i+1),by omega,rfl,hlt,p'⟩,fun x H' y=>?_⟩;obtain⟨e,y⟩:=y;subst e y;exact hs D i ys σ1 _ hlt hs1 hy hy2 p
 ·have e:i=n:=by omega
  subst e;exact .inl ⟨Nat.le_refl _,hd D ys H1 hy p⟩
noncomputable abbrev IL (zs:List Int):HO:=.lst (zs.map V.int)
theorem zf {K:PySem.W.Frag} {p:Addr} {xs:List V} {i:Int} {v:V} (h:SqL K H p xs) (e:atI xs i=some v) (q:Q v H):y4c K (.ref p) (.int i) H Q:=⟨p,xs,i,v,rfl,rfl,h,e,q⟩
theorem xg {zs:List Int} {i:Int} (h0:0<=i) (h1:i<zs.length):atI (zs.map V.int) i=some (.int (zs.getD i.toNat 0)):=by
 have hk:i.toNat<zs.length:=by omega
 have ek:i=((i.toNat:Nat):Int):=by omega
 have q:atI (zs.map V.int) ((i.toNat:Nat):Int)=some (.int (zs.getD i.toNat 0)):=zj (by rw[List.getElem?_map,List.getElem?_eq_getElem hk,List.getD_eq_getElem?_getD,List.getElem?_eq_getElem hk];rfl);rw[←ek] at q;exact q
theorem Same.write {H H':Hp} (g:Same H H') {p:Addr} (n:H p=none) (o:HO):Same H (upd H' p o):=fun b u e=>by rw[za (zV e n)];exact g b u e
theorem z2T {t:TG} {u:TGs} {v:V} {r:List V} {R:St->Hp->Prop}:z3n t u (v::r) σ H R=t v σ H fun σ' H'=>u r σ' H' R:=propext ⟨fun⟨a,b,e,q⟩=>by cases e;exact q,fun q=>⟨v,r,rfl,q⟩⟩
theorem z5Y {R:St->Hp->Prop}:y5a [] σ H R=R σ H:=propext ⟨fun⟨_,q⟩=>q,fun q=>⟨rfl,q⟩⟩
theorem y2r {t:TE} {R:Bool->Hp->Prop}:tB t σ H R=t σ H fun x H1=>∃c,x=.bl c/\R c H1:=rfl
theorem zJ {H:Hp} {p:Addr} (h:H p=none) (o:HO):Same H (upd H p o):=fun b u q=>by rw[za (zV q h)];exact q
end
noncomputable def Itv (K:PySem.W.Frag) (a:Addr) (n:Nat):It:=
 ⟨fun i H=>i<n/\∃xs,SqL K H a xs/\xs.length=n,fun i H x H'=>H'=H/\∀xs,SqL K H a xs->xs[n-1-i]?=some x,fun i _=>i=n⟩
theorem y0f {P:Program} {w:World} {K:PySem.W.Frag} {tg:Expr} (a it:Addr) (n:Nat):Turn P w K tg (Itv K a n) [it] it (fun i h=>h.IsRevIter it a ((n:Int)-1-(i:Int))) where
 mem:=by simp
 obj:=fun i h st b hb=>by
  have e:b=it:=by simpa using hb
  subst e;obtain⟨o,e,c,d⟩:=st;exact⟨o,e,fun v z=>by rw[d] at z;cases z⟩
 keep:=fun i h h' st k=>st.at fun o e=>k it (by simp) o e
 item:=by
  intro X hP hw hK hc i pins s σ H E I hf st hg;subst hP hw hK;obtain⟨hi,xs,hq,hn⟩:=hg;obtain⟨its,rv,p,hz⟩:=I.list hq;have hx:xs[n-1-i]?=some (xs[n-1-i]'(by omega)):=List.getElem?_eq_getElem (by omega);obtain⟨u,hu,ru⟩:=rv.get hx;obtain⟨f0,f1,f2,f3,f4,f5⟩:=hf it (by simp);have e1:(n:Int)-1-(i:Int)=((n-1-i:Nat):Int):=by omega
  rw[e1] at st;refine wpAny_pyNext_rev_item st p.isList (x:=u) (by simpa using hu) fun h' st' sb=>?_;have e2:((n-1-i:Nat):Int)-1=(n:Int)-1-((i+1:Nat):Int):=by omega
  rw[e2] at st';have I1:Inv X pins σ H { s with heap:=h' }:=I.turned (t':=s.toks) (fun b o hb e=>(sb.2 b hb).trans e) f0 f1 f3 f4 f5;obtain⟨o,e,c,d⟩:=id st';exact⟨u,rfl,z5W (s:={ s with heap:=h' }) e c d (by decide) ⟨_,H,I1,ru,⟨rfl,fun ys hy=>by rw[I.list_inj hy hq];exact hx⟩,st',fun b hb=>(hf b hb).1⟩⟩
 done:=by
  intro X hP hw hK hc i pins s σ H E I hf st hg;subst hP hw hK;obtain⟨f0,f1,f2,f3,f4,f5⟩:=hf it (by simp);have e1:(n:Int)-1-(i:Int) = -1:=by have:i=n:=hg;omega
  rw[e1] at st;exact wpAny_pyNext_rev_end (I.ok.hd hc) st fun h' eb=>⟨rfl,I.turned (t':=s.toks) (fun b o hb e=>eb b o hb e) f0 f1 f3 f4 f5⟩
 self:=fun _ _ _ _ _ st h=>wpAny_pyIter_revIter st h
noncomputable def y6X (K:PySem.W.Frag) (ta:TE):TI:=fun σ H R=>ta σ H fun x H1=>∃a xs,x=.ref a/\SqL K H1 a xs/\R (Itv K a xs.length) H1
section
variable {X:Cx} {tg:Expr}
theorem y4k {l:Expr} {tl:TE} {p pos:Pos} (hg:Gl X "reversed") (hm:X.mg "reversed" = none) (hl:PE X l tl) (hs:starEach [l] X.env=[(false,eval l X.env)]:=by rfl):PI X tg (.Call (.Name "reversed" p) [l] [] pos) (y6X X.K tl):=by
 intro pins s σ H R I h;refine Call_ (jr I hg hm PyProof.Rows.boot_reversed (PyProof.Rows.callWith_type1 ?_ hs rfl));refine thn ((zB hl zD hs) pos pins s σ H (fun vs H1=>∃(a:Addr) (xs:List V),vs=[V.ref a]/\SqL X.K H1 a xs/\R (Itv X.K a xs.length) H1) I ?_) fun us s1 ⟨vs,H1,I1,r,a,xs,e,hq,q⟩=>?_
 ·have e:(fun (x:V) (H1:Hp)=>∃(a:Addr) (xs:List V),[x]=[V.ref a]/\SqL X.K H1 a xs/\R (Itv X.K a xs.length) H1)=fun x H1=>∃(a:Addr) (xs:List V),x=.ref a/\SqL X.K H1 a xs/\R (Itv X.K a xs.length) H1:=by
   funext x H1;simp only [List.cons.injEq,and_true]
  show tl σ H fun x H1=>∃(a:Addr) (xs:List V),[x]=[V.ref a]/\SqL X.K H1 a xs/\R (Itv X.K a xs.length) H1;rw[e];exact h
 subst e;obtain⟨u,rfl,r1⟩:=Vals.one r;cases r1;obtain⟨its,rv,pl,hz⟩:=I1.list hq;refine call_reversed_list pl.isList ?_;have I2:Inv X pins σ H1 { s1 with heap:=s1.heap.push (revObj a ((its.toArray.size:Int)-1)) }:=I1.kept (t':=s1.toks) fun b o e=>Heap.get?_push_of_some _ e;have hl2:=rv.length;have st:(s1.heap.push (revObj a ((its.toArray.size:Int)-1))).IsRevIter s1.heap.objs.size a ((xs.length:Int)-1-((0:Nat):Int)):=⟨_,Heap.get?_push_size _ rfl,rfl,by
  show Data.fields #[.ref a,rawInt ((its.toArray.size:Int)-1)]=_;rw[List.size_toArray,←hl2];simp⟩
 refine wpAny_pyIter_revIter (s:={ s1 with heap:=s1.heap.push (revObj a ((its.toArray.size:Int)-1)) }) st ?_;refine⟨s1.heap.objs.size,[s1.heap.objs.size],_,_,H1,rfl,I2,y0f a _ xs.length,st,fun b hb=>?_,q⟩;have e:b=s1.heap.objs.size:=by simpa using hb
 subst e;exact I1.fpOk (Nat.le_refl _) (I1.hok.fresh (Nat.le_refl _))
end
theorem y1s {K:PySem.W.Frag} {a:Addr} {xs:List V} {g:TG} {tb:TS} {D:Ends} {σ:St} {H:Hp} (Pv:Nat->St->Hp->Prop) (h0:Pv 0 σ H) (hl:∀i σ H,i<=xs.length->Pv i σ H->SqL K H a xs)
  (hs:∀i x σ H,i<xs.length->xs[xs.length-1-i]?=some x->Pv i σ H->g x σ H fun σ2 H2=>tb { D with nx:=Pv (i+1),ct:=Pv (i+1),bk:=D.nx } σ2 H2) (hd:∀σ H,Pv xs.length σ H->D.nx σ H):y2j (Itv K a xs.length) g tb D σ H:=by
 refine⟨fun i m σ H=>m=xs.length-i/\i<=xs.length/\Pv i σ H,⟨xs.length,by simp,Nat.zero_le _,h0⟩,?_⟩;rintro i m σ H ⟨rfl,hi,p⟩;have q:=hl i σ H hi p;by_cases hlt:i<xs.length
 ·refine .inr ⟨⟨hlt,xs,q,rfl⟩,Pv (i+1),fun σ' H' p'=>⟨xs.length-(i+1),by omega,rfl,hlt,p'⟩,fun x H' y=>?_⟩;obtain⟨e,y⟩:=y;subst e;exact hs i x σ _ hlt (y xs q) p
 ·have e:i=xs.length:=by omega
  subst e;exact .inl ⟨rfl,hd σ H p⟩
theorem z5H {K:PySem.W.Frag} {tl:TE} {σ:St} {H:Hp} {R:It->Hp->Prop}:y6X K tl σ H R=tl σ H fun x H1=>∃a xs,x=.ref a/\SqL K H1 a xs/\R (Itv K a xs.length) H1:=rfl
noncomputable def y6h (t:TS):TS:=fun D σ H=>∃M:St->Hp->Prop,t { D with nx:=M } σ H/\∀σ' H',M σ' H'->D.nx σ' H'
theorem yU {X:Cx} {st:Stmt} {t:TS} (h:PS X st t):PS X st (y6h t):=by
 intro pins s σ H D I hw;obtain⟨M,h1,h2⟩:=hw;refine thn (h pins s σ H _ I h1) fun f s1 q=>?_;cases f with
 | next=>obtain⟨σ',H',I',q⟩:=q;exact⟨σ',H',I',h2 σ' H' q⟩
 | ret v=>exact q
 | brk=>exact q
 | cont=>exact q
section
variable {X:Cx}
end
theorem z9V {K:PySem.W.Frag} {H:Hp} {Q:VK} {d:Int}:y4d K [.int d,.ty "int"] H Q=Q (.bl true) H:=propext ⟨fun⟨x,T,t,b,e,ty,k,q⟩=>by
  cases e;cases ty;have:PySem.W.kitOne K (.type "int") (.type "int")=some true:=rfl;rw[this] at k;cases k;exact q,fun q=>⟨_,_,_,true,rfl,.int d,rfl,q⟩⟩
theorem z9W {K:PySem.W.Frag} {H:Hp} {Q:VK} {d:Int}:y4d K [.int d,.ty "bool"] H Q=Q (.bl false) H:=propext ⟨fun⟨x,T,t,b,e,ty,k,q⟩=>by
  cases e;cases ty;have:PySem.W.kitOne K (.type "int") (.type "bool")=some false:=rfl;rw[this] at k;cases k;exact q,fun q=>⟨_,_,_,false,rfl,.int d,rfl,q⟩⟩
theorem z9U {K:PySem.W.Frag} {H:Hp} {Q:VK}:y4d K [.non,.ty "int"] H Q=Q (.bl false) H:=propext ⟨fun⟨x,T,t,b,e,ty,k,q⟩=>by
  cases e;cases ty;have:PySem.W.kitOne K (.type "NoneType") (.type "int")=some false:=rfl;rw[this] at k;cases k;exact q,fun q=>⟨_,_,_,false,rfl,.non,rfl,q⟩⟩
theorem z9X {K:PySem.W.Frag} {H:Hp} {Q:VK} {d:Bool}:y4d K [.bl d,.ty "bool"] H Q=Q (.bl true) H:=propext ⟨fun⟨x,T,t,b,e,ty,k,q⟩=>by
  cases e;cases ty;have:PySem.W.kitOne K (.type "bool") (.type "bool")=some true:=rfl;rw[this] at k;cases k;exact q,fun q=>⟨_,_,_,true,rfl,.bl d,rfl,q⟩⟩
noncomputable def y5O (ns:List Int) (lo hi:Option Int):List Int:=(ns.drop (HT.sIx ns.length 0 lo)).take (HT.sIx ns.length ns.length hi-HT.sIx ns.length 0 lo)
theorem y2D (ns:List Int) (lo hi:Option Int):y2c (ns.map V.int) lo hi=(y5O ns lo hi).map V.int:=by
 unfold y2c y5O;rw[List.length_map,List.map_take,List.map_drop]
section
variable {prog:Program} {w:World} {A:Around} {E:Value->Shared->Prop} {s:Shared}
end
noncomputable def y0k (K:PySem.W.Frag) (tl:TE):TE:=fun σ H Q=>tl σ H fun x H1=>∃a xs,x=.ref a/\SqL K H1 a xs/\∀d,H1 d=none->Q (.ref d) (upd H1 d (.lst xs.reverse))
section
variable {X:Cx}
end
theorem qZ {K:PySem.W.Frag} {tl:TE} {σ:St} {H:Hp} {Q:VK}:y0k K tl σ H Q=tl σ H fun x H1=>∃a xs,x=.ref a/\SqL K H1 a xs/\∀d,H1 d=none->Q (.ref d) (upd H1 d (.lst xs.reverse)):=rfl
mutual
inductive DD (K:PySem.W.Frag) (H:Hp):V->PyData->Prop where
 | non:DD K H .non .none
 | bl (b:Bool):DD K H (.bl b) (.bool b)
 | int (i:Int):DD K H (.int i) (.int i)
 | str (x:Str):DD K H (.str x) (.str x)
 | lst {a:Addr} {xs:List V} {ds:List PyData}:SqL K H a xs->DDs K H xs ds->DD K H (.ref a) (.list ds)
 | tup {a:Addr} {xs:List V} {ds:List PyData}:SqT K H a xs->DDs K H xs ds->DD K H (.ref a) (.tuple ds)
inductive DDs (K:PySem.W.Frag) (H:Hp):List V->List PyData->Prop where
 | nil:DDs K H [] []
 | cons {x:V} {xs:List V} {d:PyData} {ds:List PyData}:DD K H x d->DDs K H xs ds->DDs K H (x::xs) (d::ds)
end
section
variable {X:Cx} {pins:List (Addr×Obj)} {σ:St} {H:Hp} {s:Shared}
end
theorem Same.seqT {K:PySem.W.Frag} {H H':Hp} {a:Addr} {xs:List V} (e:Same H H') (h:SqT K H a xs):SqT K H' a xs:=by
 rcases h with (h|⟨o,h⟩)|h
 ·exact .inl (.inl (e _ _ h))
 ·exact .inl (.inr ⟨o,e _ _ h⟩)
 ·exact .inr h
mutual
theorem DD.mono {K:PySem.W.Frag} {H H':Hp} (g:Same H H'):∀ {v:V} {d:PyData},DD K H v d->DD K H' v d
 | _,_,.non=>.non
 | _,_,.bl b=>.bl b
 | _,_,.int i=>.int i
 | _,_,.str x=>.str x
 | _,_,.lst h hs=>.lst (g.seq h) (DDs.mono g hs)
 | _,_,.tup h hs=>.tup (Same.seqT g h) (DDs.mono g hs)
theorem DDs.mono {K:PySem.W.Frag} {H H':Hp} (g:Same H H'):∀ {vs:List V} {ds:List PyData},DDs K H vs ds->DDs K H' vs ds
 | _,_,.nil=>.nil
 | _,_,.cons h hs=>.cons (DD.mono g h) (DDs.mono g hs)
end
section
variable {X:Cx}
end
theorem z9K (a v:Value):argsOk "min" ⟨[a],[(Str.ofString "default",v)]⟩:=by unfold argsOk;kernel_rfl
section
variable {prog:Program} {w:World} {B:Around} {it:Addr} {fp wr:List Addr} {GG:Array GenState->Array GenState->Prop} {n:Nat} {PV:Nat->Value->Prop} {SV:Nat->Shared->Prop} {RR:Result->Shared->Prop}
theorem z9I {dv:Value} (WS:WalksS prog w B.in1 it fp wr GG n PV SV) (bt:Nat->Nat->Bool) (hcm:CmpOf prog w B.in1 .Lt PV bt) (Z:Addr) (hZ:Z∉fp) :
  ∀(k j:Nat) (s:Shared) (top:Value) (c:Nat),n-(j+1)=k->j+1<=n->SV (j+1) s->PV (argBest bt j) top->
  s.heap.get? Z=some { cls:=.type "list",dict:=none,data:=.seq #[top,top] c,slots:=#[] }->
  (∀v s',PV (argBest bt (n-1)) v->Moved (Z::wr) GG s s'->RR (.ok (.ret v)) s')->codeAny (model prog w) B (.builtin "min.loop" ⟨[.ref it,.none,.ref Z],[(Str.ofString "default",dv)]⟩) RR s:=by
 have zw:Z∉wr:=fun z=>hZ (WS.sub _ z);have sub:∀b∈wr,b∈Z::wr:=fun b z=>List.mem_cons_of_mem _ z;have nm:(toString "min" ++ toString ".loop" : String) = "min.loop" :=by decide
 have nz:∀ {b:Addr},b∉Z::wr->Z≠b:=fun z e=>z (by rw[e];exact List.mem_cons_self);intro k
 induction k with
 | zero=>
  intro j s top c hk hj sv pt hz fin;have jn:j+1=n:=by omega
  refine codeAny_builtin PySem.F.entry_min_loop ?_;rw[Around.under_plainId PySem.F.plain_min_loop _];show wpAny (model prog w) B.in1 (seqItems? (.ref Z) >>= _) _ _ s;refine wpAny_bind (wpAny_seqItems hz rfl ?_);show wpAny (model prog w) B.in1 (tryCatch (pyNext (.ref it)) _ >>= _) _ _ s;refine wpAny_bind (wpAny_tryCatch (WS.done s _ _ (jn▸sv) fun s' mv=>?_));have hz':=mv.heap Z _ zw hz;show wpAny (model prog w) B.in1 (updateSeq Z (fun _=>#[]) >>= _) _ _ _;refine wpAny_bind ?_;refine wpAny_updateSeq hz' rfl (wpAny_bind (wpAny_letGo (wpAny_pure ?_)));refine fin top _ (by rw[←jn];exact pt) ?_;exact (mv.mono sub).then_heap (tk:=s'.toks) (Nat.le_refl _) fun b o z e=>(Heap.get?_update_other _ _ (nz z)).trans e
 | succ k ih=>
  intro j s top c hk hj sv pt hz fin;have jn:j+1<n:=by omega
  refine codeAny_builtin PySem.F.entry_min_loop ?_;rw[Around.under_plainId PySem.F.plain_min_loop _];show wpAny (model prog w) B.in1 (seqItems? (.ref Z) >>= _) _ _ s;refine wpAny_bind (wpAny_seqItems hz rfl ?_);show wpAny (model prog w) B.in1 (tryCatch (pyNext (.ref it)) _ >>= _) _ _ s;refine wpAny_bind (wpAny_tryCatch (WS.item (j+1) s _ _ jn sv fun v s' pv sv' mv=>?_));have hz':=mv.heap Z _ zw hz;show wpAny (model prog w) B.in1 (tryCatch (holding [v,v] (richCompare .Lt v top >>= _)) _ >>= _) _ _ _;refine wpAny_bind (wpAny_tryCatch (wpAny_holding (wpAny_bind (hcm (j+1) (argBest bt j) v top _ _ _ pv pt ?_))));refine wpAny_bind (wpAny_holding (wpAny_truthy_bool ?_));refine wpAny_bind (wpAny_letGo (wpAny_pure ?_));cases eb:bt (j+1) (argBest bt j) with
  | true=>
   simp only [if_true];refine wpAny_bind ?_;refine wpAny_updateSeq hz' rfl (wpAny_bind (wpAny_letGo ?_));rw[nm];refine wpAny_pure ⟨plainId_quiet PySem.F.plain_min_loop _,ih (j+1) _ v _ (by omega) jn ?_ (by simp only [argBest,eb,if_true];exact pv) (Heap.get?_update_self _ hz' rfl) fun v2 s2 p2 m2=>?_⟩
   ·exact WS.frame _ s' _ s'.toks sv' (Nat.le_refl _) fun b z o e=>(Heap.get?_update_other _ _ (fun q:Z=b=>hZ (by rw[q];exact z))).trans e
   ·refine fin v2 s2 p2 (Moved.trans WS.gtrans ?_ m2);exact (mv.mono sub).then_heap (Nat.le_refl _) fun b o z e=>(Heap.get?_update_other _ _ (nz z)).trans e
  | false=>
   simp only [Bool.false_eq_true,if_false];refine wpAny_bind (wpAny_letGo ?_);rw[nm];refine wpAny_pure ⟨plainId_quiet PySem.F.plain_min_loop _,ih (j+1) _ top c (by omega) jn sv' (by simp only [argBest,eb,Bool.false_eq_true,if_false];exact pt) hz' fun v2 s2 p2 m2=>?_⟩;exact fin v2 s2 p2 (Moved.trans WS.gtrans (mv.mono sub) m2)
theorem z7P {dv:Value} (WS:WalksS prog w B.in1 it fp wr GG n PV SV) (bt:Nat->Nat->Bool) (hcm:CmpOf prog w B.in1 .Lt PV bt) (Z:Addr) (hZ:Z∉fp) {s:Shared} {c:Nat} (sv:SV 0 s)
  (hz:s.heap.get? Z=some { cls:=.type "list",dict:=none,data:=.seq #[] c,slots:=#[] })
  (none:n=0->∀s',Moved (Z::wr) GG s s'->RR (.ok (.ret dv)) s') (fin:0<n->∀v s',PV (argBest bt (n-1)) v->Moved (Z::wr) GG s s'->RR (.ok (.ret v)) s') :
  codeAny (model prog w) B (.builtin "min.loop" ⟨[.ref it,.none,.ref Z],[(Str.ofString "default",dv)]⟩) RR s:=by
 have zw:Z∉wr:=fun z=>hZ (WS.sub _ z);have sub:∀b∈wr,b∈Z::wr:=fun b z=>List.mem_cons_of_mem _ z;have nm:(toString "min" ++ toString ".loop" : String) = "min.loop" :=by decide
 have nz:∀ {b:Addr},b∉Z::wr->Z≠b:=fun z e=>z (by rw[e];exact List.mem_cons_self);refine codeAny_builtin PySem.F.entry_min_loop ?_;rw[Around.under_plainId PySem.F.plain_min_loop _];show wpAny (model prog w) B.in1 (seqItems? (.ref Z) >>= _) _ _ s;refine wpAny_bind (wpAny_seqItems hz rfl ?_);show wpAny (model prog w) B.in1 (tryCatch (pyNext (.ref it)) _ >>= _) _ _ s;rcases Nat.eq_zero_or_pos n with z0|zp
 ·refine wpAny_bind (wpAny_tryCatch (WS.done s _ _ (by rw[z0];exact sv) fun s' mv=>?_));refine wpAny_bind (wpAny_rule ?_);exact wpAny_pure (none z0 s' (mv.mono sub))
 ·refine wpAny_bind (wpAny_tryCatch (WS.item 0 s _ _ zp sv fun v s' pv sv' mv=>?_));have hz':=mv.heap Z _ zw hz;show wpAny (model prog w) B.in1 (updateSeq Z (fun _=>#[v,v]) >>= _) _ _ _;refine wpAny_bind ?_;refine wpAny_updateSeq hz' rfl ?_;rw[nm];refine wpAny_pure ⟨plainId_quiet PySem.F.plain_min_loop _,z9I WS bt hcm Z hZ _ 0 _ v _ rfl zp ?_ pv (Heap.get?_update_self _ hz' rfl) fun v2 s2 p2 m2=>?_⟩
  ·exact WS.frame _ s' _ s'.toks sv' (Nat.le_refl _) fun b z o e=>(Heap.get?_update_other _ _ (fun q:Z=b=>hZ (by rw[q];exact z))).trans e
  ·refine fin zp v2 s2 p2 (Moved.trans WS.gtrans ?_ m2);exact (mv.mono sub).then_heap (Nat.le_refl _) fun b o z e=>(Heap.get?_update_other _ _ (nz z)).trans e
theorem z9J {s:Shared} {E:Value->Shared->Prop} {Q:Value->Shared->Prop} {l:Addr} {xs:Array (Int×Tok)} {dv:Value} (hh:B.handled=none) (hl:s.heap.IsList l (intItems xs))
  (h0:xs.size=0->∀h' tk,(∀b o,s.heap.get? b=some o->h'.get? b=some o)->Q dv { s with heap:=h',toks:=tk })
  (h1:0<xs.size->∀v h' tk,(intItems xs)[argBest (fun i j=>decide (numAt xs i<numAt xs j)) (xs.size-1)]?=some v->(∀b o,s.heap.get? b=some o->h'.get? b=some o)->Q v { s with heap:=h',toks:=tk }) :
  wpAny (model prog w) B (call (.builtin "min") [.ref l] [(Str.ofString "default",dv)]) Q E s:=by
 have nm:(toString "min" ++ toString ".loop" : String) = "min.loop" :=by decide
 refine PyProof.Rows.kmb_tree PySem.F.kind_min PySem.F.plain_min PySem.F.entry_min (z9K _ _) ?_;show wpAny (model prog w) B.in1 (Builtin.Builtins.bindParams "min" ["key", "default"] 0 ⟨[],[(Str.ofString "default",dv)]⟩ >>= _) _ _ s;refine wpAny_bind (wpAny_of_eq (show Builtin.Builtins.bindParams "min" ["key", "default"] 0 ⟨[],[(Str.ofString "default",dv)]⟩=pure [none,some dv] from rfl) ?_);refine wpAny_bind (wpAny_pure ?_);refine wpAny_bind (iter_intList hl fun s2 e st hfp ne=>?_);refine wpAny_bind (wpAny_newObj_type ?_);have WS:=(Walks.list (prog:=prog) (w:=w) (A:=B.in1) hh s.heap.objs.size l ne (intItems xs)).toS;have hZ:s2.heap.objs.size∉[s.heap.objs.size,l]:=fun z=>Nat.lt_irrefl _ (hfp _ z);have sz:(intItems xs).size=xs.size:=by simp [intItems]
 rw[nm];subst e;have keep:∀ {s3:Shared} {s4:Shared} {wr:List Addr} {GG:Array GenState->Array GenState->Prop},Moved wr GG s3 s4->True:=fun _=>trivial;refine wpAny_pure ⟨plainId_quiet PySem.F.plain_min_loop _,z7P WS _ (CmpOf.ints_lt (numAt xs) fun _ _=>intItems_at) _ hZ (c:=0) (WS.frame 0 _ _ _ st (Nat.le_refl _) fun b _ o e=>Heap.get?_push_of_some _ e) (Heap.get?_push_size _ rfl) (fun z s' mv=>?_) (fun z v s' pv mv=>?_)⟩
 ·rw[Moved.eq_with mv];refine h0 (by omega) s'.heap s'.toks fun b o e=>?_;have lt:=Heap.lt_size e;refine mv.heap b o (fun q=>?_) (Heap.get?_push_of_some _ (Heap.get?_push_of_some _ e));rcases List.mem_cons.mp q with q|q
  ·subst q;exact absurd lt (by show ¬(s.heap.push _).objs.size<s.heap.objs.size;rw[Heap.size_push];exact Nat.not_lt.mpr (Nat.le_succ _))
  ·exact absurd lt (by rw[List.mem_singleton.mp q];exact Nat.lt_irrefl _)
 ·rw[Moved.eq_with mv];rw[sz] at pv z;refine h1 z v s'.heap s'.toks pv fun b o e=>?_;have lt:=Heap.lt_size e;refine mv.heap b o (fun q=>?_) (Heap.get?_push_of_some _ (Heap.get?_push_of_some _ e));rcases List.mem_cons.mp q with q|q
  ·subst q;exact absurd lt (by show ¬(s.heap.push _).objs.size<s.heap.objs.size;rw[Heap.size_push];exact Nat.not_lt.mpr (Nat.le_succ _))
  ·exact absurd lt (by rw[List.mem_singleton.mp q];exact Nat.lt_irrefl _)
end
noncomputable def y4R (K:PySem.W.Frag) (tl td:TE):TE:=fun σ H Q=>tl σ H fun x H1=>td σ H1 fun d H2=>∃(a:Addr) (ns:List Int),x=.ref a/\SqL K H2 a (ns.map V.int)/\(ns=[]->Q d H2)/\∀M,M∈ns->(∀z∈ns,M<=z)->Q (.int M) H2
section
variable {X:Cx}
theorem y3P {l e:Expr} {tl td:TE} {p pos kp:Pos} (hc:X.calm=true) (hg:Gl X "min") (hm:X.mg "min" = none) (hl:PE X l tl) (he:PE X e td) (hs:starEach [l] X.env=[(false,eval l X.env)]:=by rfl) :
  PE X (.Call (.Name "min" p) [l] [⟨some (Str.ofString "default"),e,kp⟩] pos) (y4R X.K tl td):=by
 intro pins s σ H Q I h;refine wpAny_Call_Name_kw (jr I hg hm (u:=.builtin "min") (by decide +kernel) ?_);refine PyProof.Rows.callWith_kw (env:=X.env) (e:=l) (rest:=[]) (kws:=[⟨some (Str.ofString "default"),e,kp⟩]) ?_ (he:=by rw[hs];rfl) (hplain:=by rw[hs];rfl);refine thn ((zB hl zD hs) pos pins s σ H (fun vs H1=>∃x,vs=[x]/\td σ H1 fun d H2=>∃(a:Addr) (ns:List Int),x=.ref a/\SqL X.K H2 a (ns.map V.int)/\(ns=[]->Q d H2)/\∀M,M∈ns->(∀z∈ns,M<=z)->Q (.int M) H2) I ?_) fun us s1 ⟨vs,H1,I1,r,x,e1,q⟩=>?_
 ·show tl σ H fun x H1=>∃y,[x]=[y]/\_;have e:(fun (x:V) (H1:Hp)=>∃y,[x]=[y]/\td σ H1 fun d H2=>∃(a:Addr) (ns:List Int),y=.ref a/\SqL X.K H2 a (ns.map V.int)/\(ns=[]->Q d H2)/\∀M,M∈ns->(∀z∈ns,M<=z)->Q (.int M) H2) =
    fun x H1=>td σ H1 fun d H2=>∃(a:Addr) (ns:List Int),x=.ref a/\SqL X.K H2 a (ns.map V.int)/\(ns=[]->Q d H2)/\∀M,M∈ns->(∀z∈ns,M<=z)->Q (.int M) H2:=by
   funext x H1;refine propext ⟨fun⟨y,e,q⟩=>?_,fun q=>⟨x,rfl,q⟩⟩;cases e;exact q
  rw[e];exact h
 subst e1;obtain⟨u,rfl,r1⟩:=Vals.one r;refine thn ((y3K he y4j) pos pins s1 σ H1 (fun ws H2=>∃d,ws=[d]/\∃(a:Addr) (ns:List Int),x=.ref a/\SqL X.K H2 a (ns.map V.int)/\(ns=[]->Q d H2)/\∀M,M∈ns->(∀z∈ns,M<=z)->Q (.int M) H2) I1 ?_) fun ws s2 ⟨zs,H2,I2,rz,d,ed,a,ns,ea,hq,q0,q1⟩=>?_
 ·show td σ H1 fun d H2=>∃d',[d]=[d']/\_;have e:(fun (d:V) (H2:Hp)=>∃d',[d]=[d']/\∃(a:Addr) (ns:List Int),x=.ref a/\SqL X.K H2 a (ns.map V.int)/\(ns=[]->Q d' H2)/\∀M,M∈ns->(∀z∈ns,M<=z)->Q (.int M) H2) =
    fun d H2=>∃(a:Addr) (ns:List Int),x=.ref a/\SqL X.K H2 a (ns.map V.int)/\(ns=[]->Q d H2)/\∀M,M∈ns->(∀z∈ns,M<=z)->Q (.int M) H2:=by
   funext x H1;refine propext ⟨fun⟨y,e,q⟩=>?_,fun q=>⟨x,rfl,q⟩⟩;cases e;exact q
  rw[e];exact q
 subst ed ea;obtain⟨dv,rfl,rd⟩:=Vals.one rz;cases r1;obtain⟨its,rv,pl,hz⟩:=I2.list hq;have hi:IntsAre its ns:=wE rv;obtain⟨xs,ex⟩:=hi.allInts.items;have hns:ns=xs.toList.map (·.1):=by rw[←hi.numsOf,←nums_intItems,←ex]
 have hsz:xs.size=ns.length:=by rw[hns,List.length_map,Array.length_toList]
 have hl:=pl.isList;rw[ex] at hl;show wpAny (model X.prog X.w) X.A (call (.builtin "min") [.ref a] [(Str.ofString "default",dv)]) _ _ _;refine z9J (I.ok.hd hc) hl (fun z h' tk k=>?_) (fun z v h' tk hv k=>?_)
 ·exact⟨d,H2,I2.kept k,rd,q0 (List.eq_nil_of_length_eq_zero (by omega))⟩
 ·obtain⟨t,rfl⟩:=intItems_at hv;obtain⟨b1,b2⟩:=argBest_lt (numAt xs) (xs.size-1);refine⟨.int _,H2,I2.kept k,⟨t,rfl⟩,q1 _ ?_ fun y hy=>?_⟩
  ·rw[hns,numAt_eq];exact getD_mem (by rw[List.length_map,Array.length_toList];omega)
  ·rw[hns] at hy;obtain⟨j,hj,rfl⟩:=mem_getD hy;rw[List.length_map,Array.length_toList] at hj;rw[←numAt_eq];exact b2 j (by omega)
end
theorem z1K {K:PySem.W.Frag} {tl td:TE} {σ:St} {H:Hp} {Q:VK}:y4R K tl td σ H Q=tl σ H fun x H1=>td σ H1 fun d H2=>∃(a:Addr) (ns:List Int),x=.ref a/\SqL K H2 a (ns.map V.int)/\(ns=[]->Q d H2)/\∀M,M∈ns->(∀z∈ns,M<=z)->Q (.int M) H2:=rfl
section
variable {prog:Program} {w:World} {B:Around} {it:Addr} {fp wr:List Addr} {GG:Array GenState->Array GenState->Prop} {n:Nat} {PV:Nat->Value->Prop} {SV:Nat->Shared->Prop} {RR:Result->Shared->Prop}
end
noncomputable def y5j (K:PySem.W.Frag) (tl td:TE):TE:=fun σ H Q=>tl σ H fun x H1=>td σ H1 fun d H2=>∃(a:Addr) (ns:List Int),x=.ref a/\SqL K H2 a (ns.map V.int)/\(ns=[]->Q d H2)/\∀M,M∈ns->(∀z∈ns,z<=M)->Q (.int M) H2
section
variable {X:Cx}
end
theorem z1M {K:PySem.W.Frag} {tl td:TE} {σ:St} {H:Hp} {Q:VK}:y5j K tl td σ H Q=tl σ H fun x H1=>td σ H1 fun d H2=>∃(a:Addr) (ns:List Int),x=.ref a/\SqL K H2 a (ns.map V.int)/\(ns=[]->Q d H2)/\∀M,M∈ns->(∀z∈ns,z<=M)->Q (.int M) H2:=rfl
noncomputable def CapOk (X:Cx) (scope:Scope):List Str->List Nat->List (Str×Addr)->Prop
 | [],[],[]=>True
 | y::ys,j::js,(n,a)::r=>n=y/\X.N[j]?=some y/\X.env.scope.names.lookup y=some .cell/\X.env.cells.lookup y=some a/\scope.names.lookup y=some .free/\CapOk X scope ys js r
 | _,_,_=>False
theorem CapOk.inn {X:Cx} {scope:Scope}:∀ {ys:List Str} {js:List Nat} {cl:List (Str×Addr)},CapOk X scope ys js cl->∀y c,cl.lookup y=some c->X.env.cells.lookup y=some c
 | [],[],[],_,y,c,e=>nomatch e
 | y::ys,j::js,(n,a)::r,⟨hn,_,_,h,_,t⟩,z,c,e=>by
  subst hn;rw[List.lookup_cons] at e;cases q:z == n with
  | true=>
   rw[q] at e;have:z=n:=by simpa using q
   subst this;exact h.trans e
  | false=>
   rw[q] at e;exact CapOk.inn t z c e
theorem CapOk.mem {X:Cx} {scope:Scope}:∀ {ys:List Str} {js:List Nat} {cl:List (Str×Addr)},CapOk X scope ys js cl->∀y∈ys,∃c,cl.lookup y=some c
 | [],[],[],_,y,h=>nomatch h
 | y::ys,j::js,(n,a)::r,⟨hn,_,_,_,_,t⟩,z,e=>by
  subst hn;rw[List.lookup_cons];cases q:z == n with
  | true=>exact⟨_,rfl⟩
  | false=>
   rcases List.mem_cons.mp e with e|e
   ·subst e;simp at q
   ·exact CapOk.mem t z e
theorem CapOk.len {X:Cx} {scope:Scope}:∀ {ys:List Str} {js:List Nat} {cl:List (Str×Addr)},CapOk X scope ys js cl->ys.length=js.length
 | [],[],[],_=>rfl
 | _::_,_::_,(_,_)::_,⟨_,_,_,_,_,t⟩=>congrArg (· + 1) (CapOk.len t)
theorem CapOk.at {X:Cx} {scope:Scope}:∀ {ys:List Str} {js:List Nat} {cl:List (Str×Addr)},CapOk X scope ys js cl->∀(k:Nat) (y:Str),ys[k]?=some y->
  ∃j,js[k]?=some j/\X.N[j]?=some y/\X.env.scope.names.lookup y=some .cell/\scope.names.lookup y=some .free
 | [],[],[],_,k,y,e=>by simp at e
 | y::ys,j::js,(n,a)::r,⟨hn,h1,h2,_,h3,t⟩,k,z,e=>by
  subst hn;cases k with
  | zero=>cases e;exact⟨j,rfl,h1,h2,h3⟩
  | succ k=>exact CapOk.at t k z e
theorem xP {α:Type}:∀ {l:List (Str×α)} {y:Str} {k:α},l.lookup y=some k->(y,k)∈l
  | [],_,_,e=>nomatch e
  | (n,q)::r,y,k,e=>by
    rw[List.lookup_cons] at e;cases hy:y == n with
    | true=>
      rw[hy] at e;have:y=n:=by simpa using hy
      subst this;cases e;exact .head _
    | false=>
      rw[hy] at e;exact .tail _ (xP e)
theorem wV {env:Env}:∀ {names:List (Str×NameKind)} {x:Str},names.lookup x=some .free->
    (names.map fun (n,k)=>if (k == NameKind.free && env.scope.kind == .function && env.kindOf n == some .cell) then (n,NameKind.cell) else (n,k)).lookup x=some .cell∨
    (names.map fun (n,k)=>if (k == NameKind.free && env.scope.kind == .function && env.kindOf n == some .cell) then (n,NameKind.cell) else (n,k)).lookup x=some .free
  | [],_,h=>nomatch h
  | (n,k)::r,x,h=>by
    rw[List.lookup_cons] at h;rw[List.map_cons];cases hy:x == n with
    | true=>
      rw[hy] at h;cases h;dsimp only;split
      · left;rw[List.lookup_cons,hy]
      · right;rw[List.lookup_cons,hy]
    | false=>
      rw[hy] at h;have ih:=wV (env:=env) h;dsimp only;split
      · rw[List.lookup_cons,hy];exact ih
      · rw[List.lookup_cons,hy];exact ih
theorem CompSc.capt {X:Cx} {own capt:List Str} {scope:Scope} {cl:List (Str×Addr)} {fr:List Nat} (clo:closureFor scope X.env=pure cl) (ok:CapOk X scope capt fr cl) (h1:∀z∈scope.names,z.2=.free->z.1∈capt)
  (h2:∀y∈scope.names,y.2≠.cell) (kind:scope.kind=.function) (names:∀y∈scope.names,y.2=.local->scope.names.lookup y.1=some .local):CompSc X own capt scope cl fr where
 clos:=clo
 nocell:=h2
 kind:=kind
 names:=names
 inn:=ok.inn
 has:=fun y e=>by
  refine ok.mem y ?_;have key:∃k,(y,k)∈(relabel scope X.env).names/\(k=.cell∨k=.free):=by
   rcases e with e|e
   ·exact⟨_,xP e,.inl rfl⟩
   ·exact⟨_,xP e,.inr rfl⟩
  obtain⟨k,hm,hk⟩:=key;unfold relabel at hm;obtain⟨⟨n,k0⟩,h3,h4⟩:=List.mem_map.mp hm;have h5:n=y/\k0=.free:=by
   dsimp only at h4;split at h4
   ·rename_i c
    cases h4;simp only [Bool.and_eq_true,beq_iff_eq] at c;exact⟨rfl,c.1.1⟩
   ·cases h4;rcases hk with rfl|rfl
    ·exact absurd rfl (h2 _ h3)
    ·exact⟨rfl,rfl⟩
  obtain⟨rfl,rfl⟩:=h5;exact h1 _ h3 rfl
 cap:=fun k y e=>by
  obtain⟨j,e1,e2,e3,e4⟩:=ok.at k y e;obtain⟨c,hc⟩:=ok.mem y (List.mem_of_getElem? e);exact⟨j,c,e1,e2,e3,hc,wV e4⟩
 len:=ok.len
end L2
namespace SM
noncomputable def zg (a b:Int):Int:=(Int.gcd a b:Int)
theorem z0A {a:Int} (h:0<=a):zg a 0=a:=by
 unfold zg;rw[Int.gcd_zero_right];omega
theorem z0B (a b:Int):zg a b=zg b a:=by unfold zg;rw[Int.gcd_comm]
theorem kX (a b:Int):zg b (a%b)=zg a b:=by
 unfold zg;have e:a=b*(a/b)+a%b:=(Int.mul_ediv_add_emod a b).symm;have:Int.gcd a b=Int.gcd (a%b) b:=by
  conv=>lhs;rw[e]
  rw[Int.gcd_mul_left_add_left]
 rw[this,Int.gcd_comm]
theorem zt (a b:Int):zg a b∣a:=Int.gcd_dvd_left ..
theorem zr (a b:Int):zg a b∣b:=Int.gcd_dvd_right ..
theorem y1y {k a b:Int} (h1:k∣a) (h2:k∣b):k∣zg a b:=Int.dvd_coe_gcd h1 h2
theorem yK {a b:Int} (h:a≠0∨b≠0):0<zg a b:=by
 unfold zg;rcases h with h|h
 ·have:=Int.gcd_pos_of_ne_zero_left b h;omega
 ·have:=Int.gcd_pos_of_ne_zero_right a h;omega
theorem yM {a:Int} (b:Int) (h:0<a):zg a b<=a:=Int.gcd_le_left b h
theorem y0S (a b:Int) (ha:0<=a) (hb:0<=b):∃x y,zg a b=a*x+b*y:=by
 by_cases h:b=0
 ·subst h;exact⟨1,0,by rw[z0A ha];omega⟩
 ·have m1:=Int.emod_nonneg a h;have m2:=Int.emod_lt_of_pos a (show 0<b by omega);obtain⟨x,y,e⟩:=y0S b (a%b) hb m1;refine⟨y,x-(a/b)*y,?_⟩;rw[←kX,e];have q:=Int.mul_ediv_add_emod a b;have:a*y=b*(a/b)*y+a%b*y:=by rw[←Int.add_mul,q]
  rw[Int.mul_sub,←Int.mul_assoc];omega
termination_by b.toNat
decreasing_by omega
noncomputable def vh (a b:Int):Int:=a*(b/zg a b)
theorem z5B {a b:Int} (ha:1<=a) (hb:1<=b):vh a b=(Int.lcm a b:Int):=by
 have g:=yK (a:=a) (b:=b) (by omega);have d:=zr a b;have e:zg a b*(Int.lcm a b:Int)=a*b:=by
  have:=Int.gcd_mul_lcm a b;have h2:((Int.gcd a b*Int.lcm a b:Nat):Int)=((a.natAbs*b.natAbs:Nat):Int):=by rw[this]
  rw[Int.natCast_mul,Int.natCast_mul] at h2;have h3:((a.natAbs:Nat):Int)=a:=by omega
  have h4:((b.natAbs:Nat):Int)=b:=by omega
  rw[h3,h4] at h2;exact h2
 unfold vh;obtain⟨k,hk⟩:=d;have:b/zg a b=k:=by
  conv=>lhs;lhs;rw[hk]
  exact Int.mul_ediv_cancel_left k (by omega)
 rw[this];have e2:zg a b*(a*k)=zg a b*(Int.lcm a b:Int):=by
  rw[e];conv=>rhs;rw[hk]
  rw[←Int.mul_assoc,←Int.mul_assoc,Int.mul_comm (zg a b) a]
 exact Int.eq_of_mul_eq_mul_left (by omega) e2
theorem y1b {a b:Int}:(a*b)/zg a b=vh a b:=by
 unfold vh;exact Int.mul_ediv_assoc a (zr a b)
theorem z1s {a b:Int} (ha:1<=a) (hb:1<=b):1<=vh a b:=by
 rw[z5B ha hb];have:=Int.lcm_pos (m:=a) (n:=b) (by omega) (by omega);omega
theorem y3c {a b:Int} (ha:1<=a) (hb:1<=b):vh a b<=a*b:=by
 unfold vh;have g:=yK (a:=a) (b:=b) (by omega);have:b/zg a b<=b:=Int.ediv_le_self _ (by omega);exact Int.mul_le_mul_of_nonneg_left this (by omega)
theorem z2W (a b:Int):a∣vh a b:=⟨_,rfl⟩
theorem z0T {a b:Int} (ha:1<=a) (hb:1<=b):b∣vh a b:=by rw[z5B ha hb];exact Int.dvd_lcm_right ..
theorem z6Z {a b k:Int} (ha:1<=a) (hb:1<=b) (h1:a∣k) (h2:b∣k):vh a b∣k:=by rw[z5B ha hb];exact Int.coe_lcm_dvd h1 h2
noncomputable def yp (xs:List Int):Int:=xs.foldl vh 1
theorem kY:∀(xs:List Int) (a:Int),1<=a->(∀x∈xs,1<=x)->1<=xs.foldl vh a
 | [],_,h,_=>h
 | x::r,a,h,hx=>kY r (vh a x) (z1s h (hx x (by simp))) fun y hy=>hx y (by simp [hy])
theorem kZ {k:Int}:∀(xs:List Int) (a:Int),1<=a->(∀x∈xs,1<=x)->(xs.foldl vh a∣k ↔ a∣k/\∀x∈xs,x∣k)
 | [],a,h,_=>by simp
 | x::r,a,h,hx=>by
  have x1:=hx x (by simp);rw[List.foldl_cons,kZ r (vh a x) (z1s h x1) fun y hy=>hx y (by simp [hy])];constructor
  ·rintro⟨h1,h2⟩;refine⟨Int.dvd_trans (z2W a x) h1,fun y hy=>?_⟩;rcases List.mem_cons.mp hy with e|hy
   ·rw[e];exact Int.dvd_trans (z0T h x1) h1
   ·exact h2 y hy
  ·rintro⟨h1,h2⟩;exact⟨z6Z h x1 h1 (h2 x (by simp)),fun y hy=>h2 y (by simp [hy])⟩
theorem xM {xs:List Int} (hx:∀x∈xs,1<=x):1<=yp xs:=kY xs 1 (by omega) hx
theorem xf {xs:List Int} {k:Int} (hx:∀x∈xs,1<=x):yp xs∣k ↔ ∀x∈xs,x∣k:=by
 unfold yp;rw[kZ xs 1 (by omega) hx];exact⟨fun h=>h.2,fun h=>⟨Int.one_dvd k,h⟩⟩
theorem qM {xs:List Int} (hx:∀x∈xs,1<=x):∀x∈xs,x∣yp xs:=(xf hx).mp (Int.dvd_refl _)
theorem z9N (xs:List Int) (x:Int):yp (xs++[x])=vh (yp xs) x:=by unfold yp;rw[List.foldl_append];rfl
theorem wY {B:Int} (hB:1<=B):∀(xs:List Int) (a:Int),1<=a->(∀x∈xs,1<=x/\x<=B)->xs.foldl vh a<=a*B^xs.length
 | [],a,h,_=>by simp
 | x::r,a,h,hx=>by
  have x1:=hx x (by simp);have ih:=wY hB r (vh a x) (z1s h x1.1) fun y hy=>hx y (by simp [hy]);have l:=y3c h x1.1;have p:(0:Int)<=B^r.length:=Int.pow_nonneg (by omega);rw[List.foldl_cons,List.length_cons];refine Int.le_trans ih ?_;have m1:vh a x<=a*B:=Int.le_trans l (Int.mul_le_mul_of_nonneg_left x1.2 (by omega));have m2:=Int.mul_le_mul_of_nonneg_right m1 p;rw[Int.pow_succ,Int.mul_comm (B^r.length) B,←Int.mul_assoc];exact m2
theorem y3b {B:Int} (hB:1<=B) {xs:List Int} (hx:∀x∈xs,1<=x/\x<=B):yp xs<=B^xs.length:=by
 have:=wY hB xs 1 (by omega) hx;rw[Int.one_mul] at this;exact this
noncomputable def jv (n b:Int):Int:=-((-n)/b)
theorem xz {n b:Int} (hb:0<b):n<=b*jv n b/\b*jv n b<n+b:=by
 unfold jv;have h1:=Int.mul_ediv_add_emod (-n) b;have h2:=Int.emod_nonneg (-n) (show b≠0 by omega);have h3:=Int.emod_lt_of_pos (-n) hb;rw[Int.mul_neg];omega
theorem z0D {n b k:Int} (hb:0<b) (h:n<=b*k):jv n b<=k:=by
 have:=(xz (n:=n) hb).2;by_cases c:jv n b<=k
 ·exact c
 ·exfalso;have h1:k+1<=jv n b:=by omega
  have h2:=Int.mul_le_mul_of_nonneg_left h1 (Int.le_of_lt hb);rw[Int.mul_add,Int.mul_one] at h2;omega
theorem kA {n b:Int} (hb:0<b) (h:0<=n):0<=jv n b:=by
 have h1:=(xz (n:=n) hb).1;by_cases c:0<=jv n b
 ·exact c
 ·exfalso;have h2:=Int.mul_le_mul_of_nonneg_left (show jv n b<=-1 by omega) (Int.le_of_lt hb);rw[Int.mul_neg,Int.mul_one] at h2;omega
noncomputable def z2F (w a lo n:Int):Option Int:=
 if h:a<=0 then none
 else if a*jv lo a<=lo+n-1 then some (jv lo a)
 else (z2F a (w%a) ((-(lo+n-1))%a) n).map fun j=>jv (w*j+lo) a
termination_by a.toNat
decreasing_by
 have h1:=Int.emod_nonneg w (show a≠0 by omega);have h2:=Int.emod_lt_of_pos w (show 0<a by omega);omega
noncomputable def y0c (w a lo n i:Int):Prop:=(a*i-lo)%w<n
noncomputable def y0Z (p:Int->Prop):Option Int->Prop
 | some i=>0<=i/\p i/\∀k,0<=k->k<i->¬p k
 | none=>∀k,0<=k->¬p k
theorem z0v {x w n:Int} (hw:0<w) (hn:n<=w):x%w<n ↔ ∃j,w*j<=x/\x<w*j+n:=by
 have h1:=Int.mul_ediv_add_emod x w;have h2:=Int.emod_nonneg x (show w≠0 by omega);have h3:=Int.emod_lt_of_pos x hw;constructor
 ·intro h;exact⟨x/w,by omega,by omega⟩
 ·rintro⟨j,a,b⟩;have e:x%w=x-w*j:=by
   have z:(x-w*j)%w=x-w*j:=Int.emod_eq_of_lt (by omega) (by omega);rw[Int.sub_mul_emod_self_left] at z;exact z
  omega
theorem z3c {w a lo n:Int} (h:a<=0):z2F w a lo n=none:=by rw[z2F,dif_pos h]
theorem z3d {w a lo n:Int} (h:0<a) (h2:a*jv lo a<=lo+n-1):z2F w a lo n=some (jv lo a):=by rw[z2F,dif_neg (by omega),if_pos h2]
theorem vo {w a lo n:Int} (h:0<a) (h2:¬a*jv lo a<=lo+n-1):z2F w a lo n=(z2F a (w%a) ((-(lo+n-1))%a) n).map fun j=>jv (w*j+lo) a:=by
 rw[z2F,dif_neg (by omega),if_neg h2]
structure Lvl (w a lo n:Int):Prop where
 a0:0<=a
 aw:a<w
 n1:1<=n
 l1:1<=lo
 l2:lo+n<=w
theorem Lvl.down {w a lo n:Int} (L:Lvl w a lo n) (h:0<a) (h2:¬a*jv lo a<=lo+n-1):Lvl a (w%a) ((-(lo+n-1))%a) n:=by
 obtain⟨a0,aw,n1,l1,l2⟩:=L;have c1:=xz (n:=lo) h;have e1:=Int.emod_nonneg w (show a≠0 by omega);have e2:=Int.emod_lt_of_pos w h;have m1:=Int.emod_nonneg (-(lo+n-1)) (show a≠0 by omega);have m2:=Int.emod_lt_of_pos (-(lo+n-1)) h;have m3:=Int.mul_ediv_add_emod (-(lo+n-1)) a;generalize hq:(-(lo+n-1))/a=q at m3;generalize (-(lo+n-1))%a=r at m1 m2 m3 ⊢;have k:-q=jv lo a∨-q≠jv lo a:=by omega
 have e:a*(-q)=lo+n-1+r:=by rw[Int.mul_neg];omega
 have cq:jv lo a<=-q:=z0D h (by omega);have cq2:-q<=jv lo a:=by
  by_cases z:-q<=jv lo a
  ·exact z
  ·exfalso;have:=Int.mul_le_mul_of_nonneg_left (show jv lo a+1<=-q by omega) (Int.le_of_lt h);rw[Int.mul_add,Int.mul_one] at this;omega
 have cq3:-q=jv lo a:=by omega
 rw[cq3] at e;exact⟨e1,e2,n1,by omega,by omega⟩
theorem vn {w a lo n:Int} (L:Lvl w a lo n) (h:0<a) {j:Int}:y0c a (w%a) ((-(lo+n-1))%a) n j ↔ ∃i,w*j+lo<=a*i/\a*i<=w*j+lo+n-1:=by
 obtain⟨a0,aw,n1,l1,l2⟩:=L;unfold y0c;have e:(w%a*j-(-(lo+n-1))%a)%a=(w*j+(lo+n-1))%a:=by
  have x1:=Int.mul_ediv_add_emod w a;have x2:=Int.mul_ediv_add_emod (-(lo+n-1)) a;generalize hq1:w/a=q1 at x1;generalize hq2:(-(lo+n-1))/a=q2 at x2;generalize hr1:w%a=r1 at x1 ⊢;generalize hr2:(-(lo+n-1))%a=r2 at x2 ⊢;have:w*j+(lo+n-1)=(r1*j-r2)+a*(q1*j-q2):=by
   rw[←x1,Int.mul_sub,Int.add_mul,Int.mul_assoc];omega
  rw[this,Int.add_mul_emod_self_left]
 rw[e];constructor
 ·intro z;have x1:=Int.mul_ediv_add_emod (w*j+(lo+n-1)) a;have x2:=Int.emod_nonneg (w*j+(lo+n-1)) (show a≠0 by omega);exact⟨(w*j+(lo+n-1))/a,by omega,by omega⟩
 ·rintro⟨i,i1,i2⟩;by_cases na:n<=a
  ·exact (z0v h na).mpr ⟨i,by omega,by omega⟩
  ·have:=Int.emod_lt_of_pos (w*j+(lo+n-1)) h;omega
theorem qL {w a lo n:Int} (L:Lvl w a lo n) {i:Int} (hi:0<=i):y0c w a lo n i ↔ ∃j,0<=j/\w*j+lo<=a*i/\a*i<=w*j+lo+n-1:=by
 obtain⟨a0,aw,n1,l1,l2⟩:=L;unfold y0c;rw[z0v (by omega) (by omega)];constructor
 ·rintro⟨j,j1,j2⟩;refine⟨j,?_,by omega,by omega⟩;have p:=Int.mul_nonneg a0 hi;by_cases c:0<=j
  ·exact c
  ·exfalso;have:=Int.mul_le_mul_of_nonneg_left (show j<=-1 by omega) (show (0:Int)<=w by omega);rw[Int.mul_neg,Int.mul_one] at this;omega
 ·rintro⟨j,_,j1,j2⟩;exact⟨j,by omega,by omega⟩
theorem wF {w a lo n:Int} (L:Lvl w a lo n):y0Z (y0c w a lo n) (z2F w a lo n):=by
 by_cases h:0<a
 ·have c1:=xz (n:=lo) h;have c0:=kA (n:=lo) h (by have:=L.l1;omega);by_cases h2:a*jv lo a<=lo+n-1
  ·rw[z3d h h2];refine⟨c0,(qL L c0).mpr ⟨0,Int.le_refl 0,by omega,by omega⟩,fun k k0 k1 hk=>?_⟩;obtain⟨j,j0,j1,j2⟩:=(qL L k0).mp hk;have wj:=Int.mul_nonneg (show (0:Int)<=w by have:=L.a0;have:=L.aw;omega) j0;have:=z0D (n:=lo) h (k:=k) (by omega);omega
  ·rw[vo h h2];have D:=L.down h h2;have ih:=wF D;have w0:(0:Int)<=w:=by have:=L.a0;have:=L.aw;omega
   cases e:z2F a (w%a) ((-(lo+n-1))%a) n with
   | none=>
    rw[e] at ih;show ∀k,0<=k->¬_;intro k k0 hk;obtain⟨j,j0,j1,j2⟩:=(qL L k0).mp hk;exact ih j j0 ((vn L h).mpr ⟨k,j1,j2⟩)
   | some j=>
    rw[e] at ih;obtain⟨j0,jh,jl⟩:=ih;obtain⟨i,i1,i2⟩:=(vn L h).mp jh;have wj:=Int.mul_nonneg w0 j0;have s:=xz (n:=w*j+lo) h;have sle:=z0D (n:=w*j+lo) h i1;have sm:=Int.mul_le_mul_of_nonneg_left sle (Int.le_of_lt h);have s0:=kA (n:=w*j+lo) h (by have:=L.l1;omega);refine⟨s0,(qL L s0).mpr ⟨j,j0,s.1,by omega⟩,fun k k0 k1 hk=>?_⟩;obtain⟨j',j0',j1',j2'⟩:=(qL L k0).mp hk;have hj:=(vn L h).mpr ⟨k,j1',j2'⟩;have jj:j<=j':=by
     by_cases c:j<=j'
     ·exact c
     ·exact absurd hj (jl j' j0' (by omega))
    have:=Int.mul_le_mul_of_nonneg_left jj w0;have:=z0D (n:=w*j+lo) h (k:=k) (by omega);have k1':k<jv (w*j+lo) a:=k1;omega
 ·rw[z3c (by omega)];intro k k0 hk;obtain⟨j,j0,j1,j2⟩:=(qL L k0).mp hk;have a00:a=0:=by have:=L.a0;omega
  have w0:(0:Int)<=w:=by have:=L.a0;have:=L.aw;omega
  have wj:=Int.mul_nonneg w0 j0;have:=L.l1;rw[a00,Int.zero_mul] at j1;omega
termination_by a.toNat
decreasing_by
 have h1:=Int.emod_nonneg w (show a≠0 by omega);have h2:=Int.emod_lt_of_pos w (show 0<a by omega);omega
noncomputable def yV (st sp w n:Int):Option Int:=if st%w<n then some 0 else z2F w (sp%w) ((-st)%w) n
noncomputable def jy (st sp w n i:Int):Prop:=(st+sp*i)%w<n
theorem y3a {st w n:Int} (hw:0<w) (hn:1<=n) (h:¬st%w<n):(-st)%w=w-st%w:=by
 have h1:=Int.mul_ediv_add_emod st w;have h3:=Int.emod_lt_of_pos st hw;have e:-st=(w-st%w)+w*(-(st/w)-1):=by rw[Int.mul_sub,Int.mul_neg];omega
 rw[e,Int.add_mul_emod_self_left];exact Int.emod_eq_of_lt (by omega) (by omega)
theorem y6U {st sp w n:Int} (hw:0<w) (hn:1<=n) (h:¬st%w<n):Lvl w (sp%w) ((-st)%w) n:=by
 have h3:=Int.emod_lt_of_pos st hw;rw[y3a hw hn h];exact⟨Int.emod_nonneg _ (by omega),Int.emod_lt_of_pos _ hw,hn,by omega,by omega⟩
theorem vp {st sp w n i:Int}:jy st sp w n i ↔ y0c w (sp%w) ((-st)%w) n i:=by
 unfold jy y0c;have e:(sp%w*i-(-st)%w)%w=(st+sp*i)%w:=by
  have x1:=Int.mul_ediv_add_emod sp w;have x2:=Int.mul_ediv_add_emod (-st) w;have:st+sp*i=(sp%w*i-(-st)%w)+w*(sp/w*i-(-st)/w):=by
   rw[Int.mul_sub,←Int.mul_assoc];have:sp*i=w*(sp/w)*i+sp%w*i:=by rw[←Int.add_mul,x1]
   omega
  rw[this,Int.add_mul_emod_self_left]
 rw[e]
theorem yJ {st sp w n:Int} (hw:0<w) (hn:1<=n):y0Z (jy st sp w n) (yV st sp w n):=by
 unfold yV;by_cases h:st%w<n
 ·rw[if_pos h];refine⟨Int.le_refl 0,by unfold jy;simpa using h,fun k k0 k1=>by omega⟩
 ·rw[if_neg h];have:=wF (y6U (sp:=sp) hw hn h);cases e:z2F w (sp%w) ((-st)%w) n with
  | none=>rw[e] at this;exact fun k k0 hk=>this k k0 (vp.mp hk)
  | some i=>
   rw[e] at this;exact⟨this.1,vp.mpr this.2.1,fun k k0 k1 hk=>this.2.2 k k0 k1 (vp.mp hk)⟩
theorem z5I {st st' sp sp' w n i i':Int} (h:(st+sp*i)%w=(st'+sp'*i')%w):jy st sp w n i ↔ jy st' sp' w n i':=by
 unfold jy;rw[h]
theorem y3O {sp w:Int} (hw:0<w):∃q,sp*(w/zg w (sp%w))=w*q:=by
 have g0:=yK (a:=w) (b:=sp%w) (by omega);obtain⟨k,hk⟩:=zt w (sp%w);obtain⟨m,hm⟩:=zr w (sp%w);have e1:w/zg w (sp%w)=k:=by
  conv=>lhs;lhs;rw[hk]
  exact Int.mul_ediv_cancel_left k (by omega)
 have e2:=Int.mul_ediv_add_emod sp w;refine⟨sp/w*k+m,?_⟩;rw[e1]
 conv=>lhs;lhs;rw[←e2]
 rw[Int.add_mul,Int.mul_add,Int.mul_assoc];have:sp%w*k=w*m:=by
  conv=>lhs;rw[hm]
  conv=>rhs;lhs;rw[hk]
  rw[Int.mul_assoc,Int.mul_assoc,Int.mul_comm m k]
 rw[this]
theorem y3N {sp w:Int} (hw:0<w):1<=w/zg w (sp%w):=by
 have g0:=yK (a:=w) (b:=sp%w) (by omega);have g1:=yM (sp%w) hw;have:=(Int.le_ediv_iff_mul_le g0 (a:=1) (b:=w)).mpr (by omega);exact this
theorem z9d {st sp w n i:Int} (hw:0<w):jy st sp w n (i+w/zg w (sp%w)) ↔ jy st sp w n i:=by
 obtain⟨q,hq⟩:=y3O (sp:=sp) hw;refine z5I ?_;rw[Int.mul_add,hq,←Int.add_assoc,Int.add_mul_emod_self_left]
theorem ju {st sp w n i:Int} (hw:0<w) (hn:1<=n) (e:yV st sp w n=some i):i<w/zg w (sp%w):=by
 have h:=yJ (st:=st) (sp:=sp) hw hn;rw[e] at h;have p:=y3N (sp:=sp) hw;by_cases c:i<w/zg w (sp%w)
 ·exact c
 ·refine absurd ?_ (h.2.2 (i-w/zg w (sp%w)) (by omega) (by omega));rw[←z9d hw];have e:i-w/zg w (sp%w)+w/zg w (sp%w)=i:=by omega
  rw[e];exact h.2.1
theorem y1X {st sp w:Int} (i:Int):(st+sp*i)%w%zg w (sp%w)=st%zg w (sp%w):=by
 rw[Int.emod_emod_of_dvd _ (zt w (sp%w))];obtain⟨m,hm⟩:=zr w (sp%w);obtain⟨k,hk⟩:=zt w (sp%w);have e2:=Int.mul_ediv_add_emod sp w;have:st+sp*i=st+zg w (sp%w)*((k*(sp/w)+m)*i):=by
  have:sp=zg w (sp%w)*(k*(sp/w)+m):=by
   rw[Int.mul_add,←hm,←Int.mul_assoc,←hk];exact e2.symm
  conv=>lhs;rw[this]
  rw[Int.mul_assoc]
 rw[this,Int.add_mul_emod_self_left]
theorem y1Y {st sp w:Int} (hw:0<w) {x:Int} (x0:0<=x) (xw:x<w) (h:x%zg w (sp%w)=st%zg w (sp%w)):∃i,0<=i/\(st+sp*i)%w=x:=by
 have sp0:=Int.emod_nonneg sp (show w≠0 by omega);obtain⟨u,v,e⟩:=y0S w (sp%w) (by omega) sp0;generalize hg:zg w (sp%w)=g at h e;have d:g∣x-st:=Int.dvd_of_emod_eq_zero (by rw[Int.sub_emod,h];simp);obtain⟨k,hk⟩:=d;refine⟨(v*k)%w,Int.emod_nonneg _ (by omega),?_⟩;have e3:=Int.mul_ediv_add_emod (v*k) w;have e2:=Int.mul_ediv_add_emod sp w;have:st+sp*((v*k)%w)=x+w*(sp/w*(v*k)-u*k-sp*(v*k/w)):=by
  have a1:sp*((v*k)%w)=sp*(v*k)-w*(sp*(v*k/w)):=by
   have:(v*k)%w=v*k-w*(v*k/w):=by omega
   rw[this,Int.mul_sub,←Int.mul_assoc sp w,Int.mul_comm sp w,Int.mul_assoc w sp]
  have a2:sp*(v*k)=w*(sp/w*(v*k))+sp%w*(v*k):=by
   conv=>lhs;lhs;rw[←e2]
   rw[Int.add_mul,Int.mul_assoc]
  have a3:sp%w*(v*k)=g*k-w*(u*k):=by
   rw[e,Int.add_mul,Int.mul_assoc,Int.mul_assoc];omega
  rw[Int.mul_sub w,Int.mul_sub w];omega
 rw[this,Int.add_mul_emod_self_left];exact Int.emod_eq_of_lt x0 xw
theorem wJ {st sp w n:Int} (hw:0<w) (hn:1<=n):yV st sp w n=none ↔ n<=st%zg w (sp%w):=by
 have h:=yJ (st:=st) (sp:=sp) hw hn;have g0:=yK (a:=w) (b:=sp%w) (by omega);have g1:=yM (sp%w) hw;have r0:=Int.emod_nonneg st (show zg w (sp%w)≠0 by omega);have r1:=Int.emod_lt_of_pos st g0;constructor
 ·intro e;rw[e] at h;by_cases c:n<=st%zg w (sp%w)
  ·exact c
  ·obtain⟨i,i0,hi⟩:=y1Y (st:=st) (sp:=sp) hw r0 (by omega) (Int.emod_emod_of_dvd st (Int.dvd_refl _));exact absurd (show jy st sp w n i by unfold jy;omega) (h i i0)
 ·intro e;cases e2:yV st sp w n with
  | none=>rfl
  | some i=>
   rw[e2] at h;have h2:=h.2.1;unfold jy at h2;have l:=y1X (st:=st) (sp:=sp) (w:=w) i;have x0:=Int.emod_nonneg (st+sp*i) (show w≠0 by omega);generalize (st+sp*i)%w=x at h2 l x0;have:x%zg w (sp%w)<=x:=by
    have:=Int.mul_ediv_add_emod x (zg w (sp%w));have:=Int.mul_nonneg (Int.le_of_lt g0) (Int.ediv_nonneg x0 (Int.le_of_lt g0));omega
   omega
noncomputable def NoPart (n k:Int):Prop:=∀d,2<=d->d<k->¬d∣n
structure IsPart (n d:Int):Prop where
 two:2<=d
 dvd:d∣n
 least:NoPart n d
theorem vj {n p:Int} (h2:2<=n) (h:NoPart n p) (hp:0<=p) (hs:n<p*p):IsPart n n:=by
 refine⟨h2,Int.dvd_refl n,fun d d2 dn dd=>?_⟩;obtain⟨e,he⟩:=dd;have d0:0<d:=by omega
 have e2:2<=e:=by
  rcases (show e<=0∨e=1∨2<=e by omega) with c|c|c
  ·have:=Int.mul_le_mul_of_nonneg_left c (Int.le_of_lt d0);rw[Int.mul_zero] at this;omega
  ·subst c;omega
  ·exact c
 have hd:p<=d:=by
  by_cases c:p<=d
  ·exact c
  ·exact absurd ⟨e,he⟩ (h d d2 (by omega))
 have hee:p<=e:=by
  by_cases c:p<=e
  ·exact c
  ·exact absurd ⟨d,by rw[Int.mul_comm];exact he⟩ (h e e2 (by omega))
 have:=Int.mul_le_mul hd hee hp (by omega);omega
theorem yG {n d:Int} (h:n%d≠0):¬d∣n:=fun z=>h (Int.emod_eq_zero_of_dvd z)
theorem NoPart.five {n:Int} (h2:n%2≠0) (h3:n%3≠0):NoPart n 5:=by
 intro d d2 d5 hd;rcases (show d=2∨d=3∨d=4 by omega) with e|e|e
 ·subst e;exact yG h2 hd
 ·subst e;exact yG h3 hd
 ·subst e;exact yG h2 (Int.dvd_trans (by decide) hd)
theorem NoPart.six {n p:Int} (h:NoPart n p) (h2:n%2≠0) (h3:n%3≠0) (hp:p%6=5) (a:n%p≠0) (b:n%(p+2)≠0):NoPart n (p+6):=by
 intro d d2 d6 hd;rcases (show d<p∨d=p∨d=p+1∨d=p+2∨d=p+3∨d=p+4∨d=p+5 by omega) with e|e|e|e|e|e|e
 ·exact h d d2 e hd
 ·subst e;exact yG a hd
 ·exact yG h2 (Int.dvd_trans (show (2:Int)∣d by omega) hd)
 ·subst e;exact yG b hd
 ·exact yG h2 (Int.dvd_trans (show (2:Int)∣d by omega) hd)
 ·exact yG h3 (Int.dvd_trans (show (3:Int)∣d by omega) hd)
 ·exact yG h2 (Int.dvd_trans (show (2:Int)∣d by omega) hd)
theorem NoPart.two_on {n p:Int} (h:NoPart n p) (h2:n%2≠0) (hp:p%6=5) (a:n%p≠0):NoPart n (p+2):=by
 intro d d2 d6 hd;rcases (show d<p∨d=p∨d=p+1 by omega) with e|e|e
 ·exact h d d2 e hd
 ·subst e;exact yG a hd
 ·exact yG h2 (Int.dvd_trans (show (2:Int)∣d by omega) hd)
theorem z9b {w a lo n i:Int}:y0c w a lo n (i-w) ↔ y0c w a lo n i:=by
 unfold y0c;have:a*(i-w)-lo=a*i-lo+w*(-a):=by rw[Int.mul_sub,Int.mul_neg,Int.mul_comm w a];omega
 rw[this,Int.add_mul_emod_self_left]
theorem z9c {w a lo n h:Int} (L:Lvl w a lo n) (e:z2F w a lo n=some h):0<=h/\h<w:=by
 have z:=wF L;rw[e] at z;refine⟨z.1,?_⟩;by_cases c:h<w
 ·exact c
 ·exact absurd (z9b.mpr z.2.1) (z.2.2 (h-w) (by omega) (by have:=L.a0;have:=L.aw;omega))
noncomputable abbrev T3:=Int×Int×Int
noncomputable def z0U (lv:List T3) (h:Int):Int:=lv.foldr (fun t h=>jv (t.1*h+t.2.2) t.2.1) h
theorem z1A (lv:List T3) (w a lo h:Int):z0U (lv++[(w,a,lo)]) h=z0U lv (jv (w*h+lo) a):=by unfold z0U;rw[List.foldr_append];rfl
inductive Down (n w0 a0 lo0:Int):List T3->Int->Int->Int->Prop
 | top:Down n w0 a0 lo0 [] w0 a0 lo0
 | go {lv:List T3} {w a lo:Int}:Down n w0 a0 lo0 lv w a lo->0<a->¬a*jv lo a<=lo+n-1->Down n w0 a0 lo0 (lv++[(w,a,lo)]) a (w%a) ((-(lo+n-1))%a)
theorem Down.lvl {n w0 a0 lo0:Int} {lv:List T3} {w a lo:Int} (d:Down n w0 a0 lo0 lv w a lo) (L:Lvl w0 a0 lo0 n):Lvl w a lo n/\w<=w0/\∀t∈lv,0<t.2.1/\t.2.1<t.1/\t.1<=w0/\1<=t.2.2/\t.2.2<=w0:=by
 induction d with
 | top=>exact⟨L,Int.le_refl _,fun t ht=>nomatch ht⟩
 | @go lv w a lo d h h2 ih=>
  obtain⟨l,b,c⟩:=ih;refine⟨l.down h h2,by have:=l.aw;omega,fun t ht=>?_⟩;rcases List.mem_append.mp ht with z|z
  ·exact c t z
  ·have:t=(w,a,lo):=by simpa using z
   subst this;have:=l.aw;have:=l.l1;have:=l.l2;have:=l.n1;exact⟨h,by assumption,b,by assumption,by show lo<=w0;omega⟩
theorem Down.nohit {n w0 a0 lo0:Int} {lv:List T3} {w a lo:Int} (d:Down n w0 a0 lo0 lv w a lo) (e:z2F w a lo n=none):z2F w0 a0 lo0 n=none:=by
 induction d with
 | top=>exact e
 | @go lv w a lo d h h2 ih=>exact ih (by rw[vo h h2,e];rfl)
theorem Down.hit {n w0 a0 lo0:Int} {lv:List T3} {w a lo h:Int} (d:Down n w0 a0 lo0 lv w a lo) (L:Lvl w0 a0 lo0 n) (e:z2F w a lo n=some h) :
  z2F w0 a0 lo0 n=some (z0U lv h)/\∀i:Nat,0<=z0U (lv.drop i) h/\z0U (lv.drop i) h<w0:=by
 induction d generalizing h with
 | top=>
  have:=z9c L e;exact⟨e,fun i=>by rw[List.drop_nil];exact this⟩
 | @go lv w a lo d q q2 ih=>
  obtain⟨l,b,_⟩:=d.lvl L;have e2:z2F w a lo n=some (jv (w*h+lo) a):=by rw[vo q q2,e];rfl
  obtain⟨i1,i2⟩:=ih e2;refine⟨by rw[z1A];exact i1,fun i=>?_⟩;by_cases c:i<=lv.length
  ·rw[List.drop_append_of_le_length c,z1A];exact i2 i
  ·rw[List.drop_eq_nil_of_le (by simp;omega)];have:=z9c (l.down q q2) e;have:=l.aw;exact⟨by show 0<=h;omega,by show h<w0;omega⟩
theorem y1j {w a:Int} (h:0<a) (hw:a<w):2*(a*(w%a))<=w*a:=by
 have e:=Int.mul_ediv_add_emod w a;have r1:=Int.emod_lt_of_pos w h;have r0:=Int.emod_nonneg w (show a≠0 by omega);have q1:1<=w/a:=(Int.le_ediv_iff_mul_le h).mpr (by omega);have:=Int.mul_le_mul_of_nonneg_left q1 (Int.le_of_lt h);have e2:2*(w%a)<=w:=by omega
 have:=Int.mul_le_mul_of_nonneg_left e2 (Int.le_of_lt h);rw[Int.mul_comm w a,←Int.mul_assoc,Int.mul_comm 2 a,Int.mul_assoc];exact this
theorem Down.len {n w0 a0 lo0:Int} {lv:List T3} {w a lo:Int} (d:Down n w0 a0 lo0 lv w a lo) (L:Lvl w0 a0 lo0 n):2^lv.length*(w*a)<=w0*a0:=by
 induction d with
 | top=>simp
 | @go lv w a lo d h h2 ih=>
  obtain⟨l,b,_⟩:=d.lvl L;have m:=y1j h l.aw;have p:(0:Int)<=2^lv.length:=Int.pow_nonneg (by decide);have:=Int.mul_le_mul_of_nonneg_left m p;rw[List.length_append,List.length_singleton,Int.pow_succ,Int.mul_assoc];omega
theorem Down.short {n w0 a0 lo0:Int} {lv:List T3} {w a lo:Int} (d:Down n w0 a0 lo0 lv w a lo) (L:Lvl w0 a0 lo0 n) (B:Nat) (hB:w0<=2^B) (h:0<a):lv.length<=2*B:=by
 have e:=d.len L;obtain⟨l,b,_⟩:=d.lvl L;have h1:1<=w*a:=by
  have:=Int.mul_le_mul_of_nonneg_left (show 1<=a by omega) (show (0:Int)<=w by have:=l.aw;omega);have:=l.aw;omega
 have p:(0:Int)<=2^lv.length:=Int.pow_nonneg (by decide);have h2:=Int.mul_le_mul_of_nonneg_left h1 p;have h3:w0*a0<=2^B*2^B:=Int.mul_le_mul hB (by have:=L.aw;omega) L.a0 (Int.pow_nonneg (by decide));have h4:(2:Int)^lv.length<=2^(2*B):=by
  rw[Nat.two_mul,Int.pow_add];omega
 have h5:(2:Nat)^lv.length<=2^(2*B):=by
  have:((2^lv.length:Nat):Int)<=((2^(2*B):Nat):Int):=by
   rw[Int.natCast_pow,Int.natCast_pow];exact h4
  omega
 exact (Nat.pow_le_pow_iff_right (by decide)).mp h5
end SM
namespace L2
open PySem PySem.Spec PyProof.Rows SM
noncomputable def z4N (t:T3):HO:=.tup [.int t.1,.int t.2.1,.int t.2.2]
noncomputable def Pl (H:Hp) (xs:List V) (ws:List T3):Prop:=xs.length=ws.length/\∀(i:Nat) t,ws[i]?=some t->∃p,xs[i]?=some (.ref p)/\H p=some (z4N t)
theorem Pl.nil {H:Hp}:Pl H [] []:=⟨rfl,fun i t e=>by simp at e⟩
theorem Pl.same {H H':Hp} {xs:List V} {ws:List T3} (g:Same H H') (h:Pl H xs ws):Pl H' xs ws:=⟨h.1,fun i t e=>let ⟨p,e1,e2⟩:=h.2 i t e;⟨p,e1,g _ _ e2⟩⟩
theorem Pl.upd {H:Hp} {xs ys:List V} {ws:List T3} {L:Addr} {o:HO} (h:Pl H xs ws) (hL:H L=some (.lst ys)):Pl (upd H L o) xs ws:=⟨h.1,fun i t e=>by
 obtain⟨p,e1,e2⟩:=h.2 i t e;exact⟨p,e1,by rw[za (wC e2 hL (by intro z;cases z))];exact e2⟩⟩
theorem Pl.updN {H:Hp} {xs:List V} {ws:List T3} {L:Addr} {o:HO} (h:Pl H xs ws) (hL:H L=none):Pl (L2.upd H L o) xs ws:=h.same (zJ hL o)
theorem Pl.snoc {H:Hp} {xs:List V} {ws:List T3} {p:Addr} {t:T3} (h:Pl H xs ws) (hp:H p=some (z4N t)):Pl H (xs++[.ref p]) (ws++[t]):=by
 refine⟨by simp [h.1],fun i u e=>?_⟩;by_cases c:i<ws.length
 ·rw[List.getElem?_append_left c] at e;obtain⟨b,e1,e2⟩:=h.2 i u e;exact⟨b,by rw[List.getElem?_append_left (by rw[h.1];exact c)];exact e1,e2⟩
 ·rw[List.getElem?_append_right (by omega)] at e;have z:i-ws.length=0:=by
   rcases Nat.eq_zero_or_pos (i-ws.length) with z|z
   ·exact z
   ·rw[List.getElem?_eq_none (by simp;omega)] at e;cases e
  rw[z] at e;cases e;exact⟨p,by rw[List.getElem?_append_right (by rw[h.1];omega),h.1,z];rfl,hp⟩
theorem Pl.at {H:Hp} {xs:List V} {ws:List T3} (h:Pl H xs ws) {i:Nat} {x:V} (e:xs[i]?=some x):∃p t,ws[i]?=some t/\x=.ref p/\H p=some (z4N t):=by
 have hi:i<ws.length:=by
  rw[←h.1];exact (List.getElem?_eq_some_iff.mp e).1
 obtain⟨p,e1,e2⟩:=h.2 i ws[i] (List.getElem?_eq_getElem hi);rw[e] at e1;cases e1;exact⟨p,ws[i],List.getElem?_eq_getElem hi,rfl,e2⟩
theorem Pl.append {H:Hp} {xs ys:List V} {ws vs:List T3} (h:Pl H xs ws) (k:Pl H ys vs):Pl H (xs++ys) (ws++vs):=by
 refine⟨by simp [h.1,k.1],fun i t e=>?_⟩;by_cases c:i<ws.length
 ·rw[List.getElem?_append_left c] at e;rw[List.getElem?_append_left (by rw[h.1];exact c)];exact h.2 i t e
 ·rw[List.getElem?_append_right (by omega)] at e;rw[List.getElem?_append_right (by rw[h.1];omega),h.1];exact k.2 _ t e
theorem Pl.ix {H:Hp} {xs:List V} {ws:List T3} (h:Pl H xs ws) {i:Int} (h0:0<=i) (h1:i<ws.length):∃p t,atI xs i=some (.ref p)/\ws[i.toNat]?=some t/\t∈ws/\H p=some (z4N t):=by
 have hk:i.toNat<ws.length:=by omega
 obtain⟨p,e1,e2⟩:=h.2 i.toNat ws[i.toNat] (List.getElem?_eq_getElem hk);have ek:i=((i.toNat:Nat):Int):=by omega
 have q:atI xs ((i.toNat:Nat):Int)=some (.ref p):=zj e1;rw[←ek] at q;exact⟨p,_,q,List.getElem?_eq_getElem hk,List.getElem_mem hk,e2⟩
noncomputable def dW (t:T3):PyData:=.tuple [.int t.1,.int t.2.1,.int t.2.2]
theorem y3r {K:PySem.W.Frag} {H:Hp} {p:Addr} {t:T3} (h:H p=some (z4N t)):DD K H (.ref p) (dW t):=.tup (SqT.of h) (.cons (.int _) (.cons (.int _) (.cons (.int _) .nil)))
theorem Pl.dds {K:PySem.W.Frag} {H:Hp}:∀ {ws:List T3} {xs:List V},Pl H xs ws->DDs K H xs (ws.map dW)
 | [],[],_=>.nil
 | [],_::_,h=>by have:=h.1;simp at this
 | _::_,[],h=>by have:=h.1;simp at this
 | t::ws,x::xs,h=>by
  obtain⟨p,e1,e2⟩:=h.2 0 t rfl;cases e1;refine .cons (y3r e2) (Pl.dds ⟨by have:=h.1;simpa using this,fun i u e=>?_⟩);have:=h.2 (i+1) u (by simpa using e);simpa using this
theorem Pl.dd {K:PySem.W.Frag} {H:Hp} {a:Addr} {ws:List T3} {xs:List V} (hs:SqL K H a xs) (h:Pl H xs ws):DD K H (.ref a) (.list (ws.map dW)):=.lst hs h.dds
section
variable {K:PySem.W.Frag} {H:Hp} {Q:VK} {a b:Addr} {xs ys:List V} {ws vs:List T3}
end
theorem Inv.turnedLaid {X:Cx} {pins:List (Addr×Obj)} {σ:St} {H:Hp} {s:Shared} {h':Heap} {t':Nat} {ch:List Addr} {T:Addr} {o:HO} (I:Inv X pins σ H s) (k:∀b u,b∉ch->s.heap.get? b=some u->h'.get? b=some u)
  (hc:∀b∈ch,z6p X pins H b) (hT:s.heap.objs.size<=T) (new:ObjOk X.prog X.w (upd H T o) h' T o):Inv X pins σ (upd H T o) { s with heap:=h',toks:=t' }:=by
 have nT:H T=none:=I.hok.fresh hT;have nit:∀b u,H b=some u->b∉ch:=fun b u e z=>by rw[(hc b z).1] at e;cases e
 have lt:∀b u,s.heap.get? b=some u->b≠T:=fun b u e=>Nat.ne_of_lt (Nat.lt_of_lt_of_le (Heap.lt_size e) hT);refine I.step (g':=s.gens) (d':=s.drawn) (ch:=ch) (fun b hb=>⟨(hc b hb).2.2.2.1,(hc b hb).2.1,(hc b hb).2.2.2.2.1,(hc b hb).2.2.2.2.2⟩) (fun b u _ _ h e _=>k b u h e) (fun b u _ _ h e _=>⟨u.slots,k b u h e⟩)
  (fun b u _ e n=>by rw[za (lt b u e)];exact n) (fun b u h e=>⟨u,k b u h e⟩) (fun b xs e=>by rw[za (zV e nT)];exact e) (fun b u v e=>by rw[za (zV e nT)];exact e)
  (fun b ps e=>⟨#[],by rw[za (zV e nT),e];simp⟩) (fun m hm=>?_) (fun b u e=>?_) I.bare
 ·obtain⟨u,es,ep,ho,r⟩:=hm;exact⟨u,es,ep,k _ u (fun z=>(hc _ z).2.1 rfl) ho,r⟩
 ·by_cases hb:b=T
  ·subst hb;rw[zH] at e;cases e;exact new
  ·rw[za hb] at e;refine (I.hok b u e).stay (fun c v hcc q=>k c v ?_ q) (fun c q=>by rw[za (zV q nT)];exact q) fun c xs q=>by rw[za (zV q nT)];exact q
   rcases hcc with z|z
   ·rw[z];exact nit b u e
   ·exact nit c _ z
theorem Inv.turnedL {X:Cx} {pins:List (Addr×Obj)} {σ:St} {H:Hp} {s:Shared} {h':Heap} {t':Nat} {ch:List Addr} (I:Inv X pins σ H s) (k:∀b u,b∉ch->s.heap.get? b=some u->h'.get? b=some u)
  (hc:∀b∈ch,z6p X pins H b):Inv X pins σ H { s with heap:=h',toks:=t' }:=by
 have nit:∀b u,H b=some u->b∉ch:=fun b u e z=>by rw[(hc b z).1] at e;cases e
 refine I.step (g':=s.gens) (d':=s.drawn) (ch:=ch) (fun b hb=>⟨(hc b hb).2.2.2.1,(hc b hb).2.1,(hc b hb).2.2.2.2.1,(hc b hb).2.2.2.2.2⟩) (fun b u _ _ h e _=>k b u h e) (fun b u _ _ h e _=>⟨u.slots,k b u h e⟩)
  (fun _ _ _ _ n=>n) (fun b u h e=>⟨u,k b u h e⟩) (fun _ _ e=>e) (fun _ _ _ e=>e) (fun b ps e=>⟨#[],by rw[e];simp⟩) (fun m hm=>?_) (fun b u e=>?_) I.bare
 ·obtain⟨u,es,ep,ho,r⟩:=hm;exact⟨u,es,ep,k _ u (fun z=>(hc _ z).2.1 rfl) ho,r⟩
 ·refine (I.hok b u e).stay (fun c v hcc q=>k c v ?_ q) (fun _ q=>q) fun _ _ q=>q;rcases hcc with z|z
  ·rw[z];exact nit b u e
  ·exact nit c _ z
noncomputable def Itp (n:Nat) (ok:Hp->Prop) (f:Nat->Hp->V->V->Prop):It:=
 ⟨fun i H=>i<n/\ok H,fun i H x H'=>∃T u v,H T=none/\x=.ref T/\H'=upd H T (.tup [u,v])/\f i H u v,fun i H=>i=n/\ok H⟩
noncomputable def okZ (K:PySem.W.Frag) (a b:Addr) (n:Nat) (H:Hp):Prop:=∃xs ys,SqL K H a xs/\SqL K H b ys/\min xs.length ys.length=n
noncomputable def Itz (K:PySem.W.Frag) (a b:Addr) (n:Nat):It:=Itp n (okZ K a b n) fun i H u v=>(∀xs,SqL K H a xs->xs[i]?=some u)/\∀ys,SqL K H b ys->ys[i]?=some v
noncomputable def y6t (K:PySem.W.Frag) (ta tb:TE):TI:=fun σ H R=>ta σ H fun x H1=>tb σ H1 fun y H2=>∃a b xs ys,x=.ref a/\y=.ref b/\SqL K H2 a xs/\SqL K H2 b ys/\R (Itz K a b (min xs.length ys.length)) H2
section
variable {X:Cx} {es:List Expr} {k:Nat} {tpos:Pos}
end
theorem z5E {K:PySem.W.Frag} {ta tb:TE} {σ:St} {H:Hp} {R:It->Hp->Prop}:y6t K ta tb σ H R=ta σ H fun x H1=>tb σ H1 fun y H2=>∃a b xs ys,x=.ref a/\y=.ref b/\SqL K H2 a xs/\SqL K H2 b ys/\R (Itz K a b (min xs.length ys.length)) H2:=rfl
noncomputable def okE (K:PySem.W.Frag) (a:Addr) (n:Nat) (H:Hp):Prop:=∃xs,SqL K H a xs/\xs.length=n
noncomputable def Ite (K:PySem.W.Frag) (a:Addr) (n:Nat):It:=Itp n (okE K a n) fun i H u v=>u=.int i/\∀xs,SqL K H a xs->xs[i]?=some v
noncomputable def tnE (e it l:Addr) (i:Nat) (h:Heap):Prop:=(∃old,IsEnum h e it i old)/\h.IsListIter it l i
theorem z7t {P:Program} {w:World} {K:PySem.W.Frag} {es:List Expr} {k:Nat} {pos:Pos} {e it l:Addr} {n:Nat} (d1:e≠it) (d2:l≠e) (d3:l≠it) :
  Turn P w K (.Tuple es k pos) (Ite K l n) [e,it] e (tnE e it l) where
 mem:=by simp
 obj:=fun i h st b hb=>by
  obtain⟨⟨old,h1⟩,⟨o4,h4,_,d4⟩⟩:=st;simp only [List.mem_cons,List.not_mem_nil,or_false] at hb;rcases hb with rfl|rfl
  ·exact⟨_,h1,fun v q=>nomatch q⟩
  ·exact⟨_,h4,fun v q=>by rw[d4] at q;cases q⟩
 keep:=fun i h h' st kk=>by
  obtain⟨⟨old,h1⟩,h4⟩:=st;exact⟨⟨old,kk _ (by simp) _ h1⟩,h4.at fun o e=>kk _ (by simp) o e⟩
 item:=by
  intro X hP hw hK hc i pins s σ H E I hf st hg;subst hP hw hK;obtain⟨hi,xs,ha,hn⟩:=hg;obtain⟨us,ru,pu,_⟩:=I.list ha;have lu:=ru.length;obtain⟨h1,h4⟩:=st;have WT:=WalksT.enumerate (prog:=X.prog) (w:=X.w) (A:=X.A) (I.ok.hd hc) e it l d1 d2 d3 us.toArray;refine WT.item i s _ _ (by simp only [List.size_toArray];omega) ⟨h1,h4,pu.isList⟩ fun T vals h' tk hPt hT tup mid kk=>?_;obtain⟨t,x,ex,rfl⟩:=hPt;have ex':us[i]?=some x:=by simpa using ex
  have hxl:i<xs.length:=by omega
  have gx:xs[i]?=some xs[i]:=List.getElem?_eq_getElem hxl;obtain⟨x2,q1,rx⟩:=ru.get gx;rw[ex'] at q1;cases q1;refine⟨.ref T,rfl,WT.go es k pos i T { s with heap:=h',toks:=tk } _ _ mid fun h2' st2 kk2=>?_⟩;have Tw:=WT.apart i T h' mid;have nT:H T=none:=I.hok.fresh hT;obtain⟨oT,hoT,cT,nT2,dT⟩:=tup;have tup2:IsTup h2' T #[.int i t,x]:=⟨oT,kk2 T oT Tw hoT,cT,nT2,dT⟩
  have I2:Inv X pins σ (upd H T (.tup [.int i,xs[i]])) { s with heap:=h2',toks:=tk }:=
   I.turnedLaid (fun b u hb e=>kk2 b u hb (kk b u hb e)) (fun b hb=>hf b hb) hT ⟨show 2<=sizeLine by decide,[.int i t,x],.cons ⟨t,rfl⟩ (.cons rx .nil),tup2⟩
  refine⟨.ref T,_,I2,rfl,⟨T,.int i,xs[i],nT,rfl,rfl,rfl,fun zs hz=>by rw[I.list_inj hz ha];exact gx⟩,?_,fun b hb=>?_⟩
  ·obtain⟨a1,a2,_⟩:=st2;exact⟨a1,a2⟩
  ·have:b≠T:=by
    rintro rfl;simp only [List.mem_cons,List.not_mem_nil,or_false] at hb;have lt:b<s.heap.objs.size:=by
     obtain⟨old,h1⟩:=h1;obtain⟨o4,h4,_⟩:=h4;rcases hb with rfl|rfl
     ·exact Heap.lt_size h1
     ·exact Heap.lt_size h4
    exact absurd (Nat.lt_of_lt_of_le lt hT) (Nat.lt_irrefl _)
   rw[za this];exact (hf b hb).1
 done:=by
  intro X hP hw hK hc i pins s σ H E I hf st hg;subst hP hw hK;obtain⟨hi,xs,ha,hn⟩:=hg;obtain⟨us,ru,pu,_⟩:=I.list ha;have lu:=ru.length;obtain⟨h1,h4⟩:=st;have WT:=WalksT.enumerate (prog:=X.prog) (w:=X.w) (A:=X.A) (I.ok.hd hc) e it l d1 d2 d3 us.toArray;have ei:us.toArray.size=i:=by simp only [List.size_toArray];omega
  refine WT.done s _ _ (by rw[ei];exact⟨h1,h4,pu.isList⟩) fun h' tk kk=>⟨rfl,I.turnedL kk fun b hb=>hf b hb⟩
 self:=fun A i s Q E st h=>by
  obtain⟨⟨old,h1⟩,_⟩:=st;exact wpAny_pyIter_enum h1 h
noncomputable def y5J (K:PySem.W.Frag) (ta:TE):TI:=fun σ H R=>ta σ H fun x H1=>∃a xs,x=.ref a/\SqL K H1 a xs/\R (Ite K a xs.length) H1
section
variable {X:Cx} {es:List Expr} {k:Nat} {tpos:Pos}
theorem y3M {l:Expr} {tl:TE} {p pos:Pos} (hg:Gl X "enumerate") (hm:X.mg "enumerate" = none) (hl:PE X l tl) (hs:starEach [l] X.env=[(false,eval l X.env)]:=by rfl) :
  PI X (.Tuple es k tpos) (.Call (.Name "enumerate" p) [l] [] pos) (y5J X.K tl):=by
 intro pins s σ H R I h;refine Call_ (jr I hg hm (u:=.type "enumerate") (by decide +kernel) (PyProof.Rows.callWith_type1 ?_ hs rfl));refine thn ((zB hl zD hs) pos pins s σ H (fun vs H1=>∃x:V,vs=[x]/\∃a xs,x=.ref a/\SqL X.K H1 a xs/\R (Ite X.K a xs.length) H1) I ?_) fun us s1 ⟨vs,H1,I1,r,x,e,a,xs,ea,ha,q⟩=>?_
 ·show tl σ H fun x H1=>∃x',[x]=[x']/\_;have e:(fun (x:V) (H1:Hp)=>∃x',[x]=[x']/\∃a xs,x'=V.ref a/\SqL X.K H1 a xs/\R (Ite X.K a xs.length) H1)=fun (x:V) (H1:Hp)=>∃a xs,x=V.ref a/\SqL X.K H1 a xs/\R (Ite X.K a xs.length) H1:=by
   funext x H1;refine propext ⟨fun⟨x',e,q⟩=>?_,fun q=>⟨x,rfl,q⟩⟩;cases e;exact q
  rw[e];exact h
 subst e ea;obtain⟨u,rfl,r1⟩:=Vals.one r;cases r1;obtain⟨us,ru,pu,_⟩:=I1.list ha;have la:a<s1.heap.objs.size:=by obtain⟨o,e,_⟩:=pu.isList;exact Heap.lt_size e
 refine call_enumerate_list pu.isList fun h' hz hi1 hsz hk=>?_;refine wpAny_pyIter_enum hz ?_;have I2:Inv X pins σ H1 { s1 with heap:=h' }:=I1.kept (t':=s1.toks) hk;refine⟨_,_,_,_,H1,rfl,I2,z7t (Nat.succ_ne_self _) (Nat.ne_of_lt (Nat.lt_succ_of_lt la)) (Nat.ne_of_lt la),⟨⟨_,hz⟩,hi1⟩,fun c hc=>?_,q⟩;have hc':s1.heap.objs.size<=c:=by
  simp only [List.mem_cons,List.not_mem_nil,or_false] at hc;rcases hc with rfl|rfl <;> first|exact Nat.le_refl _|exact Nat.le_add_right _ _
 exact I1.fpOk hc' (I1.hok.fresh hc')
end
theorem z2E {K:PySem.W.Frag} {ta:TE} {σ:St} {H:Hp} {R:It->Hp->Prop}:y5J K ta σ H R=ta σ H fun x H1=>∃a xs,x=.ref a/\SqL K H1 a xs/\R (Ite K a xs.length) H1:=rfl
theorem z9w {K:PySem.W.Frag} {a:Addr} {xs:List V} {g:TG} {tb:TS} {D:Ends} {σ:St} {H:Hp} (Pv:Nat->St->Hp->Prop) (h0:Pv 0 σ H) (hl:∀i σ H,Pv i σ H->SqL K H a xs)
  (hs:∀(i:Nat) v T σ H,xs[i]?=some v->H T=none->Pv i σ H->g (.ref T) σ (upd H T (.tup [.int i,v])) fun σ2 H2=>tb { D with nx:=Pv (i+1),ct:=Pv (i+1),bk:=D.nx } σ2 H2)
  (hd:∀σ H,Pv xs.length σ H->D.nx σ H):y2j (Ite K a xs.length) g tb D σ H:=by
 refine⟨fun i m σ H=>m=xs.length-i/\i<=xs.length/\Pv i σ H,⟨_,rfl,Nat.zero_le _,h0⟩,?_⟩;rintro i m σ1 H1 ⟨rfl,hi,p⟩;have qa:=hl i σ1 H1 p;by_cases hlt:i<xs.length
 ·refine .inr ⟨⟨hlt,xs,qa,rfl⟩,Pv (i+1),fun σ' H' p'=>⟨xs.length-(i+1),by omega,rfl,hlt,p'⟩,fun x H' y=>?_⟩;obtain⟨T,u,v,nT,rfl,rfl,rfl,f2⟩:=y;exact hs i v T σ1 H1 (f2 xs qa) nT p
 ·have e:i=xs.length:=by omega
  subst e;exact .inl ⟨⟨rfl,xs,qa,rfl⟩,hd σ1 H1 p⟩
noncomputable def Its (lo c:Int) (n:Nat):It:=⟨fun i _=>i<n,fun i H x H'=>H'=H/\x=.int (lo+i*c),fun i _=>n<=i⟩
theorem z4L {P:Program} {w:World} {K:PySem.W.Frag} {tg:Expr} (it:Addr) (lo c:Int) (n:Nat):Turn P w K tg (Its lo c n) [it] it (fun i h=>IsRangeIter h it (lo+(i:Nat)*c) ((n:Int)-(i:Nat)) c) where
 mem:=by simp
 obj:=fun i h st b hb=>by
  obtain rfl:b=it:=by simpa using hb
  exact⟨_,st,fun v z=>nomatch (show Data.fields _=Data.cell v from z)⟩
 keep:=fun i h h' st k=>k it (by simp) _ st
 item:=by
  intro X hP hw hK hc i pins s σ H E I hf st hg;subst hP hw hK;obtain⟨f0,f1,f2,f3,f4,f5⟩:=hf it (by simp);have WR:=Walks.range (prog:=X.prog) (w:=X.w) (I.ok.hd hc) it lo c n;refine WR.item i s _ _ hg st fun v h' tk hv st' kk=>?_;obtain⟨t,rfl⟩:=hv;have I1:Inv X pins σ H { s with heap:=h',toks:=tk }:=I.turned (fun b o hb e=>kk b o (by simpa using hb) e) f0 f1 f3 f4 f5;exact⟨_,rfl,z5W (s:={ s with heap:=h',toks:=tk }) (n:= "range_iterator") st' rfl rfl (by decide) ⟨.int (lo+i*c),H,I1,⟨t,rfl⟩,⟨rfl,rfl⟩,st',fun b hb=>(hf b hb).1⟩⟩
 done:=by
  intro X hP hw hK hc i pins s σ H E I hf st hg;subst hP hw hK;obtain⟨f0,f1,f2,f3,f4,f5⟩:=hf it (by simp);exact wpAny_pyNext_range_end (I.ok.hd hc) st (by have:n<=i:=hg;omega) fun h' eb=>⟨rfl,I.turned (t':=s.toks) (fun b o hb e=>eb b o hb e) f0 f1 f3 f4 f5⟩
 self:=fun _ _ _ _ _ st h=>wpAny_pyIter_rangeiter st h
theorem z4M {P:Program} {w:World} {K:PySem.W.Frag} {tg:Expr} (it:Addr) (lo c:Int) (n:Nat):Turn P w K tg (Its lo c n) [it] it (fun i h=>IsLongIter h it (lo+(i:Nat)*c) ((n:Int)-(i:Nat)) c) where
 mem:=by simp
 obj:=fun i h st b hb=>by
  obtain rfl:b=it:=by simpa using hb
  exact⟨_,st,fun v z=>nomatch (show Data.fields _=Data.cell v from z)⟩
 keep:=fun i h h' st k=>k it (by simp) _ st
 item:=by
  intro X hP hw hK hc i pins s σ H E I hf st hg;subst hP hw hK;obtain⟨f0,f1,f2,f3,f4,f5⟩:=hf it (by simp);have WR:=Walks.longrange (prog:=X.prog) (w:=X.w) (I.ok.hd hc) it lo c n;refine WR.item i s _ _ hg st fun v h' tk hv st' kk=>?_;obtain⟨t,rfl⟩:=hv;have I1:Inv X pins σ H { s with heap:=h',toks:=tk }:=I.turned (fun b o hb e=>kk b o (by simpa using hb) e) f0 f1 f3 f4 f5;exact⟨_,rfl,z5W (s:={ s with heap:=h',toks:=tk }) (n:= "longrange_iterator") st' rfl rfl (by decide) ⟨.int (lo+i*c),H,I1,⟨t,rfl⟩,⟨rfl,rfl⟩,st',fun b hb=>(hf b hb).1⟩⟩
 done:=by
  intro X hP hw hK hc i pins s σ H E I hf st hg;subst hP hw hK;obtain⟨f0,f1,f2,f3,f4,f5⟩:=hf it (by simp);exact wpAny_pyNext_long_end (I.ok.hd hc) st (by have:n<=i:=hg;omega) fun h' eb=>⟨rfl,I.turned (t':=s.toks) (fun b o hb e=>eb b o hb e) f0 f1 f3 f4 f5⟩
 self:=fun _ _ _ _ _ st h=>wpAny_pyIter_longiter st h
section
variable {X:Cx} {tg:Expr}
theorem z8f {pins:List (Addr×Obj)} {σ:St} {H:Hp} {s:Shared} {R:It->Hp->Prop} {E:Value->Shared->Prop} {lo hi c:Int} {t u v:Tok} {tk:Nat} (I:Inv X pins σ H s) {n:Nat} (hn:(n:Int)=Builtin.Range.rangeSize lo hi c)
  (q:R (Its lo c n) H):wpAny (model X.prog X.w) X.A (pyIter (.ref s.heap.objs.size)) (PIE X pins σ tg R) E { s with heap:=s.heap.push { cls:=.type "range",data:=.fields #[.int lo t,.int hi u,.int c v] },toks:=tk }:=by
 have I1:Inv X pins σ H { s with heap:=s.heap.push { cls:=.type "range",data:=.fields #[.int lo t,.int hi u,.int c v] },toks:=tk }:=I.kept fun b o e=>Heap.get?_push_of_some _ e;have e1:lo+((0:Nat):Int)*c=lo:=by simp
 have e2:((n:Nat):Int)-((0:Nat):Int)=Builtin.Range.rangeSize lo hi c:=by rw[←hn];simp
 by_cases hs:Builtin.Range.small lo hi c=true
 ·refine wpAny_pyIter_range (IsRange.new ..) hs ?_;refine⟨_,[_],_,_,H,rfl,I1.kept (t':=tk) fun b o e=>Heap.get?_push_of_some _ e,z4L _ lo c n,?_,fun b hb=>?_,q⟩
  ·show IsRangeIter _ _ (lo+((0:Nat):Int)*c) (((n:Nat):Int)-((0:Nat):Int)) c;rw[e1,e2];exact Heap.get?_push_size _ rfl
  ·obtain rfl:=List.mem_singleton.mp hb;exact I1.fpOk (Nat.le_refl _) (I1.hok.fresh (Nat.le_refl _))
 ·refine wpAny_pyIter_longrange (IsRange.new ..) (by simpa using hs) ?_;refine⟨_,[_],_,_,H,rfl,I1.kept (t':=tk) fun b o e=>Heap.get?_push_of_some _ e,z4M _ lo c n,?_,fun b hb=>?_,q⟩
  ·show IsLongIter _ _ (lo+((0:Nat):Int)*c) (((n:Nat):Int)-((0:Nat):Int)) c;rw[e1,e2];exact Heap.get?_push_size _ rfl
  ·obtain rfl:=List.mem_singleton.mp hb;exact I1.fpOk (Nat.le_refl _) (I1.hok.fresh (Nat.le_refl _))
noncomputable def y5t (ta:TA):TI:=fun σ H R=>ta σ H fun vs H1=>∃i j:Int,vs=[.int i,.int j]/\R (Its i 1 (j-i).toNat) H1
noncomputable def y5E (ta:TA):TI:=fun σ H R=>ta σ H fun vs H1=>∃(i j c:Int) (n:Nat),vs=[.int i,.int j,.int c]/\0<c/\c<1000000/\(n:Int)=Builtin.Range.rangeSize i j c/\R (Its i c n) H1
theorem z3O {a b c:Expr} {ta:TA} {p pos:Pos} (hg:Gl X "range") (hm:X.mg "range" = none) (ha:PA X [a,b,c] ta) (hs:starEach [a,b,c] X.env=[(false,eval a X.env),(false,eval b X.env),(false,eval c X.env)]:=by rfl) (hs2:starEach [b,c] X.env=[(false,eval b X.env),(false,eval c X.env)]:=by rfl) :
  PI X tg (.Call (.Name "range" p) [a,b,c] [] pos) (y5E ta):=by
 intro pins s σ H R I h;refine Call_ (jr I hg hm boot_range (PyProof.Rows.callWith_type1 (thn (ha pos pins s σ H _ I h) fun us s1 ⟨vs,H1,I1,r1,q1⟩=>?_) (by rw[hs,hs2]) (by rw[hs2];rfl)));obtain⟨i,j,c,n,e,c0,c1,hn,q⟩:=q1;subst e;cases r1 with
 | cons r rr=>
  obtain⟨u,v,rfl,⟨t,rfl⟩,⟨t',rfl⟩⟩:=Vals.two rr;obtain⟨t2,rfl⟩:=r;exact call_range_3 (by omega) (z8f I1 hn q) (Or.inl (PyProof.noPylong_small (by omega)))
end
section
variable {D:Ends} {σ:St} {H:Hp} {Q:VK}
theorem z1y {ta:TA} {R:It->Hp->Prop}:y5t ta σ H R=ta σ H fun vs H1=>∃i j:Int,vs=[.int i,.int j]/\R (Its i 1 (j-i).toNat) H1:=rfl
theorem z1z {ta:TA} {R:It->Hp->Prop}:y5E ta σ H R=ta σ H fun vs H1=>∃(i j c:Int) (n:Nat),vs=[.int i,.int j,.int c]/\0<c/\c<1000000/\(n:Int)=Builtin.Range.rangeSize i j c/\R (Its i c n) H1:=rfl
theorem z3t {lo c:Int} {n:Nat} {g:TG} {tt:TT} {te:TE} {own:List Str} {fr:List Nat} (Sv:St->Prop) (Pv:Addr->Nat->List V->Hp->Prop) (hS:Sv (st0 own fr σ))
  (h0:∀D,H D=none->Pv D 0 [] (upd H D (.lst [])))
  (hs:∀D i ys σ H',i<n->Sv σ->H' D=some (.lst ys)->ys.length<=i->Pv D i ys H'->g (.int (lo+i*c)) σ H' fun σ2 H2=>tt σ2 H2 fun b H3=>if b=true then te σ2 H3 fun y H4=>CompP Sv Pv D i σ2 y H4 else qR Sv Pv D (i+1) σ2 H3)
  (hd:∀D ys H',H' D=some (.lst ys)->Pv D n ys H'->Q (.ref D) H'):kC (Its lo c n) g tt te own fr σ H Q:=by
 intro D hD;refine⟨fun i m σ H=>m=n-i/\i<=n/\qR Sv Pv D i σ H,⟨_,rfl,Nat.zero_le _,hS,[],zH,Nat.le_refl _,h0 D hD⟩,?_⟩;rintro i m σ1 H1 ⟨rfl,hi,hs1,ys,hy,hy2,p⟩;by_cases hlt:i<n
 ·refine .inr ⟨hlt,qR Sv Pv D (i+1),fun σ' H' p'=>⟨n-(i+1),by omega,rfl,hlt,p'⟩,fun x H' y=>?_⟩;obtain⟨e,y⟩:=y;subst e y;exact hs D i ys σ1 _ hlt hs1 hy hy2 p
 ·have e:i=n:=by omega
  subst e;exact .inl ⟨Nat.le_refl _,hd D ys H1 hy p⟩
end
theorem rsN {a b c:Int} (h:0<c):((Builtin.Range.rangeSize a b c).toNat:Int)=Builtin.Range.rangeSize a b c:=by
 unfold Builtin.Range.rangeSize;rw[if_pos h];split
 ·have:=Int.ediv_nonneg (show 0<=b-a-1 by omega) (show 0<=c by omega);omega
 ·rfl
theorem y5n {a b c:Int} (h:0<c) {i:Nat} (hi:i<(Builtin.Range.rangeSize a b c).toNat):a+i*c<b:=by
 have e:=rsN (a:=a) (b:=b) h;have hi':(i:Int)<Builtin.Range.rangeSize a b c:=by omega
 unfold Builtin.Range.rangeSize at hi';rw[if_pos h] at hi';split at hi'
 ·have h1:(i:Int)<=(b-a-1)/c:=by omega
  have h2:=(Int.le_ediv_iff_mul_le h).mp h1;omega
 ·omega
noncomputable def CI (mg:Str->Option Value) (x:Str) (n:Int):Prop:=∃t,mg x=some (.int n t)
theorem z5c {K:PySem.W.Frag} {h:Heap} {mg:Str->Option Value} {x:Str} {n:Int} {t:Tok} (X:K.In h) (G:h.Ns mainGlobals mg) (a:PySem.W.nsIn K mainGlobals x=some (some (.int n t))):CI mg x n:=⟨t,PySem.W.mg_of X G a⟩
theorem z1m {X:Cx} {x:Str} {n:Int} {pos:Pos} (hg:Gl X x) (h:CI X.mg x n) (hd:(x == ("__debug__" : Str))=false:=by decide):PE X (.Name x pos) (tC (.int n)):=by
 obtain⟨t,e⟩:=h;exact v6 hg e ⟨t,rfl⟩ hd
noncomputable def CT (K:PySem.W.Frag) (mg:Str->Option Value) (x:Str) (ns:List Int):Prop:=∃a:Addr,mg x=some (.ref a)/\∀H:Hp,SqT K H a (ns.map V.int)
theorem y5z {K:PySem.W.Frag} {h:Heap} {mg:Str->Option Value} {x:Str} {ns:List Int} {a:Addr} {o:Obj} {its:Array Value} {n:Nat} (X:K.In h) (G:h.Ns mainGlobals mg) (e:PySem.W.nsIn K mainGlobals x=some (some (.ref a)))
  (l:K.lookup a=some o) (c:o.cls=.type "tuple") (d:o.data=.seq its n) (z:its.size<=sizeLine) (v:Vals (ns.map V.int) its.toList):CT K mg x ns:=⟨a,PySem.W.mg_of X G e,fun _=>.inr ⟨o,its,n,l,c,d,z,v⟩⟩
end L2
namespace SM
noncomputable def qv (u:T3) (s r:Int):Bool:=decide (u.1-u.2.2<=(r-u.2.1-u.2.2)%zg s u.1)
theorem z0p {p l x:Int} (hp:1<=p) (l0:1<=l) (l1:l<p):(x-l)%p<p-l ↔ l<=x%p:=by
 have a:=Int.emod_nonneg x (show p≠0 by omega);have b:=Int.emod_lt_of_pos x (show 0<p by omega);have e:=Int.mul_ediv_add_emod x p;by_cases c:l<=x%p
 ·have e2:(x-l)%p=x%p-l:=by
   have:x-l=(x%p-l)+p*(x/p):=by omega
   rw[this,Int.add_mul_emod_self_left,Int.emod_eq_of_lt (by omega) (by omega)]
  rw[e2];omega
 ·have e2:(x-l)%p=x%p-l+p:=by
   have:x-l=(x%p-l+p)+p*(x/p-1):=by
    rw[Int.mul_sub,Int.mul_one];omega
   rw[this,Int.add_mul_emod_self_left,Int.emod_eq_of_lt (by omega) (by omega)]
  rw[e2];omega
theorem z6W {p f l s r:Int} (hp:1<=p) (l0:1<=l) (l1:l<=p):(p-l<=(r-f-l)%zg s p) ↔ ∀k:Nat,(k:Int)<p->(r+s*k-f)%p<l:=by
 have b:∀x:Int,0<=x%p/\x%p<p:=fun x=>⟨Int.emod_nonneg x (by omega),Int.emod_lt_of_pos x (by omega)⟩
 have gp:=yK (a:=s) (b:=p) (by omega);by_cases c:l=p
 ·subst c;refine⟨fun _ k _=>(b _).2,fun _=>?_⟩;have:=Int.emod_nonneg (r-f-l) (show zg s l≠0 by omega);omega
 ·have eg:zg p (s%p)=zg s p:=kX s p;have N:=wJ (st:=r-f-l) (sp:=s) (w:=p) (n:=p-l) (by omega) (by omega);rw[eg] at N;refine⟨fun h k hk=>?_,fun h=>?_⟩
  ·have n:=N.mpr h;have L:=yJ (st:=r-f-l) (sp:=s) (w:=p) (n:=p-l) (by omega) (by omega);rw[n] at L;by_cases d:(r+s*k-f)%p<l
   ·exact d
   ·exfalso;have:=L k (by omega);unfold jy at this;have e:r-f-l+s*(k:Int)=(r+s*k-f)-l:=by omega
    rw[e] at this;exact this ((z0p hp l0 (by omega)).mpr (by omega))
  ·refine N.mp ?_;cases hf:yV (r-f-l) s p (p-l) with
   | none=>rfl
   | some i=>
    exfalso;have L:=yJ (st:=r-f-l) (sp:=s) (w:=p) (n:=p-l) (by omega) (by omega);rw[hf] at L;obtain⟨i0,ih,_⟩:=L;unfold jy at ih;have il:=ju (w:=p) (by omega) (show 1<=p-l by omega) hf;have ip:p/zg p (s%p)<=p:=Int.ediv_le_self _ (by omega);have e:r-f-l+s*i=(r+s*i-f)-l:=by omega
    rw[e] at ih;have:=(z0p hp l0 (by omega)).mp ih;have hk:=h i.toNat (by omega);have ei:((i.toNat:Nat):Int)=i:=by omega
    rw[ei] at hk;omega
end SM
namespace L2
open PySem PySem.Spec PyProof.Rows SM
inductive Pap where
 | inn (k:Int)
 | par (b:Int) (ps:List Pap)
mutual
noncomputable def Pap.dep:Pap->Nat
 | .inn _=>0
 | .par _ ps=>Pap.deps ps+1
noncomputable def Pap.deps:List Pap->Nat
 | []=>0
 | p::ps=>max p.dep (Pap.deps ps)
end
theorem Pap.dep_mem:∀ {ps:List Pap} {p:Pap},p∈ps->p.dep<=Pap.deps ps
 | q::ps,p,h=>by
  simp only [Pap.deps];rcases List.mem_cons.mp h with e|e
  ·rw[e];omega
  ·have:=Pap.dep_mem e;omega
mutual
inductive PapIn (K:PySem.W.Frag) (N:Addr->Prop) (H:Hp):V->Pap->Prop where
 | inn {a:Addr} {k:Int}:H a=some (.tup [.str "in",.int k])->PapIn K N H (.ref a) (.inn k)
 | par {a l:Addr} {b:Int} {xs:List V} {ps:List Pap}:H a=some (.tup [.str "parted",.int b,.ref l])->H l=some (.lst xs)->N l->xs.length<2^60->PapsIn K N H xs ps->PapIn K N H (.ref a) (.par b ps)
inductive PapsIn (K:PySem.W.Frag) (N:Addr->Prop) (H:Hp):List V->List Pap->Prop where
 | nil:PapsIn K N H [] []
 | cons {x:V} {xs:List V} {p:Pap} {ps:List Pap}:PapIn K N H x p->PapsIn K N H xs ps->PapsIn K N H (x::xs) (p::ps)
end
section
variable {K:PySem.W.Frag} {N N':Addr->Prop} {H H':Hp}
mutual
theorem PapIn.mono (g:Same H H'):∀ {v:V} {p:Pap},PapIn K N H v p->PapIn K N H' v p
 | _,_,.inn h=>.inn (g _ _ h)
 | _,_,.par h hl n hz hs=>.par (g _ _ h) (g _ _ hl) n hz (PapsIn.mono g hs)
theorem PapsIn.mono (g:Same H H'):∀ {vs:List V} {ps:List Pap},PapsIn K N H vs ps->PapsIn K N H' vs ps
 | _,_,.nil=>.nil
 | _,_,.cons h hs=>.cons (PapIn.mono g h) (PapsIn.mono g hs)
end
mutual
theorem PapIn.imp (f:∀l,N l->N' l):∀ {v:V} {p:Pap},PapIn K N H v p->PapIn K N' H v p
 | _,_,.inn h=>.inn h
 | _,_,.par h hl n hz hs=>.par h hl (f _ n) hz (PapsIn.imp f hs)
theorem PapsIn.imp (f:∀l,N l->N' l):∀ {vs:List V} {ps:List Pap},PapsIn K N H vs ps->PapsIn K N' H vs ps
 | _,_,.nil=>.nil
 | _,_,.cons h hs=>.cons (PapIn.imp f h) (PapsIn.imp f hs)
end
theorem z1C {D b:Addr} {zs ys:List V} {o:HO} (hD:H D=some (.lst zs)) (h:H b=some (.tup ys)):upd H D o b=some (.tup ys):=by
 rw[za (wC h hD (by intro z;cases z))];exact h
mutual
theorem PapIn.write {D:Addr} {zs:List V} {o:HO} (hD:H D=some (.lst zs)) (f:∀l,N l->l≠D):∀ {v:V} {p:Pap},PapIn K N H v p->PapIn K N (upd H D o) v p
 | _,_,.inn h=>.inn (z1C hD h)
 | _,_,.par h hl n hz hs=>.par (z1C hD h) (by rw[za (f _ n)];exact hl) n hz (PapsIn.write hD f hs)
theorem PapsIn.write {D:Addr} {zs:List V} {o:HO} (hD:H D=some (.lst zs)) (f:∀l,N l->l≠D):∀ {vs:List V} {ps:List Pap},PapsIn K N H vs ps->PapsIn K N (upd H D o) vs ps
 | _,_,.nil=>.nil
 | _,_,.cons h hs=>.cons (PapIn.write hD f h) (PapsIn.write hD f hs)
end
theorem PapsIn.len:∀ {xs:List V} {ps:List Pap},PapsIn K N H xs ps->xs.length=ps.length
 | _,_,.nil=>rfl
 | _,_,.cons _ h=>by simp [h.len]
theorem PapsIn.at:∀ {xs:List V} {ps:List Pap},PapsIn K N H xs ps->∀ {i:Nat} {x:V},xs[i]?=some x->∃p,ps[i]?=some p/\PapIn K N H x p
 | _,_,.nil,i,x,e=>by simp at e
 | _,_,.cons h hs,0,x,e=>by cases e;exact⟨_,rfl,h⟩
 | _,_,.cons h hs,i+1,x,e=>by simpa using hs.at (i:=i) (by simpa using e)
theorem PapsIn.append:∀ {xs ys:List V} {ps qs:List Pap},PapsIn K N H xs ps->PapsIn K N H ys qs->PapsIn K N H (xs++ys) (ps++qs)
 | _,_,_,_,.nil,k=>k
 | _,_,_,_,.cons h hs,k=>.cons h (hs.append k)
theorem PapsIn.snoc {xs:List V} {ps:List Pap} {x:V} {p:Pap} (h:PapsIn K N H xs ps) (k:PapIn K N H x p):PapsIn K N H (xs++[x]) (ps++[p]):=h.append (.cons k .nil)
end
noncomputable abbrev y0Y:Addr->Prop:=fun _=>True
theorem PapIn.any {K:PySem.W.Frag} {N:Addr->Prop} {H:Hp} {v:V} {p:Pap} (h:PapIn K N H v p):PapIn K y0Y H v p:=h.imp fun _ _=>trivial
mutual
noncomputable def zh (ws:List T3) (s r:Int):Pap->Bool
 | .inn k=>decide (0<=k) && (decide (k<ws.length) && qv (ws.getD k.toNat (1,0,1)) s r)
 | .par b ps=>decide (2<=b) && (decide ((ps.length:Int)=b) && zn ws s r b 0 ps)
noncomputable def zn (ws:List T3) (s r b:Int):Nat->List Pap->Bool
 | _,[]=>true
 | c,p::ps=>zh ws (s*b) (r+s*c) p && zn ws s r b (c+1) ps
end
theorem xb {ws:List T3} {s r b:Int}:∀ {ps:List Pap} {c i:Nat} {p:Pap},ps[i]?=some p->zn ws s r b c (ps.take (i+1))=(zn ws s r b c (ps.take i) && zh ws (s*b) (r+s*((c+i:Nat):Int)) p)
 | [],c,i,p,e=>by simp at e
 | q::ps,c,0,p,e=>by
  cases e;simp [zn]
 | q::ps,c,i+1,p,e=>by
  have e':ps[i]?=some p:=by simpa using e
  have ih:=xb (ws:=ws) (s:=s) (r:=r) (b:=b) (c:=c+1) e';simp only [List.take_succ_cons,zn];rw[ih,Bool.and_assoc];have:c+1+i=c+(i+1):=by omega
  rw[this]
theorem jR {ws:List T3} {s r b:Int}:∀ {ps:List Pap} {c i:Nat} {p:Pap},ps[i]?=some p->zh ws (s*b) (r+s*((c+i:Nat):Int)) p=false->zn ws s r b c ps=false
 | [],c,i,p,e,_=>by simp at e
 | q::ps,c,0,p,e,h=>by
  cases e;simp only [zn];rw[show c+0=c from rfl] at h;rw[h,Bool.false_and]
 | q::ps,c,i+1,p,e,h=>by
  have e':ps[i]?=some p:=by simpa using e
  simp only [zn];have:c+(i+1)=c+1+i:=by omega
  rw[this] at h;rw[jR e' h,Bool.and_false]
mutual
noncomputable def Pap.kn:Pap->Nat
 | .inn _=>1
 | .par _ ps=>Pap.kns ps+1
noncomputable def Pap.kns:List Pap->Nat
 | []=>0
 | p::ps=>p.kn+Pap.kns ps
end
mutual
noncomputable def Pap.nm:Pap->List Int
 | .inn k=>[k]
 | .par _ ps=>Pap.nms ps
noncomputable def Pap.nms:List Pap->List Int
 | []=>[]
 | p::ps=>p.nm++Pap.nms ps
end
theorem Pap.kn_pos (p:Pap):1<=p.kn:=by cases p <;> simp [Pap.kn]
theorem Pap.kn_mem:∀ {ps:List Pap} {p:Pap},p∈ps->p.kn<=Pap.kns ps
 | q::ps,p,h=>by
  simp only [Pap.kns];rcases List.mem_cons.mp h with e|e
  ·rw[e];omega
  ·have:=Pap.kn_mem e;omega
theorem Pap.kns_len:∀ps:List Pap,ps.length<=Pap.kns ps
 | []=>Nat.zero_le _
 | p::ps=>by
  have:=Pap.kns_len ps;have:=p.kn_pos;simp only [Pap.kns,List.length_cons];omega
mutual
theorem Pap.nm_len:∀p:Pap,p.nm.length<=p.kn
 | .inn _=>by simp [Pap.nm,Pap.kn]
 | .par _ ps=>by
  have:=Pap.nms_len ps;simp only [Pap.nm,Pap.kn];omega
theorem Pap.nms_len:∀ps:List Pap,(Pap.nms ps).length<=Pap.kns ps
 | []=>by simp [Pap.nms]
 | p::ps=>by
  have h1:=p.nm_len;have h2:=Pap.nms_len ps;simp only [Pap.nms,Pap.kns,List.length_append];omega
end
theorem Pap.kns_take:∀ {ps:List Pap} {i:Nat} {p:Pap},ps[i]?=some p->Pap.kns (ps.take (i+1))=Pap.kns (ps.take i)+p.kn
 | [],i,p,e=>by simp at e
 | q::ps,0,p,e=>by cases e;simp [Pap.kns]
 | q::ps,i+1,p,e=>by
  have:=Pap.kns_take (ps:=ps) (i:=i) (by simpa using e);simp only [List.take_succ_cons,Pap.kns];omega
theorem Pap.nms_take:∀ {ps:List Pap} {i:Nat} {p:Pap},ps[i]?=some p->Pap.nms (ps.take (i+1))=Pap.nms (ps.take i)++p.nm
 | [],i,p,e=>by simp at e
 | q::ps,0,p,e=>by cases e;simp [Pap.nms]
 | q::ps,i+1,p,e=>by
  have:=Pap.nms_take (ps:=ps) (i:=i) (by simpa using e);simp only [List.take_succ_cons,Pap.nms,this,List.append_assoc]
theorem Pap.kns_append:∀(ps qs:List Pap),Pap.kns (ps++qs)=Pap.kns ps+Pap.kns qs
 | [],qs=>by simp [Pap.kns]
 | p::ps,qs=>by simp only [List.cons_append,Pap.kns,Pap.kns_append ps qs];omega
section
variable {K:PySem.W.Frag} {N:Addr->Prop} {H H':Hp} {X:Addr} {zs:List V}
end
section
variable {X:Cx}
end
theorem z4c {K:PySem.W.Frag} {T:String} {r:V->List V->Hp->VK->Prop} {to:TE} {σ:St} {H:Hp} {Q:VK}:y6i K T r to σ H Q=to σ H fun x H1=>tyV K T x H1/\r x [] H1 Q:=rfl
noncomputable def Wk (u:T3):Prop:=1<=u.1/\0<=u.2.1/\u.2.1<u.1/\1<=u.2.2/\u.2.2<=u.1
noncomputable def y6B (w:T3) (t:Int):Prop:=(t-w.2.1)%w.1<w.2.2
theorem qq {ws:List T3} {s r b:Int}:∀ {ps:List Pap} {c i:Nat} {p:Pap},zn ws s r b c ps=true->ps[i]?=some p->zh ws (s*b) (r+s*((c+i:Nat):Int)) p=true
 | [],c,i,p,_,e=>by simp at e
 | q::ps,c,0,p,h,e=>by
  cases e;unfold zn at h;simp only [Bool.and_eq_true] at h;exact h.1
 | q::ps,c,i+1,p,h,e=>by
  unfold zn at h;simp only [Bool.and_eq_true] at h;have:=qq (i:=i) h.2 (by simpa using e);have e2:c+1+i=c+(i+1):=by omega
  rw[e2] at this;exact this
theorem z6X {u:T3} {s r:Int} (hu:Wk u) (h:qv u s r=true) (k:Int):y6B u (r+s*k):=by
 obtain⟨u0,u1,u2,u3,u4⟩:=hu;unfold qv at h;have L:=(z6W (p:=u.1) (f:=u.2.1) (l:=u.2.2) (s:=s) (r:=r) u0 u3 u4).mp (of_decide_eq_true h);have m0:=Int.emod_nonneg k (show u.1≠0 by omega);have m1:=Int.emod_lt_of_pos k (show 0<u.1 by omega);have:=L (k%u.1).toNat (by omega);have e0:(((k%u.1).toNat:Nat):Int)=k%u.1:=by omega
 rw[e0] at this;unfold y6B;have e:=Int.mul_ediv_add_emod k u.1;have e2:r+s*k-u.2.1=(r+s*(k%u.1)-u.2.1)+u.1*(s*(k/u.1)):=by
  have e3:s*k=s*(k%u.1)+u.1*(s*(k/u.1)):=by
   have:k=k%u.1+u.1*(k/u.1):=by omega
   calc s*k=s*(k%u.1+u.1*(k/u.1)):=by rw[←this]
    _=s*(k%u.1)+u.1*(s*(k/u.1)):=by rw[Int.mul_add,←Int.mul_assoc,Int.mul_comm s u.1,Int.mul_assoc]
  omega
 rw[e2,Int.add_mul_emod_self_left];exact this
section
variable {K:PySem.W.Frag} {N:Addr->Prop} {H H':Hp} {X Y:Addr} {xs ys:List V}
end
section
variable {K:PySem.W.Frag} {N:Addr->Prop} {H:Hp}
end
mutual
noncomputable def Pap.pd:Pap->PyData
 | .inn k=>.tuple [.str "in",.int k]
 | .par b ps=>.tuple [.str "parted",.int b,.list (Pap.pds ps)]
noncomputable def Pap.pds:List Pap->List PyData
 | []=>[]
 | p::ps=>p.pd::Pap.pds ps
end
mutual
theorem PapIn.dd {K:PySem.W.Frag} {N:Addr->Prop} {H:Hp}:∀ {v:V} {p:Pap},PapIn K N H v p->DD K H v p.pd
 | _,_,.inn h=>by
  simp only [Pap.pd];exact .tup (SqT.of h) (.cons (.str _) (.cons (.int _) .nil))
 | _,_,.par h hl _ _ hs=>by
  simp only [Pap.pd];exact .tup (SqT.of h) (.cons (.str _) (.cons (.int _) (.cons (.lst (SqL.of hl) (PapsIn.dds hs)) .nil)))
theorem PapsIn.dds {K:PySem.W.Frag} {N:Addr->Prop} {H:Hp}:∀ {vs:List V} {ps:List Pap},PapsIn K N H vs ps->DDs K H vs (Pap.pds ps)
 | _,_,.nil=>by simp only [Pap.pds];exact .nil
 | _,_,.cons h hs=>by simp only [Pap.pds];exact .cons (PapIn.dd h) (PapsIn.dds hs)
end
theorem ObjOk.there {P:Program} {w:World} {H:Hp} {h:Heap} {a:Addr}:∀ {o:HO},ObjOk P w H h a o->∃u,h.get? a=some u:=fun {o} x=>by
 induction o with
 | lst xs=>obtain⟨_,_,_,_,e⟩:=x;exact⟨_,e⟩
 | tup xs=>obtain⟨_,_,_,p⟩:=x;obtain⟨u,hu,_⟩:=p;exact⟨u,hu⟩
 | dK kvs=>obtain⟨_,_,_,_,o,_,_,e,_⟩:=x;exact⟨_,e⟩
 | dT kvs=>obtain⟨_,_,_,_,o,_,_,e,_⟩:=x;exact⟨_,e⟩
 | set S n=>obtain⟨o,_,_,_,e,_⟩:=x;exact⟨_,e⟩
 | ins C dx fs=>obtain⟨_,_,_,e,_⟩:=x;exact⟨_,e⟩
 | own y=>obtain⟨_,e⟩:=x;exact⟨_,e⟩
 | xd fs=>obtain⟨_,⟨_,_,_,e,_⟩,_⟩:=x;exact⟨_,e⟩
 | rng lo hi=>obtain⟨_,_,_,e⟩:=x;exact⟨_,e⟩
 | frz o u _=>exact⟨_,x.1⟩
 | tbl ps=>exact⟨_,x⟩
 | met f y=>exact⟨_,x⟩
 | ext φ=>exact x.2.1
structure Fly (h₀:Heap) (H:Hp) (h:Heap) (e:Addr) (cls:Value):Prop where
 new:h₀.get? e=none
 free:H e=none
 obj:∃oe vs T oT ts a0,h.get? e=some oe/\(oe.cls=cls/\vs[0]?=some a0)/\oe.data=.fields vs/\vs[1]?=some (.ref T)/\T≠e/\h.get? T=some oT/\oT.data=.fields ts/\ts[3]?=some .none/\
  h₀.get? T=none/\H T=none
noncomputable def CXx (P:Program) (w:World):CXT:=fun outer H s E e s'=>
 ∃a cls H',e=.ref a/\s'.os=s.os/\AllBare s'.gens/\Un (frs outer) [] H H' s.heap s'.heap/\HOk P w H' s'.heap/\Fly s.heap H' s'.heap a cls/\E cls (some a) H'
theorem HOk.but {P:Program} {w:World} {H:Hp} {h h':Heap} (hok:HOk P w H h) (as:List Addr) (hn:∀a∈as,H a=none) (k:∀b o,b∉as->h.get? b=some o->h'.get? b=some o):HOk P w H h':=fun b u e=>by
 refine (hok b u e).stay (fun c v hc q=>k c v (fun z=>?_) q) (fun _ q=>q) fun _ _ q=>q;rcases hc with rfl|hc
 ·rw[hn _ z] at e;cases e
 ·rw[hn _ z] at hc;cases hc
section
variable {P:Program} {w:World} {K:PySem.W.Frag} {mg:Str->Option Value} {base:Heap} {N:List Str} {qual:Str} {scope:Scope} {f:Addr} {cd:Value} {A:Around} {outer:List Env} {s:Shared} {H H1:Hp} {E:XK}
 {pins:List (Addr×Obj)} {σ:St} {s1:Shared} {e:Addr} {cls:Value}
theorem z6Y {B:Heap} {a0:Value} {h h':Heap} {as:List Addr} {stk:List Env} (hB:B=PySem.W.hideAll h (frs stk++as)) (has:∀a∈as,s.heap.get? a=none/\H1 a=none) (hea:e∈as)
  (hfs:∀b∈frs stk,H1 b=none) (hsub:∀b∈frs outer,b∈frs stk) (hnew:∀b∈frs stk,b∉frs outer->s.heap.get? b=none)
  (u:Un (frs outer) [] H H1 s.heap h) (hok:HOk P w H1 h) (L:Heap.LeftW B stk e cls a0 h h') (hF:h.FunFrames base stk):Un (frs outer) [] H H1 s.heap h'/\HOk P w H1 h'/\Fly s.heap H1 h' e cls:=by
 subst hB;obtain⟨k1,k2,⟨oe,vs,T,oT,ts,he,hc,hd,h1,hnT,hTe,hT,hdT,h3⟩,k4⟩:=L;have keep:∀b o,b∉frs stk++as->h.get? b=some o->h'.get? b=some o:=fun b o hb q=>k1 b o (PySem.W.hideAll_get _ q hb);have hall:∀a∈frs stk++as,H1 a=none:=fun a ha=>(List.mem_append.mp ha).elim (hfs a) fun z=>(has a z).2;have newAs:∀ {b:Addr} {o:Obj},s.heap.get? b=some o->b∉as:=fun {b o} q z=>by rw[(has b z).1] at q;cases q
 have hTf:T∉frs stk:=fun z=>by
  obtain⟨_,o,ho,hx⟩:=k2.mem z;rw[hT] at ho;cases ho;exact hx _ hdT
 have out:∀o,h.get? T=some o->T∈as:=fun o q=>by
  by_cases z:T∈frs stk++as
  ·exact (List.mem_append.mp z).elim (fun y=>absurd y hTf) id
  ·have:=PySem.W.hideAll_get (h:=h) _ q z;rw[hnT] at this;cases this
 have slot:∀b o,h.get? b=some o->b∈frs stk->∃sl,h'.get? b=some { o with slots:=sl }:=fun b o q hb=>by
  obtain⟨_,o',ho',hx⟩:=hF.mem hb;rw[q] at ho';cases ho';exact k4 b o q hx
 refine⟨⟨fun b o q n hb hx=>?_,fun b o q n hb hx=>?_,u.free,fun b o q hx=>?_,u.tups,u.frzs,u.tbls⟩,hok.but _ hall keep,⟨(has e hea).1,(has e hea).2,oe,vs,T,oT,ts,a0,he,hc,hd,h1,hTe,hT,hdT,h3,?_,?_⟩⟩
 ·refine keep b o (fun z=>(List.mem_append.mp z).elim (fun y=>?_) (newAs q)) (u.keep b o q n hb hx);by_cases hb':b∈frs outer
  ·exact hb hb'
  ·rw[hnew b y hb'] at q;cases q
 ·obtain⟨sl,e1⟩:=u.slot b o q n hb hx;obtain⟨sl',e2⟩:=slot b _ e1 (hsub b hb);exact⟨sl',e2⟩
 ·obtain⟨o',e1⟩:=u.there b o q hx;by_cases z:b∈frs stk
  ·obtain⟨sl,e2⟩:=slot b _ e1 z;exact⟨_,e2⟩
  ·exact⟨o',keep b o' (fun y=>(List.mem_append.mp y).elim z (newAs q)) e1⟩
 ·cases q:s.heap.get? T with
  | none=>rfl
  | some o=>
   obtain⟨o',e1⟩:=u.there T o q (by simp);exact absurd (out o' e1) (newAs q)
 ·cases q:H1 T with
  | none=>rfl
  | some o=>
   obtain⟨o',e1⟩:=ObjOk.there (hok T o q);rw[(has T (out o' e1)).2] at q;cases q
theorem z4O {h':Heap} {vs:List Value} (I:Inv (z0J (CXx P w) P w K mg base N qual scope f cd A outer s H E) pins σ H1 s1) (hx:Heap.MadeExcOf s1.heap h' e cls vs) (q:E cls (some e) H1) :
  (z0J (CXx P w) P w K mg base N qual scope f cd A outer s H E).xe (.ref e) { s1 with heap:=h' }:=by
 have hok:HOk P w H1 h':=I.hok.kept hx.keeps;have he1:H1 e=none:=by
  cases z:H1 e with
  | none=>rfl
  | some o=>
   obtain⟨o',e1⟩:=ObjOk.there (I.hok e o z);rw[hx.new] at e1;cases e1
 have hes:s.heap.get? e=none:=by
  cases z:s.heap.get? e with
  | none=>rfl
  | some o=>
   obtain⟨o',e1⟩:=I.base.there e o z (List.not_mem_nil);rw[hx.new] at e1;cases e1
 have hu:Un (frs outer) [] H H1 s.heap h':=Un.trans I.base (Un.kept hx.keeps);have hF:h'.FunFrames base (envOfC qual scope s.heap.objs.size f cd::outer):=Heap.FunFrames.of_keeps (fun b o z _=>⟨o,hx.keeps b o z,rfl⟩) I.stack;have hnw:∀b∈frs (envOfC qual scope s.heap.objs.size f cd::outer),b∉frs outer->s.heap.get? b=none:=fun b hb hn=>by
  rcases List.mem_cons.mp hb with rfl|hb
  ·exact Heap.get?_none_of_le (Nat.le_refl _)
  ·exact absurd hb hn
 obtain⟨t,he,_,_⟩:=hx.there;refine wpAny_leaving_firstW (base:=PySem.W.hideAll h' (frs (envOfC qual scope s.heap.objs.size f cd::outer)++[e])) (outer:=outer) (L:=s.heap.objs.size) (a0:=.ref t) I.ok.frames
  (PySem.W.funFrames_hide hF fun env z a ha=>List.mem_append_left _ (List.mem_filterMap.mpr ⟨env,z,ha⟩)) rfl he (fun b o z=>PySem.W.of_hideAll _ z) (PySem.W.hideAll_none _ (by simp)) rfl rfl rfl fun h2 L=>?_
 obtain⟨x1,x2,x3⟩:=z6Y (P:=P) (w:=w) (base:=base) (outer:=outer) (s:=s) (H:=H) (H1:=H1) (as:=[e]) rfl (fun a ha=>by rw[List.mem_singleton.mp ha];exact⟨hes,he1⟩) (by simp) I.stkFree (fun b hb=>List.mem_cons_of_mem _ hb) hnw hu hok L hF;exact⟨e,cls,H1,rfl,I.os,I.bare,x1,x2,x3,q⟩
theorem z7v (I:Inv (z0J (CXx P w) P w K mg base N qual scope f cd A outer s H E) pins σ H1 s1) (fl:Fly s.heap H1 s1.heap e cls) (q:E cls (some e) H1) :
  (z0J (CXx P w) P w K mg base N qual scope f cd A outer s H E).xe (.ref e) s1:=by
 obtain⟨oe,vs,T,oT,ts,a0,he,hc,hd,h1,hTe,hT,hdT,h3,hsT,hHT⟩:=fl.obj;have hF:s1.heap.FunFrames base (envOfC qual scope s.heap.objs.size f cd::outer):=I.stack;have hnw:∀b∈frs (envOfC qual scope s.heap.objs.size f cd::outer),b∉frs outer->s.heap.get? b=none:=fun b hb hn=>by
  rcases List.mem_cons.mp hb with rfl|hb
  ·exact Heap.get?_none_of_le (Nat.le_refl _)
  ·exact absurd hb hn
 have has:∀a∈[e,T],s.heap.get? a=none/\H1 a=none:=fun a ha=>by
  rcases List.mem_cons.mp ha with rfl|ha
  ·exact⟨fl.new,fl.free⟩
  ·rw[List.mem_singleton.mp ha];exact⟨hsT,hHT⟩
 refine wpAny_leaving_nextW (base:=PySem.W.hideAll s1.heap (frs (envOfC qual scope s.heap.objs.size f cd::outer)++[e,T])) (outer:=outer) (L:=s.heap.objs.size) (cls:=cls) (a0:=a0) I.ok.frames
  (PySem.W.funFrames_hide hF fun env z a ha=>List.mem_append_left _ (List.mem_filterMap.mpr ⟨env,z,ha⟩)) rfl ⟨oe,vs,T,oT,ts,he,hc,hd,h1,PySem.W.hideAll_none _ (by simp),hTe,hT,hdT,h3⟩
  (fun b o z=>PySem.W.of_hideAll _ z) (PySem.W.hideAll_none _ (by simp)) fun h2 L=>?_
 obtain⟨x1,x2,x3⟩:=z6Y (P:=P) (w:=w) (base:=base) (outer:=outer) (s:=s) (H:=H) (H1:=H1) (as:=[e,T]) rfl has (by simp) I.stkFree (fun b hb=>List.mem_cons_of_mem _ hb) hnw I.base I.hok L hF;exact⟨e,cls,H1,rfl,I.os,I.bare,x1,x2,x3,q⟩
end
theorem Inv.afterX {X:Cx} {pins:List (Addr×Obj)} {σ:St} {H:Hp} {s s':Shared} {E:XK} {e:Value} (I:Inv X pins σ H s) (h:CXx X.prog X.w X.stack H s E e s') :
  ∃a cls H',e=.ref a/\Inv X pins σ H' s'/\Fly s.heap H' s'.heap a cls/\E cls (some a) H':=by
 obtain⟨a,cls,H',rfl,os,bare,un,hok,fl,q⟩:=h;exact⟨a,cls,H',rfl,I.call' (ch:=[]) os un hok bare (fun b z=>absurd z (by simp)),fl,q⟩
theorem Fly.old {h₀ h1 h:Heap} {H:Hp} {e:Addr} {cls:Value} (x:Fly h1 H h e cls) (k:∀b o,h₀.get? b=some o->∃o',h1.get? b=some o'):Fly h₀ H h e cls:=by
 have none:∀b,h1.get? b=none->h₀.get? b=none:=fun b z=>by
  cases q:h₀.get? b with
  | none=>rfl
  | some o=>obtain⟨o',e1⟩:=k b o q;rw[z] at e1;cases e1
 obtain⟨oe,vs,T,oT,ts,a0,he,hc,hd,h1,hTe,hT,hdT,h3,hsT,hHT⟩:=x.obj;exact⟨none _ x.new,x.free,oe,vs,T,oT,ts,a0,he,hc,hd,h1,hTe,hT,hdT,h3,none _ hsT,hHT⟩
theorem y3V {P:Program} {w:World} {K:PySem.W.Frag} {mg:Str->Option Value} {base:Heap} {N:List Str} {qual:Str} {scope:Scope} {f:Addr} {cd:Value} {A:Around} {outer:List Env} {s:Shared} {H:Hp} {E:XK} :
  jx (CXx P w) (z0J (CXx P w) P w K mg base N qual scope f cd A outer s H E) E:=fun pins σ H1 s1 e s' I h=>by
 obtain⟨a,cls,H',rfl,I',fl,q⟩:=Inv.afterX I h;exact z7v I' (fl.old fun b o z=>I.base.there b o z List.not_mem_nil) q
abbrev VE:List Value:=[.type "ValueError",.type "Exception",.type "BaseException",.type "object"]
structure OX (K:PySem.W.Frag) (mg:Str->Option Value) (x:Str) (C:Addr) (bm:List Value):Prop where
 bound:mg x=some (.ref C)
 obj:∃N nm q bs hdct sn sub ab col dd k0 k1 k2 k3 k5,K.lookup C=some (excClassObj nm q C N bs bm hdct sn sub ab col dd k0 k1 k2 k3 k5 "ValueError.__new__")/\PySem.W.nsOkIn K N=true/\PySem.W.nsIn K N "__init__" = some none
 tail:PySem.W.tailIn K VE bm=true
theorem y3X {K:PySem.W.Frag} {h:Heap} {mg:Str->Option Value} {x:Str} {C N:Addr} {nm q:Str} {bs bm:List Value} {hdct:Bool} {sn:List Str} {sub:List Value} {ab:Bool} {col:Option Bool} {dd:Option Addr} {k0 k1 k2 k3 k5:Option Value}
  (X:K.In h) (G:h.Ns mainGlobals mg) (a:PySem.W.nsIn K mainGlobals x=some (some (.ref C))) (l:K.lookup C=some (excClassObj nm q C N bs bm hdct sn sub ab col dd k0 k1 k2 k3 k5 "ValueError.__new__"))
  (e:PySem.W.excIn K C VE "ValueError.__new__" = true):OX K mg x C bm:=by
 unfold PySem.W.excIn at e;rw[l] at e;simp only [Bool.and_eq_true,beq_iff_eq,Bool.not_eq_true'] at e;obtain⟨⟨⟨⟨⟨_,_⟩,_⟩,ht⟩,hok⟩,hni⟩:=e;exact⟨PySem.W.mg_of X G a,⟨N,nm,q,bs,hdct,sn,sub,ab,col,dd,k0,k1,k2,k3,k5,l,hok,hni⟩,ht⟩
noncomputable def y2h (X:Cx) (E:XK):Prop:=∀(pins:List (Addr×Obj)) (σ:St) (H:Hp) (s:Shared) (e:Addr) (cls:Value) (vs:List Value) (h':Heap),Inv X pins σ H s->Heap.MadeExcOf s.heap h' e cls vs->E cls (some e) H->X.xe (.ref e) { s with heap:=h' }
theorem z2l {P:Program} {w:World} {K:PySem.W.Frag} {mg:Str->Option Value} {base:Heap} {N:List Str} {qual:Str} {scope:Scope} {f:Addr} {cd:Value} {A:Around} {outer:List Env} {s:Shared} {H:Hp} {E:XK} :
  y2h (z0J (CXx P w) P w K mg base N qual scope f cd A outer s H E) E:=fun _ _ _ _ _ _ _ _ I hx q=>z4O I hx q
noncomputable def y4N (C:Addr) (E:XK) (t:TA):TS:=fun _ σ H=>t σ H fun vs H1=>vs.length<=1000/\∀a,H1 a=none->E (.ref C) (some a) H1
theorem kN {X:Cx} {x:Str} {C:Addr} {bm:List Value} {np cpos pos:Pos} {e₀:Expr} {rest:List Expr} {t:TA} {E:XK} (O:OX X.K X.mg x C bm) (hc:X.calm=true) (T:y2h X E) (ha:PA X (e₀::rest) t) (hg:Gl X x:=by rfl)
  (hdb:(x == ("__debug__" : Str))=false:=by decide) (he:starEach (e₀::rest) X.env=(false,eval e₀ X.env)::starEach rest X.env:=by rfl) (hpl:(backTo cpos (starEach rest X.env)).any (·.1)=false:=by rfl) :
  PS X (.Raise (some (.Call (.Name x np) (e₀::rest) [] cpos)) none pos) (y4N C E t):=by
 intro pins s σ H D I h;obtain⟨N,nm,q,bs,hdct,sn,sub,ab,col,dd,k0,k1,k2,k3,k5,lk,hok,hni⟩:=O.obj;have KB:X.K.In X.base:=I.mod.kin;refine wpAny_Raise_call_subT (C:=C) (nm:=nm) (q:=q) (N:=N) (bs:=bs) (bm:=bm) (hdct:=hdct) (sn:=sn) (sub:=sub) (ab:=ab) (col:=col) (dd:=dd) (k0:=k0) (k1:=k1) (k2:=k2) (k3:=k3) (k5:=k5)
  PySem.F.excBase_ValueError (mN:=X.base.nsMap N) ((PySem.W.tail_of_in I.kIn O.tail).hasType rfl) (I.ok.hd hc) (by rw[he];show (false || (backTo cpos (starEach rest X.env)).any (·.1))=false;rw[hpl];rfl) (PySem.W.nsMap_none_of_in KB hok hni) (vg I hg O.bound ⟨rfl,?_⟩ hdb)
 have h1:=ha cpos pins s σ H _ I h;rw[he] at h1 ⊢;refine Calls.evalArgs_plain (wpAny_mono h1 (fun us s₂ ⟨vs,H1,I1,r,hl,q⟩=>⟨rfl,?_,I1.kIn _ _ lk,?_,PySem.W.tail_of_in I1.kIn O.tail,fun h' e hm=>?_⟩) fun _ _ y=>y)
 ·rw[←r.length];exact Nat.le_of_lt (z8V hl)
 ·exact (Heap.Ns.of_isNs (PySem.W.isNs_of_in KB hok)).keeps I1.bk
 ·refine T pins σ H1 s₂ e _ _ h' I1 hm (q e ?_);cases z:H1 e with
  | none=>rfl
  | some o=>
   obtain⟨o',e1⟩:=ObjOk.there (I1.hok e o z);rw[hm.new] at e1;cases e1
theorem y4n {P:Program} {w:World} {CX:CXT} {K:PySem.W.Frag} {mg:Str->Option Value} {base:Heap} {N:List Str} {qual:Str} {scope:Scope} {f:Addr} {cd:Value} {A:Around} {outer:List Env} {s:Shared} {H:Hp} {E:XK} :
  PassesOwn (model P w) (z0J CX P w K mg base N qual scope f cd A outer s H E).A (z0J CX P w K mg base N qual scope f cd A outer s H E).env (z0J CX P w K mg base N qual scope f cd A outer s H E).xe:=
 fun _ _ h=>wpAny_leaving_again (SameStack.refl _) h
noncomputable def HasX (P:Program) (w:World) (K:PySem.W.Frag) (mg:Str->Option Value) (base:Heap) (k:Nat) (x:Str) (ps:List Str) (sp:Sp):Prop:=
 ∃f fd,FnOk P w K mg base (CXx P w) k f fd ps sp/\(∀us:List Value,us.length=ps.length->bindArgs fd ⟨us,[]⟩=pure (ps.zip us))/\PySem.W.keepIn K (.ref f)=true/\mg x=some (.ref f)
theorem HasX.mono {P:Program} {w:World} {K:PySem.W.Frag} {mg:Str->Option Value} {base:Heap} {j k:Nat} {x:Str} {ps:List Str} {sp:Sp} (h:HasX P w K mg base j x ps sp) (hk:j<=k):HasX P w K mg base k x ps sp:=
 let ⟨f,fd,F,b⟩:=h
 ⟨f,fd,F.mono hk,b⟩
theorem TF.hasX {P:Program} {w:World} {K:PySem.W.Frag} {mg:Str->Option Value} {base:Heap} {x:Str} {st:Stmt} {N ps:List Str} {k:Nat} {sp:Sp} (T:TF K mg x st) (S:FnScope N ps (zG st))
  (hb:∀(kV doc pm:Value) (an:Option Addr) (cdv ct:Value) (us:List Value),us.length=ps.length->bindArgs (PySem.W.fnOf x x (jX st) (yo st) (zG st) .none kV doc pm an cdv ct) ⟨us,[]⟩=pure (ps.zip us))
  (len:∀vs H Q E,sp vs H Q E->vs.length=ps.length)
  (hbody:∀(f:Addr) (cdv:Value) (A:Around) (outer:List Env) (s:Shared) (H:Hp) (vs:List V) (Q:VK) (E:XK),Room k (A.deeper (envOfC x (zG st) s.heap.objs.size f cdv))->sp vs H Q E->
   ∃t,PSs (z0J (CXx P w) P w K mg base N x (zG st) f cdv A outer s H E) (yo st) t/\t { nx:=fun _ H'=>Q .non H',rt:=Q } (qc N vs) H):HasX P w K mg base (k+1) x ps sp:=by
 obtain⟨f,fd,F,m⟩:=T;obtain⟨oc,od,kV,doc,pm,an,cdv,ct,osl,rfl,lk,hcd⟩:=F.ex;exact⟨f,_,y3n lk hcd S len fun A outer s H vs Q E hr hsp=>hbody f cdv A outer s H vs Q E hr hsp,hb kV doc pm an cdv ct,F.kp,m⟩
theorem y3S {X:Cx} {k:Nat} {x:Str} {ps:List Str} {sp:Sp} {p pos:Pos} {e:Expr} {es:List Expr} {t:TA} {E:XK} (h:HasX X.prog X.w X.K X.mg X.base k x ps sp) (hr:Room k X.A) (hx:jx (CXx X.prog X.w) X E) (ha:PA X (e::es) t) (hg:Gl X x:=by rfl)
  (hdb:(x == ("__debug__" : Str))=false:=by decide) (he:starEach (e::es) X.env=(false,eval e X.env)::starEach es X.env:=by rfl) (hpl:(backTo pos (starEach es X.env)).any (·.1)=false:=by rfl) :
  PE X (.Call (.Name x p) (e::es) [] pos) (z7A sp [] E t):=by
 obtain⟨f,fd,F,hb,hk,hm⟩:=h;exact z8s F hr hg hm hk (.all hb) .nil hx ha hdb he hpl
section
variable {X:Cx} {pins:List (Addr×Obj)} {σ:St} {H:Hp} {s:Shared}
noncomputable def Ap (X:Cx) (pins:List (Addr×Obj)) (b:Addr):Prop:=X.s₀.heap.get? b=none/\b≠X.env.locals/\(∀x c,X.env.cells.lookup x=some c->c≠b)/\b∉X.fs/\∀p∈X.pn++pins,p.1≠b
theorem Inv.ap (I:Inv X pins σ H s) (hx:X.ex=[]) {b:Addr} (hb:s.heap.get? b=none):Ap X pins b:=by
 have no:∀ {c:Addr},(∃o,s.heap.get? c=some o)->c≠b:=fun {c} ⟨o,e⟩ z=>by rw[z,hb] at e;cases e
 refine⟨?_,(no (let ⟨_,⟨o,_,_,e,_⟩,_⟩:=I.loc;⟨o,e⟩)).symm,fun x c e=>no (let ⟨_,o,q,_⟩:=I.cell x c e;⟨o,q⟩),fun z=>no (let ⟨_,o,e,_⟩:=I.funs.mem z;⟨o,e⟩) rfl,fun p hp=>no ⟨_,(I.pin p hp).1⟩⟩;cases q:X.s₀.heap.get? b with
 | none=>rfl
 | some o=>exact absurd rfl (no (I.base.there b o q (by rw[hx];simp)))
end
section
variable {M:Model} {A:Around} {E:Value->Shared->Prop} {s:Shared}
end
section
variable {X:Cx} {pins:List (Addr×Obj)} {σ:St} {H:Hp} {s:Shared} {a:Addr}
end
section
variable {M:Model} {A:Around} {E:Value->Shared->Prop}
variable {nm q nm' q':Str} {C N C' N':Addr} {bs bm bs' bm':List Value} {hdct hdct':Bool} {sn sn':List Str} {sub sub':List Value} {ab ab':Bool} {col col':Option Bool} {dd dd':Option Addr} {k0 k1 k2 k3 k5 l0 l1 l2 l3 l5:Option Value} {newId newId':String}
end
section
variable {X:Cx} {t:Expr} {b₀:Stmt} {body:List Stmt} {pos:Pos} {rest:List ExceptHandler} {cls0:Value} {tm:TT} {tb:TS} {tr:Addr->Value->TS}
end
section
variable {X:Cx} {e:Expr} {es:List Expr} {pos p:Pos} {t:TA}
end
section
variable {M:Model} {A:Around} {E:Value->Shared->Prop} {h:Heap} {g:Array GenState} {d:Drawn} {t:Nat} {os:OsState}
end
open PySem.Calls PySem.W
end L2
namespace SM
theorem xv (x:Int) {m:Int} (h:1<=m):0<=x%m/\x%m<m:=⟨Int.emod_nonneg _ (by omega),Int.emod_lt_of_pos _ (by omega)⟩
theorem z3U {x m r:Int} (h0:0<=r) (h1:r<m) (h:m∣x-r):x%m=r:=by
 obtain⟨k,hk⟩:=h;have:x=r+m*k:=by omega
 rw[this,Int.add_mul_emod_self_left,Int.emod_eq_of_lt h0 h1]
theorem yi (x m:Int):m∣x-x%m:=⟨x/m,by have:=Int.mul_ediv_add_emod x m;omega⟩
theorem xu {x y m:Int} (h:m∣x-y):x%m=y%m:=Int.emod_emod_of_dvd_sub h
where
 Int.emod_emod_of_dvd_sub {x y m:Int} (h:m∣x-y):x%m=y%m:=by
  obtain⟨k,hk⟩:=h;have:x=y+m*k:=by omega
  rw[this,Int.add_mul_emod_self_left]
theorem crt {p q A B:Int} (hp:1<=p) (hq:1<=q) (h:zg p q∣A-B):∃t,p∣t-A/\q∣t-B:=by
 obtain⟨x,y,e⟩:=y0S p q (by omega) (by omega);obtain⟨k,hk⟩:=h;rw[e,Int.add_mul] at hk;refine⟨A-p*x*k,⟨-(x*k),?_⟩,⟨y*k,?_⟩⟩
 ·rw[Int.mul_neg,←Int.mul_assoc];omega
 ·rw[←Int.mul_assoc];omega
noncomputable def sh2 (u v:T3):T3:=(zg u.1 v.1,(u.2.1-v.2.1-(v.2.2-1))%zg u.1 v.1,if u.2.2+v.2.2-1<zg u.1 v.1 then u.2.2+v.2.2-1 else zg u.1 v.1)
theorem j7 {u v:T3} (hu:1<=u.1):1<=zg u.1 v.1:=by have:=yK (a:=u.1) (b:=v.1) (by omega);omega
theorem y4Y {u v:T3} (hu:L2.Wk u) (hv:L2.Wk v):L2.Wk (sh2 u v):=by
 have g:=j7 (v:=v) hu.1;have b:=xv (u.2.1-v.2.1-(v.2.2-1)) g;obtain⟨_,_,_,_,_⟩:=hu;obtain⟨_,_,_,_,_⟩:=hv;refine⟨g,b.1,b.2,?_,?_⟩
 ·show 1<=ite _ _ _;split <;> omega
 ·show ite _ _ _<=zg u.1 v.1;split <;> omega
theorem vb (d x g:Int):(d-x%g)%g=(d-x)%g:=xu (by
 obtain⟨k,hk⟩:=yi x g;exact⟨k,by omega⟩)
theorem y0p (u v:T3) (d:Int):(d-(sh2 u v).2.1)%(sh2 u v).1=(d-u.2.1+v.2.1+v.2.2-1)%zg u.1 v.1:=by
 show (d-(u.2.1-v.2.1-(v.2.2-1))%zg u.1 v.1)%zg u.1 v.1=_;rw[vb];congr 1;omega
theorem y4Z {u v:T3} (hu:1<=u.1) (d:Int):(d-(sh2 u v).2.1)%(sh2 u v).1<(sh2 u v).2.2 ↔ (d-u.2.1+v.2.1+v.2.2-1)%zg u.1 v.1<u.2.2+v.2.2-1:=by
 rw[y0p];have b:=xv (d-u.2.1+v.2.1+v.2.2-1) (j7 (v:=v) hu);show _<ite _ _ _ ↔ _;split <;> omega
theorem z1c {u v:T3} (hu:L2.Wk u) (hv:L2.Wk v) (d:Int):(d-(sh2 u v).2.1)%(sh2 u v).1<(sh2 u v).2.2 ↔ ∃t,(t-u.2.1)%u.1<u.2.2/\(t-d-v.2.1)%v.1<v.2.2:=by
 rw[y4Z hu.1];obtain⟨p,a,l⟩:=u;obtain⟨q,b,n⟩:=v;obtain⟨p0,a0,a1,l0,l1⟩:=hu;obtain⟨q0,b0,b1,n0,n1⟩:=hv;dsimp only at *
 have g0:1<=zg p q:=j7 (u:=(p,a,l)) (v:=(q,b,n)) p0;have bg:=xv (d-a+b+n-1) g0;obtain⟨k,hk⟩:=yi (d-a+b+n-1) (zg p q);generalize hm:(d-a+b+n-1)%zg p q=m at *
 constructor
 ·intro h;obtain⟨i,j,i0,i1,j0,j1,e⟩:∃i j:Int,0<=i/\i<l/\0<=j/\j<n/\i-j=m-(n-1):=by
   by_cases c:n-1<=m
   ·exact⟨m-(n-1),0,by omega,by omega,by omega,by omega,by omega⟩
   ·exact⟨0,n-1-m,by omega,by omega,by omega,by omega,by omega⟩
  obtain⟨t,h1,h2⟩:=crt (A:=a+i) (B:=b+d+j) p0 q0 ⟨-k,by rw[Int.mul_neg];omega⟩;refine⟨t,?_,?_⟩
  ·rw[z3U (r:=i) i0 (by omega) (by have:t-a-i=t-(a+i):=(by omega);rw[this];exact h1)];exact i1
  ·rw[z3U (r:=j) j0 (by omega) (by have:t-d-b-j=t-(b+d+j):=(by omega);rw[this];exact h2)];exact j1
 ·rintro⟨t,h1,h2⟩;have b1:=xv (t-a) p0;have b2:=xv (t-d-b) q0;have d1:=Int.dvd_trans (zt p q) (yi (t-a) p);have d2:=Int.dvd_trans (zr p q) (yi (t-d-b) q);generalize (t-a)%p=i at *
  generalize (t-d-b)%q=j at *
  have dd:=Int.dvd_sub d1 d2;have e:m=(i-j+n-1)%zg p q:=by
   rw[←hm];refine xu ?_;have:d-a+b+n-1-(i-j+n-1)=t-a-i-(t-d-b-j):=by omega
   rw[this];exact dd
  rw[e];have:(i-j+n-1)%zg p q<=i-j+n-1:=by
   by_cases c:i-j+n-1<zg p q
   ·rw[Int.emod_eq_of_lt (by omega) c];exact Int.le_refl _
   ·have:=xv (i-j+n-1) g0;omega
  omega
noncomputable def NextOf (p:Int->Prop) (t:Int):Option Int->Prop
 | some x=>t<=x/\p x/\∀y,t<=y->y<x->¬p y
 | none=>∀y,t<=y->¬p y
theorem NextOf.uniq {p q:Int->Prop} {t:Int} (e:∀k,t<=k->(p k ↔ q k)) {r s:Option Int} (h:NextOf p t r) (g:NextOf q t s):r=s:=by
 cases r with
 | none=>cases s with
  | none=>rfl
  | some j=>exact absurd ((e j g.1).mpr g.2.1) (h j g.1)
 | some i=>cases s with
  | none=>exact absurd ((e i h.1).mp h.2.1) (g i h.1)
  | some j=>
   have h1:=h.2.2 j g.1;have h2:=g.2.2 i h.1;have h3:=(e j g.1).mpr g.2.1;have h4:=(e i h.1).mp h.2.1;have:i=j:=by
    rcases Int.lt_trichotomy i j with c|c|c
    ·exact absurd h4 (h2 c)
    ·exact c
    ·exact absurd h3 (h1 c)
   rw[this]
theorem NextOf.shift {p q:Int->Prop} {t:Int} (m:Int) (e:∀k,p k ↔ q (k+m)) {r:Option Int} (h:NextOf p t r):NextOf q (t+m) (r.map (· + m)):=by
  cases r with
  | none => exact fun y hy hq => h (y - m) (by omega) ((e (y - m)).mpr (by have : y - m + m = y := by omega
                                                                           rw[this];exact hq))
  | some x=>
    refine⟨by have:=h.1;show t+m<=x+m;omega,(e x).mp h.2.1,fun y hy hx hq=>?_⟩;have hx2:y<x+m:=hx;refine h.2.2 (y-m) (by omega) (by omega) ((e (y-m)).mpr ?_);have:y-m+m=y:=by omega
    rw[this];exact hq
noncomputable def awP (u:T3) (t:Int):Prop:=(t-u.2.1)%u.1<u.2.2
noncomputable def ka (ws vs:List T3) (d t:Int):Prop:=(∃u∈ws,awP u t)/\∃v∈vs,awP v (t-d)
noncomputable def z4H (u:T3) (t:Int):Int:=t+(u.2.1-t)%u.1
noncomputable def nbI (u v:T3) (t:Int):Option Int:=(yV (z4H u t-v.2.1) u.1 v.1 v.2.2).map fun i=>z4H u t+u.1*i
theorem z6m (u:T3) (t:Int):u.1∣z4H u t-u.2.1:=by
 obtain⟨k,hk⟩:=yi (u.2.1-t) u.1;exact⟨-k,by unfold z4H;rw[Int.mul_neg];omega⟩
theorem z3e {u v:T3} {t i:Int}:jy (z4H u t-v.2.1) u.1 v.1 v.2.2 i ↔ awP v (z4H u t+u.1*i):=by
 unfold jy awP;have:z4H u t-v.2.1+u.1*i=z4H u t+u.1*i-v.2.1:=by omega
 rw[this]
theorem z9E {u v:T3} {t x:Int} (hu:L2.Wk u) (hv:L2.Wk v) (h:nbI u v t=some x):t<=x/\awP u x/\awP v x:=by
 have L:=yJ (st:=z4H u t-v.2.1) (sp:=u.1) (w:=v.1) (n:=v.2.2) (by have:=hv.1;omega) hv.2.2.2.1;unfold nbI at h;obtain⟨i,hi,rfl⟩:=Option.map_eq_some_iff.mp h;rw[hi] at L;have b:=xv (u.2.1-t) hu.1;have m:=Int.mul_nonneg (show 0<=u.1 by have:=hu.1;omega) L.1;refine⟨by unfold z4H;omega,?_,z3e.mp L.2.1⟩;obtain⟨k,hk⟩:=z6m u t;unfold awP;rw[z3U (r:=0) (by omega) (by have:=hu.1;omega) ⟨k+i,by rw[Int.mul_add];omega⟩];have:=hu.2.2.2.1;omega
theorem y4s {u v:T3} {t y:Int} (hu:L2.Wk u) (hv:L2.Wk v) (ht:t<=y) (h1:u.1∣y-u.2.1) (h2:awP v y):∃x,nbI u v t=some x/\x<=y:=by
 have L:=yJ (st:=z4H u t-v.2.1) (sp:=u.1) (w:=v.1) (n:=v.2.2) (by have:=hv.1;omega) hv.2.2.2.1;obtain⟨k,hk⟩:=z6m u t;obtain⟨j,hj⟩:=h1;have e:y=z4H u t+u.1*(j-k):=by rw[Int.mul_sub];omega
 have u0:=hu.1;have b:=xv (u.2.1-t) u0;have jk:0<=j-k:=by
  by_cases c:0<=j-k
  ·exact c
  ·exfalso;have:u.1*(j-k)<=u.1*(-1):=Int.mul_le_mul_of_nonneg_left (by omega) (by omega);rw[Int.mul_neg,Int.mul_one] at this;unfold z4H at e;omega
 have hit:jy (z4H u t-v.2.1) u.1 v.1 v.2.2 (j-k):=z3e.mpr (by rw[←e];exact h2);cases hf:yV (z4H u t-v.2.1) u.1 v.1 v.2.2 with
 | none=>rw[hf] at L;exact absurd hit (L _ jk)
 | some i=>
  rw[hf] at L;refine⟨z4H u t+u.1*i,by unfold nbI;rw[hf];rfl,?_⟩;have le:i<=j-k:=by
   by_cases c:i<=j-k
   ·exact c
   ·exact absurd hit (L.2.2 _ jk (by omega))
  have:=Int.mul_le_mul_of_nonneg_left le (show 0<=u.1 by omega);omega
theorem z4I {u:T3} {x:Int} (hu:L2.Wk u) (h:awP u x) (h2:¬awP u (x-1)):u.1∣x-u.2.1:=by
 unfold awP at *
 have b:=xv (x-u.2.1) hu.1;obtain⟨k,hk⟩:=yi (x-u.2.1) u.1;by_cases c:(x-u.2.1)%u.1=0
 ·exact⟨k,by omega⟩
 ·exfalso;have:(x-1-u.2.1)%u.1=(x-u.2.1)%u.1-1:=z3U (by omega) (by omega) ⟨k,by omega⟩;omega
noncomputable def z5h (os:List (Option Int)):Option Int->Prop
 | some x=>some x∈os/\∀y,some y∈os->x<=y
 | none=>∀y,some y∉os
noncomputable def jw (ws vs:List T3) (t:Int):List (Option Int):=ws.flatMap fun u=>vs.flatMap fun v=>[nbI u v t,nbI v u t]
theorem vd {ws vs:List T3} {t:Int} {o:Option Int}:o∈jw ws vs t ↔ ∃u∈ws,∃v∈vs,o=nbI u v t∨o=nbI v u t:=by
 unfold jw;simp only [List.mem_flatMap,List.mem_cons,List.not_mem_nil,or_false]
noncomputable def shT (d:Int) (u:T3):T3:=(u.1,(u.2.1+d)%u.1,u.2.2)
theorem z5e (d:Int) (u:T3) (t:Int):awP (shT d u) t ↔ awP u (t-d):=by
 unfold awP shT;dsimp only;rw[vb];have:t-(u.2.1+d)=t-d-u.2.1:=by omega
 rw[this]
theorem z0k (d:Int) {u:T3} (h:L2.Wk u):L2.Wk (shT d u):=by
 have b:=xv (u.2.1+d) h.1;exact⟨h.1,b.1,b.2,h.2.2.2.1,h.2.2.2.2⟩
theorem z7S {p:Int->Prop} {t y:Int} (ht:t<=y) (h:p y):∃x,t<=x/\x<=y/\p x/\∀z,t<=z->z<x->¬p z:=by
 obtain⟨n,hn⟩:∃n:Nat,y=t+n:=⟨(y-t).toNat,by omega⟩
 induction n using Nat.strongRecOn generalizing y with
 | ind n ih=>
  by_cases c:∃z,t<=z/\z<y/\p z
  ·obtain⟨z,z1,z2,z3⟩:=c;obtain⟨x,a,b,e,f⟩:=ih (z-t).toNat (by omega) z1 z3 (by omega);exact⟨x,a,by omega,e,f⟩
  ·exact⟨y,ht,Int.le_refl _,h,fun z z1 z2 z3=>c ⟨z,z1,z2,z3⟩⟩
theorem kS {ws vs:List T3} {d t:Int} (hw:∀u∈ws,L2.Wk u) (hv:∀v∈vs,L2.Wk v) (h:¬ka ws vs d t) {r:Option Int} (hr:z5h (jw ws (vs.map (shT d)) t) r):NextOf (ka ws vs d) t r:=by
 have A:∀y,some y∈jw ws (vs.map (shT d)) t->t<=y/\ka ws vs d y:=fun y hy=>by
  obtain⟨u,hu,v',hv',e⟩:=vd.mp hy;obtain⟨v,hv2,rfl⟩:=List.mem_map.mp hv';have key:t<=y/\awP u y/\awP (shT d v) y:=by
   rcases e with e|e
   ·exact z9E (hw u hu) (z0k d (hv v hv2)) e.symm
   ·have:=z9E (z0k d (hv v hv2)) (hw u hu) e.symm;exact⟨this.1,this.2.2,this.2.1⟩
  exact⟨key.1,⟨u,hu,key.2.1⟩,v,hv2,(z5e d v y).mp key.2.2⟩
 have B:∀y,t<=y->ka ws vs d y->∃x,some x∈jw ws (vs.map (shT d)) t/\x<=y:=fun y hy hT=>by
  obtain⟨x,x1,x2,x3,x4⟩:=z7S hy hT;have xt:t<x:=by
   rcases Int.lt_or_eq_of_le x1 with z|z
   ·exact z
   ·exact absurd (by rw[z];exact x3) h
  obtain⟨⟨u,hu,au⟩,v,hv2,av⟩:=x3;have av2:=(z5e d v x).mpr av;have nb:=x4 (x-1) (by omega) (by omega);by_cases c:awP u (x-1)
  ·have c2:¬awP (shT d v) (x-1):=fun z=>nb ⟨⟨u,hu,c⟩,v,hv2,(z5e d v (x-1)).mp z⟩;obtain⟨z,z1,z2⟩:=y4s (t:=t) (z0k d (hv v hv2)) (hw u hu) x1 (z4I (z0k d (hv v hv2)) av2 c2) au;exact⟨z,vd.mpr ⟨u,hu,_,List.mem_map_of_mem hv2,.inr z1.symm⟩,by omega⟩
  ·obtain⟨z,z1,z2⟩:=y4s (t:=t) (hw u hu) (z0k d (hv v hv2)) x1 (z4I (hw u hu) au c) av2;exact⟨z,vd.mpr ⟨u,hu,_,List.mem_map_of_mem hv2,.inl z1.symm⟩,by omega⟩
 cases r with
 | none=>
  intro y hy hT;obtain⟨x,hx,_⟩:=B y hy hT;exact hr x hx
 | some x=>
  refine⟨(A x hr.1).1,(A x hr.1).2,fun y y1 y2 hT=>?_⟩;obtain⟨z,hz,zy⟩:=B y y1 hT;have:=hr.2 z hz;omega
theorem z9B {ws vs:List T3} {d t:Int} (h:ka ws vs d t):NextOf (ka ws vs d) t (some t):=⟨Int.le_refl _,h,fun y y1 y2=>by omega⟩
end SM
namespace L2
open PySem PySem.Spec PyProof.Rows SM
section
variable {X:Cx} {pos:Pos}
end
section
variable {X:Cx}
theorem y0X (bs:List Bool):(List.range bs.length).any (fun i=>bs.getD i false)=bs.any id:=by
 rw[Bool.eq_iff_iff,List.any_eq_true,List.any_eq_true];constructor
 ·rintro⟨i,hi,h⟩;rw[List.getD_eq_getElem?_getD,List.getElem?_eq_getElem (List.mem_range.mp hi)] at h;exact⟨_,List.getElem_mem (List.mem_range.mp hi),h⟩
 ·rintro⟨b,hb,h⟩;obtain⟨i,hi,e⟩:=List.getElem_of_mem hb;refine⟨i,List.mem_range.mpr hi,?_⟩;rw[List.getD_eq_getElem?_getD,List.getElem?_eq_getElem hi,e];exact h
theorem z4B (hc:X.calm=true):qS X (.builtin "any") (fun vs H Q=>∃(a:Addr) (bs:List Bool),vs=[.ref a]/\SqL X.K H a (bs.map V.bl)/\Q (.bl (bs.any id)) H):=by
 intro pins s σ H xs us Q I r h;obtain⟨a,bs,rfl,hq,q⟩:=h;obtain⟨u,rfl,r1⟩:=Vals.one r;cases r1;obtain⟨its,rv,pl,hz⟩:=I.list hq;have hl:=pl.isList;have la:a<s.heap.objs.size:=by obtain⟨o,e,_⟩:=hl;exact Heap.lt_size e
 have ne:a≠s.heap.objs.size:=Nat.ne_of_lt la;refine call_any_walkS (wpAny_pyIter_list hl ?_);have WS:=(Walks.list (prog:=X.prog) (w:=X.w) (A:=X.A.in1) (I.ok.hd hc) s.heap.objs.size a ne its.toArray).toS;refine⟨_,_,_,_,_,_,_,fun i=>bs.getD i false,rfl,WS,⟨⟨_,Heap.get?_push_size _ rfl,rfl,rfl⟩,hl.push _⟩,fun i v s' Q' E' hv hq'=>?_,fun s' mv=>?_⟩
 ·have hv':its[i]?=some v:=by simpa using hv
  have hi:i<(bs.map V.bl).length:=by rw[rv.length];exact (List.getElem?_eq_some_iff.mp hv').1
  obtain⟨u,e1,r2⟩:=rv.get (List.getElem?_eq_getElem hi);rw[hv'] at e1;cases e1;rw[List.length_map] at hi;rw[List.getElem_map] at r2;cases r2;have hq2:Q' (bs.getD i false) s':=hq';rw[List.getD_eq_getElem?_getD,List.getElem?_eq_getElem hi] at hq2;exact wpAny_truthy_bool hq2
 ·have e:(List.range its.toArray.size).any (fun i=>bs.getD i false)=bs.any id:=by
   have:its.toArray.size=bs.length:=by
    have:=rv.length;rw[List.length_map] at this;simp [this]
   rw[this];exact y0X bs
  rw[e,Moved.eq_with mv];refine⟨.bl (bs.any id),H,I.kept fun b o e=>mv.heap b o (fun z=>?_) (Heap.get?_push_of_some _ e),rfl,q⟩;exact absurd (Heap.lt_size e) (by rw[List.mem_singleton.mp z];exact Nat.lt_irrefl _)
end
section
variable {X:Cx} {K:PySem.W.Frag}
theorem kU (h:X.K=K):IxR X (y4c K):=h▸zo
theorem z1u (h:X.K=K):IxR X (y6S K):=h▸zZ
end
section
variable {K:PySem.W.Frag} {H:Hp} {Q:VK} {a b a1 a2 b1 b2:Addr} {xs1 xs2 ys1 ys2:List V} {ws vs:List T3}
end
section
variable {X:Cx} {tg:Expr}
noncomputable def y5s (ta:TA):TI:=fun σ H R=>ta σ H fun vs H1=>∃i j:Int,vs=[.int i,.int j,.int (-1)]/\R (Its i (-1) (i-j).toNat) H1
theorem z1x {ta:TA} {R:It->Hp->Prop} {σ:St} {H:Hp}:y5s ta σ H R=ta σ H fun vs H1=>∃i j:Int,vs=[.int i,.int j,.int (-1)]/\R (Its i (-1) (i-j).toNat) H1:=rfl
end
open Builtin Builtin.Getset_descriptor Builtin.ObjectAttr PySem.Calls PySem.W
section
variable {prog:Program} {w:World} {A:Around} {E:Value->Shared->Prop} {h:Heap} {g:Array GenState} {d:Drawn} {t:Nat} {os:OsState} {a C:Addr} {o:Obj} {bm:List Value} {K:Frag}
end
section
variable {K:Frag} {mg:Str->Option Value} {x x':Str} {C C':Addr} {bm bm':List Value}
end
section
variable {X:Cx}
end
end L2
namespace SM
theorem y1o (c:Int):zg 1 c=1:=by unfold zg;rw[Int.gcd_one_left];rfl
theorem wL {u:T3} {x m:Int} (h:u.1∣m):awP u (x+m) ↔ awP u x:=by
 obtain⟨k,hk⟩:=h;unfold awP;rw[xu (x:=x+m-u.2.1) (y:=x-u.2.1) ⟨k,by omega⟩]
theorem NextOf.here {p:Int->Prop} {t:Int} (h:p t):NextOf p t (some t):=⟨Int.le_refl _,h,fun y y1 y2=>by omega⟩
theorem NextOf.one {p:Int->Prop} {t x y:Int} (h:NextOf p t (some x)) (g:NextOf p t (some y)):x=y:=Option.some.inj (h.uniq (fun _ _=>Iff.rfl) g)
end SM
namespace L2
open PySem PySem.Spec PySem.Calls PyProof.Rows SM
section
variable {prog:Program} {w:World} {A:Around} {E:Value->Shared->Prop} {s:Shared}
end
section
variable {X:Cx} {tg:Expr}
noncomputable def y6F (ta:TA):TE:=fun σ H Q=>ta σ H fun vs H1=>∃j:Int,vs=[.int j]/\∀p,H1 p=none->Q (.ref p) (upd H1 p (.rng 0 j))
theorem z4R {ta:TA} {σ:St} {H:Hp} {Q:VK}:y6F ta σ H Q=ta σ H fun vs H1=>∃j:Int,vs=[.int j]/\∀p,H1 p=none->Q (.ref p) (upd H1 p (.rng 0 j)):=rfl
theorem z8o {a:Expr} {ta:TA} {p pos:Pos} (hg:Gl X "range") (hm:X.mg "range" = none) (ha:PA X [a] ta) (hs:starEach [a] X.env=[(false,eval a X.env)]:=by rfl):PE X (.Call (.Name "range" p) [a] [] pos) (y6F ta):=by
 intro pins s σ H Q I h;refine Call_ (jr I hg hm boot_range (PyProof.Rows.callWith_type1 (thn (ha pos pins s σ H _ I h) fun us s1 ⟨vs,H1,I1,r1,q1⟩=>?_) hs rfl));obtain⟨j,e,q⟩:=q1;subst e;cases r1 with
 | cons r rr=>
  cases rr;obtain⟨t,rfl⟩:=r;refine call_range_1 ?_;have hf:H1 s1.heap.objs.size=none:=I1.hok.fresh (Nat.le_refl _);exact⟨.ref s1.heap.objs.size,upd H1 s1.heap.objs.size (.rng 0 j),I1.laid (fun b u e=>Heap.get?_push_of_some _ e) (Nat.le_refl _) ⟨_,_,_,Heap.get?_push_size _ rfl⟩,rfl,q _ hf⟩
noncomputable def y5u (ta:TE):TI:=fun σ H R=>ta σ H fun x H1=>∃(a:Addr) (n:Int),x=.ref a/\H1 a=some (.rng 0 n)/\0<=n/\n<2^62/\R (Its (n-1) (-1) n.toNat) H1
theorem z2C {ta:TE} {R:It->Hp->Prop} {σ:St} {H:Hp}:y5u ta σ H R=ta σ H fun x H1=>∃(a:Addr) (n:Int),x=.ref a/\H1 a=some (.rng 0 n)/\0<=n/\n<2^62/\R (Its (n-1) (-1) n.toNat) H1:=rfl
end
end L2
namespace SM
noncomputable def prB (u v:T3) (d k:Int):Bool:=decide ((u.2.1-v.2.1-d+k/v.2.2-k%v.2.2)%zg u.1 v.1=0)
noncomputable def prs (u v:T3) (d:Int):List Nat:=(List.range (u.2.2*v.2.2).toNat).filter fun k=>prB u v d (k:Int)
noncomputable def wb (u v:T3) (d t:Int):Bool:=decide ((t-u.2.1)%u.1<u.2.2/\(t-d-v.2.1)%v.1<v.2.2)
noncomputable def kT (u:T3) (s r:Int):Bool:=decide ((r-u.2.1)%zg s u.1<u.2.2)
noncomputable def Cov (us:List T3) (s r:Int):Prop:=∀x:Int,∃u∈us,awP u (r+s*x)
theorem z7e {m g:Int} (m0:0<=m) (g0:1<=g):m%g<=m:=by
 by_cases c:m<g
 ·rw[Int.emod_eq_of_lt m0 c];exact Int.le_refl _
 ·have:=xv m g0;omega
theorem y1Q {u:T3} {s r x:Int} (hu:L2.Wk u) (hs:1<=s) (h:awP u (r+s*x)):kT u s r=true:=by
 refine decide_eq_true ?_;have g0:1<=zg s u.1:=j7 (u:=(s,0,0)) (v:=u) hs;have m:=xv (r+s*x-u.2.1) hu.1;have d1:=Int.dvd_trans (zr s u.1) (yi (r+s*x-u.2.1) u.1);unfold awP at h;generalize (r+s*x-u.2.1)%u.1=k at *
 have e:(r-u.2.1)%zg s u.1=k%zg s u.1:=xu (by
  have d2:zg s u.1∣s*x:=Int.dvd_trans (zt s u.1) ⟨x,rfl⟩;have:r-u.2.1-k=r+s*x-u.2.1-k-s*x:=by omega
  rw[this];exact Int.dvd_sub d1 d2)
 rw[e];have:=z7e m.1 g0;omega
theorem Cov.met {us:List T3} {s r:Int} (hu:∀u∈us,L2.Wk u) (hs:1<=s) (h:Cov us s r):Cov (us.filter fun u=>kT u s r) s r:=fun x=>by
 obtain⟨u,mu,a⟩:=h x;exact⟨u,List.mem_filter.mpr ⟨mu,y1Q (hu u mu) hs a⟩,a⟩
theorem Cov.parted {us:List T3} {s r:Int} (h:Cov us s r) (b c:Int):Cov us (s*b) (r+s*c):=fun x=>by
 have:=h (c+b*x);rw[Int.mul_add,←Int.mul_assoc,←Int.add_assoc] at this;exact this
theorem Cov.some {us:List T3} {s r:Int} (h:Cov us s r):us≠[]:=fun e=>by
 obtain⟨u,mu,_⟩:=h 0;rw[e] at mu;cases mu
theorem y1G {u:T3} {s r:Int} (hu:L2.Wk u) (hs:1<=s) (m:kT u s r=true) (l:qv u s r=false):2<=u.1/zg s u.1:=by
 have g0:1<=zg s u.1:=j7 (u:=(s,0,0)) (v:=u) hs;obtain⟨y,hy⟩:=zr s u.1;have e:u.1/zg s u.1=y:=by
  conv=>lhs;lhs;rw[hy]
  exact Int.mul_ediv_cancel_left y (by omega)
 rw[e];by_cases c:2<=y
 ·exact c
 ·exfalso;have p0:=hu.1;have y1:y=1:=by
   rcases (show y<=0∨y=1 by omega) with z|z
   ·have:=Int.mul_le_mul_of_nonneg_left z (show 0<=zg s u.1 by omega);omega
   ·exact z
  rw[y1,Int.mul_one] at hy;have m1:(r-u.2.1)%zg s u.1<u.2.2:=of_decide_eq_true m;have l1:¬u.1-u.2.2<=(r-u.2.1-u.2.2)%zg s u.1:=of_decide_eq_false l;rw[←hy] at m1 l1;obtain⟨k,hk⟩:=yi (r-u.2.1) u.1;have b:=xv (r-u.2.1) p0;obtain⟨_,_,_,l3,l4⟩:=hu;generalize (r-u.2.1)%u.1=t at *
  rw[z3U (r:=t-u.2.2+u.1) (by omega) (by omega) ⟨k-1,by rw[Int.mul_sub];omega⟩] at l1;omega
theorem y1H {s p L b:Int} (hs:1<=s) (hp:1<=p) (h1:s∣L) (h2:p∣L) (hb:b∣p/zg s p):s*b∣L:=
 Int.dvd_trans (show s*b∣vh s p from Int.mul_dvd_mul_left s hb) (z6Z hs hp h1 h2)
open L2 in
theorem z3I {ws:List T3} {s r b:Int} {ps:List Pap} {p:Pap} (h:zn ws s r b 0 ps=true) (hp:zh ws (s*b) (r+s*(ps.length:Int)) p=true):zn ws s r b 0 (ps++[p])=true:=by
 have e:=xb (ws:=ws) (s:=s) (r:=r) (b:=b) (ps:=ps++[p]) (c:=0) (i:=ps.length) (p:=p) (by simp);rw[List.take_of_length_le (by simp),List.take_append_of_le_length (Nat.le_refl _),List.take_length,Nat.zero_add,h,hp] at e;exact e
end SM
namespace L2
open PySem PySem.Spec PySem.Calls PyProof.Rows SM
noncomputable def z2j (n:Nat):List Int:=(List.range n).map fun i:Nat=>(i:Int)
theorem z2h:∀(l:List Value) (k:Nat),(∀(j:Nat) (v:Value),l[j]?=some v->∃t,v=.int ((k+j:Nat):Int) t)->Vals ((List.range' k l.length).map fun i:Nat=>V.int (i:Int)) l
 | [],_,_=>.nil
 | x::l,k,h=>by
  obtain⟨t,rfl⟩:=h 0 x rfl;have ih:=z2h l (k+1) fun j v e=>by
   obtain⟨t,rfl⟩:=h (j+1) v (by simpa using e);exact⟨t,by rw[Nat.add_assoc,Nat.add_comm 1 j]⟩
  rw[List.length_cons,List.range'_succ,List.map_cons];exact .cons ⟨t,rfl⟩ ih
theorem y0d {n:Nat} {acc:Array Value} (h:ItemsOf (fun i v=>∃t,v=.int (0+(i:Int)*1) t) acc n):Vals ((z2j n).map V.int) acc.toList:=by
 have e:=z2h acc.toList 0 fun j v e=>by
  rw[Array.getElem?_toList] at e;obtain⟨t,rfl⟩:=h.2 j v e;exact⟨t,by congr 1;simp⟩
 have hl:acc.toList.length=n:=by rw[Array.length_toList];exact h.1
 rw[hl,←List.range_eq_range'] at e;unfold z2j;rw[List.map_map];exact e
section
variable {X:Cx}
theorem z2Z (hc:X.calm=true):qS X (.type "list") (fun xs H Q=>∃(p:Addr) (n:Int),xs=[.ref p]/\H p=some (.rng 0 n)/\0<=n/\n<=2^20/\∀l,H l=none->Q (.ref l) (upd H l (IL (z2j n.toNat)))):=by
 intro pins s σ H xs us Q I r h;obtain⟨p,n,rfl,hq,n0,n1,q⟩:=h;obtain⟨u,rfl,rx⟩:=z6u r;cases rx;obtain⟨t,u,v,ho⟩:=(show ObjOk X.prog X.w H s.heap p (.rng 0 n) from I.hok p _ hq)
 have en:((n.toNat:Nat):Int)=n:=by omega
 have rs:Builtin.Range.rangeSize 0 n 1=(n.toNat:Nat):=by
  unfold Builtin.Range.rangeSize;simp;split <;> omega
 have sm:Builtin.Range.small 0 n 1=true:=by
  unfold Builtin.Range.small Builtin.Range.rangeFitsLong;simp;omega
 have hz:((z2j n.toNat).map V.int).length<=sizeLine:=by
  unfold z2j;rw[List.length_map,List.length_map,List.length_range,sizeLine_eq];omega
 refine call_list_range (I.ok.hd hc) ho sm rs (by omega) fun h' tk acc' c' hk hD hacc=>?_;have I2:=I.laid (o:=IL (z2j n.toNat)) (h':=h') (t':=tk) hk (Nat.le_refl _)
  (show ObjOk X.prog X.w _ h' _ (.lst ((z2j n.toNat).map V.int)) from⟨hz,acc'.toList,c',y0d hacc,by rw[Array.toArray_toList];exact hD⟩)
 exact⟨.ref _,_,I2,rfl,q _ (I.hok.fresh (Nat.le_refl _))⟩
end
noncomputable abbrev Hd:=List T3×Int
section
variable {K:PySem.W.Frag} {H:Hp} {Q:VK} {a b:Addr} {xs ys:List V} {ws vs:List Hd}
end
section
variable {K:PySem.W.Frag} {H:Hp} {Q:VK} {a b:Addr} {ws vs:List (Option Int)}
end
end L2
namespace SM
open L2
theorem z6n {u:T3} {x y:Int} (h:u.1∣y-x):awP u y ↔ awP u x:=by
 unfold awP;rw[xu (x:=y-u.2.1) (y:=x-u.2.1) (by rw[show y-u.2.1-(x-u.2.1)=y-x by omega];exact h)]
theorem z9A {ws us:List T3} {d t:Int} {r:Option Int} {u v:T3} (mu:u∈ws) (mv:v∈us) {x0:Int} (h1:awP u x0) (h2:awP v (x0-d)) {L:Int} (L0:0<L) (d1:u.1∣L) (d2:v.1∣L) (h:NextOf (ka ws us d) t r):∃x,r=some x/\t<=x/\x<t+L/\ka ws us d x:=by
 have b0:=Int.emod_nonneg (x0-t) (show L≠0 by omega);have b1:=Int.emod_lt_of_pos (x0-t) L0;have e:=Int.emod_add_mul_ediv (x0-t) L;have dv:L∣t+(x0-t)%L-x0:=⟨-((x0-t)/L),by rw[Int.mul_neg];omega⟩
 have y:ka ws us d (t+(x0-t)%L):=⟨⟨u,mu,(z6n (Int.dvd_trans d1 dv)).mpr h1⟩,v,mv,(z6n (u:=v) (x:=x0-d) (by rw[show t+(x0-t)%L-d-(x0-d)=t+(x0-t)%L-x0 by omega];exact Int.dvd_trans d2 dv)).mpr h2⟩
 cases r with
 | none=>exact absurd y (h _ (by omega))
 | some x=>
  refine⟨x,rfl,h.1,?_,h.2.1⟩;by_cases c:x<=t+(x0-t)%L
  ·omega
  ·exact absurd y (h.2.2 _ (by omega) (by omega))
theorem IsPart.uniq {n d e:Int} (h:IsPart n d) (g:IsPart n e):d=e:=by
 by_cases c:d<e
 ·exact absurd h.dvd (g.least d h.two c)
 ·by_cases c2:e<d
  ·exact absurd g.dvd (h.least e g.two c2)
  ·omega
noncomputable def y0g (n:Nat):Nat->Nat->Bool
 | 0,_=>true
 | f+1,d=>if n%d=0 then false else y0g n f (d+1)
theorem z5j {n:Nat}:∀ {f d:Nat},y0g n f d=true->∀e,d<=e->e<d+f->n%e≠0
 | 0,d,_,e,h1,h2=>by omega
 | f+1,d,h,e,h1,h2=>by
  unfold y0g at h;split at h
  ·cases h
  ·rename_i c
   by_cases z:e=d
   ·rw[z];exact c
   ·exact z5j h e (by omega) (by omega)
theorem z0O {n f:Nat} (h2:2<=n) (hs:n<(2+f)*(2+f)) (h:y0g n f 2=true):IsPart n n:=by
 refine vj (p:=2+(f:Int)) (by omega) (fun d d2 dq e=>?_) (by omega) (by
  have z:((n:Int))<(((2+f)*(2+f):Nat):Int):=Int.ofNat_lt.mpr hs;rw[Int.natCast_mul,Int.natCast_add] at z;exact z)
 obtain⟨k,rfl⟩:=Int.eq_ofNat_of_zero_le (show 0<=d by omega);have:=z5j h k (by omega) (by omega);exact this (by have:=Int.emod_eq_zero_of_dvd e;omega)
theorem p6:IsPart 1000003 1000003:=z0O (n:=1000003) (f:=1000) (by decide) (by decide) (by decide +kernel)
end SM
namespace L2
open PySem PySem.Spec PyProof.Rows SM
section
variable {prog:Program} {w:World} {B:Around} {it:Addr} {fp wr:List Addr} {GG:Array GenState->Array GenState->Prop} {n:Nat} {PV:Nat->Value->Prop} {SV:Nat->Shared->Prop} {RR:Result->Shared->Prop}
end
section
variable {prog:Program} {w:World} {A:Around} {E:Value->Shared->Prop} {s:Shared}
end
section
variable {X:Cx}
end
section
variable {X:Cx}
theorem z3z (hc:X.calm=true):qS X (.builtin "max") (fun vs H Q=>∃(a:Addr) (ns:List Int),vs=[.ref a]/\SqL X.K H a (ns.map V.int)/\ns≠[]/\∀M,M∈ns->(∀z∈ns,z<=M)->Q (.int M) H):=by
 intro pins s σ H vs us Q I r h;obtain⟨a,ns,rfl,hq,hn,q⟩:=h;obtain⟨u,rfl,r1⟩:=Vals.one r;cases r1;obtain⟨its,rv,pl,hz⟩:=I.list hq;have hi:IntsAre its ns:=wE rv;obtain⟨xs,ex⟩:=hi.allInts.items;have hns:ns=xs.toList.map (·.1):=by rw[←hi.numsOf,←nums_intItems,←ex]
 have hsz:xs.size=ns.length:=by rw[hns,List.length_map,Array.length_toList]
 have ln:0<ns.length:=List.length_pos_iff.mpr hn;have hl:=pl.isList;rw[ex] at hl;have sz:(intItems xs).size=xs.size:=by simp [intItems]
 refine call_max_walkS (iter_intList hl fun s2 e st hfp ne=>?_);have WS:=(Walks.list (prog:=X.prog) (w:=X.w) (A:=X.A.in1) (I.ok.hd hc) s.heap.objs.size a ne (intItems xs)).toS;refine⟨_,_,_,_,_,_,_,_,rfl,WS,st,hfp,by rw[sz];omega,CmpOf.ints_gt (numAt xs) fun _ _=>intItems_at,fun v s' pv mv=>?_⟩;subst e;rw[sz] at pv;obtain⟨t,rfl⟩:=intItems_at pv;obtain⟨b1,b2⟩:=argBest_gt (numAt xs) (xs.size-1);rw[Moved.eq_with mv];refine⟨.int _,H,I.kept fun b o e=>mv.heap b o (fun z=>?_) (Heap.get?_push_of_some _ e),⟨t,rfl⟩,q _ ?_ fun y hy=>?_⟩
 ·exact absurd (Heap.lt_size e) (by rw[List.mem_singleton.mp z];exact Nat.lt_irrefl _)
 ·rw[hns,numAt_eq];exact getD_mem (by rw[List.length_map,Array.length_toList];omega)
 ·rw[hns] at hy;obtain⟨j,hj,rfl⟩:=mem_getD hy;rw[List.length_map,Array.length_toList] at hj;rw[←numAt_eq];exact b2 j (by omega)
end
section
variable {prog:Program} {w:World} {B:Around} {E:Value->Shared->Prop} {s:Shared}
theorem z0u {J tu:Addr} {k:Nat} {its:Array Value} {v:Value} {Q:Value->Shared->Prop} (hj:s.heap.IsTupleIter J tu k) (hu:s.heap.IsTuple tu its) (hv:its[k]?=some v)
  (q:∀h',h'.IsTupleIter J tu (k+1)->Heap.SameBut J s.heap h'->Q v { s with heap:=h' }):wpAny (model prog w) B (Builtin.SmallTypes.nextOf (.ref J)) Q E s:=by
 have ty:=hj.typeIs;obtain⟨oj,ej,cj,dj⟩:=id hj;obtain⟨ou,eu,_,mu,du⟩:=hu;unfold Builtin.SmallTypes.nextOf;refine wpAny_bind (wpAny_callSpecial?_slot (name:=Str.ofString "__next__") ty PySem.F.slot_tuple_iterator_next (wpAny_call_entry PySem.F.slot_tuple_iterator_next ty PySem.F.entry_tuple_iterator_next ?_ (PySem.F.args_tuple_iterator_next_1 _)));show wpAny _ _ (field (.ref J) 0 >>= _) _ _ s;refine wpAny_bind (wpAny_field ej dj (x:=.ref tu) rfl ?_);show wpAny _ _ (if (Value.ref tu == Value.none)=true then _ else _) _ _ s;rw[if_neg (show ¬((Value.ref tu == Value.none)=true) from Bool.false_ne_true)];show wpAny _ _ (field (.ref J) 1 >>= _) _ _ s;refine wpAny_bind (wpAny_field ej dj (x:=.int k 0) rfl ?_);show wpAny _ _ (seqItems? (.ref tu) >>= _) _ _ s;refine wpAny_bind (wpAny_seqItems eu du ?_);simp only [hv,Int.toNat_natCast];refine wpAny_bind (wpAny_setField ej dj (by simp) (wpAny_pure ⟨v,rfl,wpAny_pure (q _ ?_ (Heap.SameBut.update ..))⟩));exact⟨_,Heap.get?_update_self _ ej (Obj.isFreed_of_fields (Obj.data_mapFields dj _)),(Obj.cls_mapFields ..).trans cj,by rw[Obj.data_mapFields dj];simp [rawInt]⟩
theorem z9C {J tu:Addr} {k:Nat} {its:Array Value} {Q:Value->Shared->Prop} (hh:B.handled=none) (hj:s.heap.IsTupleIter J tu k) (hu:s.heap.IsTuple tu its) (hv:its[k]?=none)
  (q:∀h' x,Heap.ExtBut J s.heap h'->(∃o,h'.get? x=some o/\o.cls=.type "StopIteration")->E (.ref x) { s with heap:=h' }):wpAny (model prog w) B (Builtin.SmallTypes.nextOf (.ref J)) Q E s:=by
 have ty:=hj.typeIs;obtain⟨oj,ej,cj,dj⟩:=id hj;obtain⟨ou,eu,_,mu,du⟩:=hu;unfold Builtin.SmallTypes.nextOf;refine wpAny_bind (wpAny_callSpecial?_slot (name:=Str.ofString "__next__") ty PySem.F.slot_tuple_iterator_next (wpAny_call_entry PySem.F.slot_tuple_iterator_next ty PySem.F.entry_tuple_iterator_next ?_ (PySem.F.args_tuple_iterator_next_1 _)));show wpAny _ _ (field (.ref J) 0 >>= _) _ _ s;refine wpAny_bind (wpAny_field ej dj (x:=.ref tu) rfl ?_);show wpAny _ _ (if (Value.ref tu == Value.none)=true then _ else _) _ _ s;rw[if_neg (show ¬((Value.ref tu == Value.none)=true) from Bool.false_ne_true)];show wpAny _ _ (field (.ref J) 1 >>= _) _ _ s;refine wpAny_bind (wpAny_field ej dj (x:=.int k 0) rfl ?_);show wpAny _ _ (seqItems? (.ref tu) >>= _) _ _ s;refine wpAny_bind (wpAny_seqItems eu du ?_);simp only [hv,Int.toNat_natCast];refine wpAny_bind (wpAny_rule (wpAny_bind (wpAny_setField ej dj (by simp) ?_)));show wpAny (model prog w) _ (newExc (.type "StopIteration") [] >>= _) _ _ _;refine wpAny_bind ?_;unfold newExc newTuple;refine wpAny_bind (wpAny_newObj_type ?_);refine wpAny_bind (m:=firstArgMember _ _) (wpAny_of_eq (a:=Value.none) rfl ?_);refine wpAny_newObj_type ?_;unfold raiseNew;refine wpAny_bind (wpAny_handled ?_);rw[hh];refine wpAny_bind (wpAny_pure (wpAny_throw (q _ _ (((Heap.SameBut.update ..).extBut.push _).push _) ⟨_,Heap.get?_push_size _ rfl,rfl⟩)))
end
section
variable {prog:Program} {w:World} {B:Around} {E:Value->Shared->Prop} {s:Shared}
end
noncomputable def y6r (K:PySem.W.Frag) (a:Addr) (n:Nat) (H:Hp):Prop:=∃xs,SqT K H a xs/\xs.length=n
noncomputable def y6c (K:PySem.W.Frag) (a:Addr) (n:Nat):It:=Itp n (y6r K a n) fun i H u v=>u=.int i/\∀xs,SqT K H a xs->xs[i]?=some v
noncomputable def y5I (K:PySem.W.Frag) (ta:TE):TI:=fun σ H R=>ta σ H fun x H1=>∃a xs,x=.ref a/\SqT K H1 a xs/\R (y6c K a xs.length) H1
section
variable {X:Cx} {es:List Expr} {k:Nat} {tpos:Pos}
end
theorem vm {K:PySem.W.Frag} {ta:TE} {σ:St} {H:Hp} {R:It->Hp->Prop}:y5I K ta σ H R=ta σ H fun x H1=>∃a xs,x=.ref a/\SqT K H1 a xs/\R (y6c K a xs.length) H1:=rfl
theorem z2f:∀ {ys:List Str} {its:List Value},Vals (ys.map V.str) its->∃l:List (Str×Tok),its=strValues l/\l.map (·.1)=ys
 | [],_,.nil=>⟨[],rfl,rfl⟩
 | y::ys,_,.cons r rs=>by
  obtain⟨t,rfl⟩:=r;obtain⟨l,rfl,e⟩:=z2f rs;exact⟨(y,t)::l,rfl,by simp [e]⟩
theorem vB:∀l:List (Str×Tok),Vals (l.map fun p=>V.str p.1) (strValues l)
 | []=>.nil
 | p::l=>.cons ⟨p.2,rfl⟩ (vB l)
section
variable {X:Cx}
theorem z4y:MtR X "str.join" (fun x vs H Q=>∃(sep:Str) (a:Addr) (ys:List Str),x=.str sep/\vs=[.ref a]/\SqL X.K H a (ys.map V.str)/\ys.toArray.foldl (· + ·.length+sep.length) 0<=sizeLine/\(Builtin.Str.glued sep ys).length<=sizeLine/\Q (.str (Builtin.Str.glued sep ys)) H):=by
 intro pins s σ H x vs v us Q I rx rs h;obtain⟨sep,a,ys,rfl,rfl,hq,hz,hg,q⟩:=h;obtain⟨t,rfl⟩:=rx;obtain⟨u,rfl,r1⟩:=Vals.one rs;cases r1;obtain⟨its,rv,pl,_⟩:=I.list hq;obtain⟨l,rfl,rfl⟩:=z2f rv;refine call_meets PySem.F.slot_str_join (typeIs_str _ _ _) PySem.F.entry_str_join (PySem.F.args_str_join_2 _ _) (meets_str_join_list sep t a l (by simp only [Builtin.Str.tooLong];exact decide_eq_false (Nat.not_lt.mpr hz))) ⟨pl.isList,?_⟩
 match l,hg,q with
 | [],hg,q=>exact⟨hg,.str _,H,I.tok _,⟨_,rfl⟩,q⟩
 | [p],_,q=>exact⟨.str p.1,H,I,⟨_,rfl⟩,q⟩
 | p::p2::l,hg,q=>exact⟨hg,.str _,H,I.tok _,⟨_,rfl⟩,q⟩
theorem z6U:MtR X "str.split" (fun x vs H Q=>∃(z y:Str),x=.str z/\vs=[.str y]/\(y.length == 0)=false/\z.length+10<=sizeLine/\∀D,H D=none->Q (.ref D) (upd H D (.lst ((Txt.split z y).map V.str)))):=by
 intro pins s σ H x vs v us Q I rx rs h;obtain⟨z,y,rfl,rfl,hy,hz,q⟩:=h;obtain⟨t,rfl⟩:=rx;obtain⟨w,rfl,u,rfl⟩:=Vals.one rs;have ln:(Builtin.Str.partsBetween z (Builtin.Str.occurrences z y 0 z.length (z.length+1)) y.length).length<=sizeLine:=by
  have:=PySem.StrLaws.occ_length_le z y 0 z.length (z.length+1);simp only [Builtin.Str.partsBetween,List.length_map,List.length_zip,List.length_cons,List.length_append,List.length_nil];omega
 have fin:∀(l:List (Str×Tok)) (tk:Nat),l.map (·.1)=Txt.split z y->EP X pins σ Q (.ref s.heap.objs.size) { s with toks:=tk,heap:=s.heap.push { cls:=.type "list",data:=.seq (strValues l).toArray } }:=fun l tk e=>by
  have e2:(Txt.split z y).map V.str=l.map fun p=>V.str p.1:=by rw[←e,List.map_map];rfl
  have ll:l.length<=sizeLine:=by
   have:l.length=(Txt.split z y).length:=by rw[←e,List.length_map]
   rw[this];unfold Txt.split;split
   ·show 1<=sizeLine;decide
   ·split
    ·show 1<=sizeLine;decide
    ·exact ln
  have q2:=q _ I.fresh;rw[e2] at q2;exact⟨.ref _,_,I.lnew (t':=tk) (vB l) (by rw[List.length_map];exact ll),rfl,q2⟩
 cases h1:(decide (z.length<y.length) || decide (Builtin.Str.strKind z<Builtin.Str.strKind y)) with
 | true=>
  refine call_meets PySem.F.slot_str_split (typeIs_str _ _ _) PySem.F.entry_str_split (PySem.F.args_str_split_2 _ _) (meets_str_split_cannot_occur z y t u h1) ?_;exact fin [(z,t)] s.toks (by unfold Txt.split;rw[if_pos h1];rfl)
 | false=>
  cases h2:(Builtin.Str.occurrences z y 0 z.length (z.length+1)).isEmpty with
  | true=>
   refine call_meets PySem.F.slot_str_split (typeIs_str _ _ _) PySem.F.entry_str_split (PySem.F.args_str_split_2 _ _) (meets_str_split_not_found z y t u h1 hy h2) ?_;exact fin [(z,t)] s.toks (by unfold Txt.split;rw[if_neg (by rw[h1];decide),if_pos h2];rfl)
  | false=>
   refine call_meets PySem.F.slot_str_split (typeIs_str _ _ _) PySem.F.entry_str_split (PySem.F.args_str_split_2 _ _) (meets_str_split_sep z y t u h1 hy h2 (by omega) ln) ?_;rw[strsFrom_eq];exact fin _ _ (by rw[numbered_texts];unfold Txt.split;rw[if_neg (by rw[h1];decide),if_neg (by rw[h2];decide)])
theorem xN:qS X (.type "int") (fun xs H Q=>∃z n,xs=[.str z]/\intText? z=some n/\z.length<=640/\Q (.int n) H):=by
 intro pins s σ H xs us Q I r h;obtain⟨z,n,rfl,e,hl,q⟩:=h;obtain⟨u,rfl,t,rfl⟩:=Vals.one r;exact PySem.W.KIN.call_text e hl ⟨.int n,H,I.tok _,⟨_,rfl⟩,q⟩
end
noncomputable def Asc (z:Str):Prop:=z.cps.all (· < 128)=true
noncomputable def Itc (z:Str):It:=⟨fun i _=>i<z.cps.size,fun i H x H'=>H'=H/\∃c,z.cps[i]?=some c/\x=.str ⟨#[c]⟩,fun i _=>z.cps.size<=i⟩
theorem z6w {P:Program} {w:World} {K:PySem.W.Frag} {tg:Expr} (z:Str) (t:Tok) (J:Addr):Turn P w K tg (Itc z) [J] J (fun i h=>h.IsStrIter J "str_ascii_iterator" z t i) where
 mem:=by simp
 obj:=fun i h st b hb=>by
  have eb:b=J:=by simpa using hb
  subst eb;obtain⟨o,e1,_,d1⟩:=st;exact⟨o,e1,fun v y=>by rw[d1] at y;cases y⟩
 keep:=fun i h h' st k=>let ⟨o,e1,r⟩:=st;⟨o,k J (by simp) o e1,r⟩
 item:=by
  intro X hP hw hK hc i pins s σ H E I hf st hg;subst hP hw hK;have hi:i<z.cps.size:=hg;have hx:z.cps[i]?=some z.cps[i]:=Array.getElem?_eq_getElem hi;obtain⟨f0,f1,f2,f3,f4,f5⟩:=hf J (by simp);refine wpAny_pyNext_ascii_item st hx fun h' st' sb=>?_;have I1:Inv X pins σ H { s with heap:=h',toks:=s.toks+1 }:=I.turned (t':=s.toks+1) (fun b o hb e=>(sb.2 b hb).trans e) f0 f1 f3 f4 f5;obtain⟨o,e1,c1,d1⟩:=id st';exact⟨_,rfl,z5W (s:={ s with heap:=h',toks:=s.toks+1 }) e1 c1 d1 (by decide) ⟨.str ⟨#[z.cps[i]]⟩,H,I1,⟨_,rfl⟩,⟨rfl,z.cps[i],hx,rfl⟩,st',fun b hb=>(hf b hb).1⟩⟩
 done:=by
  intro X hP hw hK hc i pins s σ H E I hf st hg;subst hP hw hK;have hi:z.cps.size<=i:=hg;obtain⟨f0,f1,f2,f3,f4,f5⟩:=hf J (by simp);exact wpAny_pyNext_ascii_end (I.ok.hd hc) st (Array.getElem?_eq_none hi) fun h' eb=>⟨rfl,I.turned (t':=s.toks) (fun b o hb e=>eb b o hb e) f0 f1 f3 f4 f5⟩
 self:=fun _ _ _ _ _ st h=>wpAny_pyIter_striter_ascii st h
noncomputable def y6W (tl:TE):TI:=fun σ H R=>tl σ H fun x H1=>∃z,x=.str z/\Asc z/\R (Itc z) H1
theorem z5G {tl:TE} {σ:St} {H:Hp} {R:It->Hp->Prop}:y6W tl σ H R=tl σ H fun x H1=>∃z,x=.str z/\Asc z/\R (Itc z) H1:=rfl
section
variable {X:Cx} {tg:Expr}
theorem z8m {l:Expr} {tl:TE} (hl:PE X l tl):PI X tg l (y6W tl):=by
 intro pins s σ H R I h;refine thn (hl pins s σ H _ I h) fun v s1 ⟨x,H1,I1,r1,q1⟩=>?_;obtain⟨z,rfl,hz,q⟩:=q1;obtain⟨t,rfl⟩:=r1;refine wpAny_pyIter_ascii hz ?_;refine⟨s1.heap.objs.size,[s1.heap.objs.size],_,_,H1,rfl,I1.kept (t':=s1.toks) fun b o e=>Heap.get?_push_of_some _ e,z6w z t _,⟨_,Heap.get?_push_size _ rfl,rfl,rfl⟩,fun b hb=>?_,q⟩;have eb:b=s1.heap.objs.size:=by simpa using hb
 rw[eb];exact I1.fpOk (Nat.le_refl _) (I1.hok.fresh (Nat.le_refl _))
noncomputable def CS (mg:Str->Option Value) (x:Str) (z:Str):Prop:=∃t,mg x=some (.str z t)
theorem y5P {K:PySem.W.Frag} {h:Heap} {mg:Str->Option Value} {x z:Str} {t:Tok} (X:K.In h) (G:h.Ns mainGlobals mg) (a:PySem.W.nsIn K mainGlobals x=some (some (.str z t))):CS mg x z:=⟨t,PySem.W.mg_of X G a⟩
theorem y3T {x z:Str} {pos:Pos} (hg:Gl X x) (h:CS X.mg x z) (hd:(x == ("__debug__" : Str))=false:=by decide):PE X (.Name x pos) (tC (.str z)):=by
 obtain⟨t,e⟩:=h;exact v6 hg e ⟨t,rfl⟩ hd
end
theorem z3s {σ:St} {H:Hp} {Q:VK} {z:Str} {g:TG} {tt:TT} {te:TE} {own:List Str} {fr:List Nat} (Sv:St->Prop) (Pv:Addr->Nat->List V->Hp->Prop) (hS:Sv (st0 own fr σ))
  (h0:∀D,H D=none->Pv D 0 [] (upd H D (.lst [])))
  (hs:∀D i c ys σ H',z.cps[i]?=some c->Sv σ->H' D=some (.lst ys)->ys.length<=i->Pv D i ys H'->g (.str ⟨#[c]⟩) σ H' fun σ2 H2=>tt σ2 H2 fun b H3=>if b=true then te σ2 H3 fun y H4=>CompP Sv Pv D i σ2 y H4 else qR Sv Pv D (i+1) σ2 H3)
  (hd:∀D ys H',H' D=some (.lst ys)->Pv D z.cps.size ys H'->Q (.ref D) H'):kC (Itc z) g tt te own fr σ H Q:=by
 intro D hD;refine⟨fun i m σ H=>m=z.cps.size-i/\i<=z.cps.size/\qR Sv Pv D i σ H,⟨_,rfl,Nat.zero_le _,hS,[],zH,Nat.le_refl _,h0 D hD⟩,?_⟩;rintro i m σ1 H1 ⟨rfl,hi,hs1,ys,hy,hy2,p⟩;by_cases hlt:i<z.cps.size
 ·refine .inr ⟨hlt,qR Sv Pv D (i+1),fun σ' H' p'=>⟨z.cps.size-(i+1),by omega,rfl,hlt,p'⟩,fun x H' y=>?_⟩;obtain⟨e,c,ec,ex⟩:=y;subst e ex;exact hs D i c ys σ1 _ ec hs1 hy hy2 p
 ·have e:i=z.cps.size:=by omega
  subst e;exact .inl ⟨Nat.le_refl _,hd D ys H1 hy p⟩
end L2
namespace SM
open L2 PySem PySem.Builtin.Str
noncomputable def tx (l:List Nat):Str:=⟨l.toArray⟩
theorem x6 (z:Str):tx z.cps.toList=z:=by
 cases z;simp [tx]
theorem vC {y z:Str} (h:y.cps.toList=z.cps.toList):y=z:=by
 rw[←x6 y,←x6 z,h]
noncomputable def spl (c:Nat):List Nat->List (List Nat)
 | []=>[[]]
 | x::xs=>if x=c then []::spl c xs else match spl c xs with
  | h::t=>(x::h)::t
  | []=>[[x]]
theorem z1W (c:Nat):∀l:List Nat,∃h t,spl c l=h::t
 | []=>⟨[],[],rfl⟩
 | x::xs=>by
  obtain⟨h,t,e⟩:=z1W c xs;unfold spl;split
  ·exact⟨_,_,rfl⟩
  ·rw[e];exact⟨_,_,rfl⟩
noncomputable def yb (c:Nat):List Nat->Nat->List Nat
 | [],_=>[]
 | x::xs,k=>if x=c then k::yb c xs (k+1) else yb c xs (k+1)
theorem yv (z:Str) (i j:Nat):strSub z i j=tx ((z.cps.toList.drop i).take (j-i)):=by
 apply vC;simp [strSub,tx]
theorem v7 (z:Str) (c:Nat):∀(l:List Nat) (k i:Nat),z.cps.toList.drop k=l->k+l.length=z.length->i<=k->
  (((i::(yb c l k).map (· + 1)).zip (yb c l k++[z.length])).map fun (a,b)=>strSub z a b)=match spl c l with
   | h::t=>tx ((z.cps.toList.drop i).take (k-i)++h)::t.map tx
   | []=>[]
 | [],k,i,hd,hl,hi=>by
  simp only [yb,spl,List.map_nil,List.nil_append,List.zip_cons_cons,List.zip_nil_left,List.map_cons,List.append_nil];rw[yv];have:z.length=k:=by simpa using hl.symm
  rw[this]
 | x::xs,k,i,hd,hl,hi=>by
  have hd':z.cps.toList.drop (k+1)=xs:=by rw[←List.tail_drop,hd];rfl
  have hl':k+1+xs.length=z.length:=by rw[List.length_cons] at hl;omega
  have hx:z.cps.toList[k]?=some x:=by
   have:(z.cps.toList.drop k)[0]?=some x:=by rw[hd];rfl
   rw[List.getElem?_drop] at this;exact this
  obtain⟨h,t,e⟩:=z1W c xs;by_cases c1:x=c
  ·have ih:=v7 z c xs (k+1) (k+1) hd' hl' (Nat.le_refl _);rw[e] at ih;simp only [Nat.sub_self,List.take_zero,List.nil_append] at ih;simp only [yb,spl,c1,if_true,List.map_cons,List.cons_append,List.zip_cons_cons,List.append_nil];rw[ih,yv,e];rfl
  ·have ih:=v7 z c xs (k+1) i hd' hl' (by omega);rw[e] at ih;simp only [yb,spl,c1,if_false,e];rw[ih];have e2:(z.cps.toList.drop i).take (k+1-i)=(z.cps.toList.drop i).take (k-i)++[x]:=by
    rw[show k+1-i=(k-i)+1 by omega,List.take_add_one,List.getElem?_drop,show i+(k-i)=k by omega,hx];rfl
   simp only [e2,List.append_assoc,List.singleton_append]
theorem z1V (z:Str) (c k:Nat) {x:Nat} {xs:List Nat} (hd:z.cps.toList.drop k=x::xs):subAt z ⟨#[c]⟩ k=true ↔ x=c:=by
 have e:(z.cps.extract k (k+1)).toList=[x]:=by
  rw[Array.toList_extract,List.extract_eq_take_drop,show k+1-k=1 by omega,hd];rfl
 unfold subAt;show (z.cps.extract k (k+1) == #[c])=true ↔ _;rw[beq_iff_eq,←Array.toList_inj,e];simp
theorem z1o (z:Str) (c:Nat):∀(l:List Nat) (k:Nat) (st:Array Nat×Nat),z.cps.toList.drop k=l->k+l.length=z.length->st.1.size<=k->st.2<=k->
  (forIn (List.range' k (l.length+1)) st (StrLaws.occBody z ⟨#[c]⟩ z.length (z.length+1))).run.fst.toList=st.1.toList++yb c l k
 | [],k,st,hd,hl,h1,h2=>by
  have hk:k=z.length:=by simpa using hl
  show (forIn [k] st (StrLaws.occBody z ⟨#[c]⟩ z.length (z.length+1))).run.fst.toList=_;rw[List.forIn_cons];unfold StrLaws.occBody;rw[if_neg (fun h=>by have:=h.1.2;simp [Str.length] at this hk;omega)];simp [yb]
 | x::xs,k,st,hd,hl,h1,h2=>by
  have hd':z.cps.toList.drop (k+1)=xs:=by rw[←List.tail_drop,hd];rfl
  have hl':k+1+xs.length=z.length:=by rw[List.length_cons] at hl;omega
  show (forIn (k::List.range' (k+1) (xs.length+1)) st (StrLaws.occBody z ⟨#[c]⟩ z.length (z.length+1))).run.fst.toList=_;rw[List.forIn_cons];by_cases c1:x=c
  ·have hb:StrLaws.occBody z ⟨#[c]⟩ z.length (z.length+1) k st=pure (ForInStep.yield (st.fst.push k,k+1)):=by
    unfold StrLaws.occBody;exact if_pos ⟨⟨⟨by omega,h2⟩,by show k+1<=z.length;omega⟩,(z1V z c k hd).mpr c1⟩
   rw[hb];have ih:=z1o z c xs (k+1) (st.fst.push k,k+1) hd' hl' (by simp;omega) (Nat.le_refl _);simp only [yb,c1,if_true];refine Eq.trans ih ?_;simp
  ·have hb:StrLaws.occBody z ⟨#[c]⟩ z.length (z.length+1) k st=pure (ForInStep.yield (st.fst,st.snd)):=by
    unfold StrLaws.occBody;exact if_neg fun h=>c1 ((z1V z c k hd).mp h.2)
   rw[hb];have ih:=z1o z c xs (k+1) (st.fst,st.snd) hd' hl' (by show st.1.size<=k+1;omega) (by show st.2<=k+1;omega);simp only [yb,c1,if_false];exact ih
theorem z1p (z:Str) (c:Nat):occurrences z ⟨#[c]⟩ 0 z.length (z.length+1)=yb c z.cps.toList 0:=by
 rw[StrLaws.occ_eq];have:=z1o z c z.cps.toList 0 (#[],0) rfl (by simp [Str.length]) (Nat.le_refl _) (Nat.le_refl _);have e:z.length+1-0=z.cps.toList.length+1:=by simp [Str.length]
 rw[e,this];simp
theorem z8N (z:Str) (c:Nat) (hc:c<256):Txt.split z ⟨#[c]⟩=(spl c z.cps.toList).map tx:=by
 have main:partsBetween z (occurrences z ⟨#[c]⟩ 0 z.length (z.length+1)) 1=(spl c z.cps.toList).map tx:=by
  rw[z1p];unfold partsBetween;have:=v7 z c z.cps.toList 0 0 rfl (by simp [Str.length]) (Nat.le_refl _);obtain⟨h,t,e⟩:=z1W c z.cps.toList;rw[e] at this ⊢;simp only [Nat.sub_self,List.take_zero,List.nil_append] at this;exact this
 have one:yb c z.cps.toList 0=[]->(spl c z.cps.toList).map tx=[z]:=fun e=>by
  rw[←main,z1p,e];have e3:(z.cps.toList.take z.cps.size)=z.cps.toList:=List.take_of_length_le (by simp);simp [partsBetween,yv,Str.length,e3,x6]
 unfold Txt.split;split
 ·rename_i h
  have k1:Builtin.Str.strKind ⟨#[c]⟩=1:=by simp [Builtin.Str.strKind,hc]
  have kz:1<=Builtin.Str.strKind z:=by unfold Builtin.Str.strKind;split <;> (try split) <;> decide
  have lz:z.length=0:=by
   rw[k1,Bool.or_eq_true,decide_eq_true_eq,decide_eq_true_eq] at h;have e1:(⟨#[c]⟩:Str).length=1:=rfl;omega
  have ez:z.cps.toList=[]:=List.eq_nil_of_length_eq_zero (by simpa [Str.length] using lz);rw[one (by rw[ez];rfl)]
 ·split
  ·rename_i h
   rw[z1p] at h;rw[one (List.isEmpty_iff.mp h)]
  ·exact main
noncomputable def glu (c:Nat):List (List Nat)->List Nat
 | []=>[]
 | [p]=>p
 | p::q::r=>p++c::glu c (q::r)
theorem z8P {c:Nat}:∀ {p:List Nat},c∉p->∀l,spl c (p++c::l)=p::spl c l
 | [],_,l=>by simp [spl]
 | x::p,h,l=>by
  have h1:x≠c:=fun e=>h (by simp [e]);have h2:c∉p:=fun e=>h (by simp [e]);have e:spl c (x::(p++c::l))=if x=c then []::spl c (p++c::l) else match spl c (p++c::l) with
   | h::t=>(x::h)::t
   | []=>[[x]]:=rfl
  rw[List.cons_append,e,if_neg h1,z8P h2 l]
theorem z5p {c:Nat}:∀ {p:List Nat},c∉p->spl c p=[p]
 | [],_=>rfl
 | x::p,h=>by
  have h1:x≠c:=fun e=>h (by simp [e]);have h2:c∉p:=fun e=>h (by simp [e]);unfold spl;rw[if_neg h1,z5p h2]
theorem z8O {c:Nat}:∀ {ps:List (List Nat)},ps≠[]->(∀p∈ps,c∉p)->spl c (glu c ps)=ps
 | [],h,_=>absurd rfl h
 | [p],_,h=>z5p (h p (by simp))
 | p::q::r,_,h=>by
  show spl c (p++c::glu c (q::r))=_;rw[z8P (h p (by simp)),z8O (by simp) fun x hx=>h x (by simp [hx])]
theorem wG (g:Array Nat):∀(ps:List Str) (acc:Array Nat),(ps.foldl (fun acc p=>acc++g++p.cps) acc).toList=acc.toList++ps.flatMap fun p=>g.toList++p.cps.toList
 | [],acc=>by simp
 | p::ps,acc=>by
  rw[List.foldl_cons,wG g ps];simp
theorem z9s (c:Nat):∀ps:List Str,(glued ⟨#[c]⟩ ps).cps.toList=glu c (ps.map fun p=>p.cps.toList)
 | []=>by simp [glued,glu,Str.empty]
 | p::ps=>by
  have e:(glued ⟨#[c]⟩ (p::ps)).cps.toList=p.cps.toList++ps.flatMap fun q=>c::q.cps.toList:=by
   show ((ps.foldl (fun acc q=>acc ++ #[c]++q.cps) p.cps)).toList=_;rw[wG];simp
  rw[e];clear e
  induction ps generalizing p with
  | nil=>simp [glu]
  | cons q ps ih=>
   have:=ih q;simp only [List.map_cons,glu,List.flatMap_cons] at this ⊢;rw[←this];simp
theorem y0B:∀m:Nat,0<m->∃ch r,Nat.toDigits 10 m=ch::r/\ch.toNat≠48:=by
 intro m
 induction m using Nat.strongRecOn with
 | _ m ih=>
  intro h0;by_cases h:m<10
  ·rw[Nat.toDigits_of_lt_base h];refine⟨_,[],rfl,?_⟩;have:∀d:Nat,d<10->0<d->(Nat.digitChar d).toNat≠48:=by decide
   exact this m h h0
  ·have hm:m%10<10:=Nat.mod_lt m (by decide);have t:Nat.toDigits 10 (m/10)++Nat.toDigits 10 (m%10)=Nat.toDigits 10 (10*(m/10)+m%10):=Nat.toDigits_append_toDigits (by decide) (by omega) hm;rw[Nat.div_add_mod] at t;obtain⟨ch,r,e,ne⟩:=ih (m/10) (by omega) (by omega);rw[←t,e];exact⟨ch,_,rfl,ne⟩
theorem z6h:∀(k m:Nat),m<10^(k+1)->(Nat.toDigits 10 m).length<=k+1
 | 0,m,h=>by
  rw[Nat.toDigits_of_lt_base (by simpa using h)];simp
 | k+1,m,h=>by
  by_cases h1:m<10
  ·rw[Nat.toDigits_of_lt_base h1];simp
  ·have hm:m%10<10:=Nat.mod_lt m (by decide);have t:Nat.toDigits 10 (m/10)++Nat.toDigits 10 (m%10)=Nat.toDigits 10 (10*(m/10)+m%10):=Nat.toDigits_append_toDigits (by decide) (by omega) hm;rw[Nat.div_add_mod] at t;have ih:=z6h k (m/10) (by rw[Nat.pow_succ] at h;omega);rw[←t,List.length_append,Nat.toDigits_of_lt_base hm];simp;omega
theorem z6S {n:Int} (h0:0<=n):∃l:List Nat,Str.ofString (toString n)=tx l/\PySem.NumText.AllDigits l/\l≠[]/\((PySem.NumText.digitsVal l:Nat):Int)=n/\(l[0]?=some 48->l.length=1)/\∀k:Nat,n<10^(k+1)->l.length<=k+1:=by
 obtain⟨m,rfl⟩:=Int.eq_ofNat_of_zero_le h0;refine⟨(Nat.toDigits 10 m).map Char.toNat,?_,?_,?_,?_,?_,?_⟩
 ·rw[←x6 (Str.ofString _),PySem.W.KIN.signs_num]
 ·intro c hc;obtain⟨ch,hch,e⟩:=List.mem_map.mp hc;rw[←e];exact PyProof.Rows.digit_range (Nat.isDigit_of_mem_toDigits (by decide) (by decide) hch)
 ·intro e;have:=List.map_eq_nil_iff.mp e;have h:=PySem.toDigits_len_ge 10 m;rw[this] at h;exact absurd h (by decide)
 ·rw[PySem.W.KIN.val_back]
 ·intro e;rcases Nat.eq_zero_or_pos m with rfl|hp
  ·rfl
  ·obtain⟨ch,r,e1,ne⟩:=y0B m hp;rw[e1] at e;exact absurd (by simpa using e) ne
 ·intro k hk;rw[List.length_map];refine z6h k m ?_;have e:((10^(k+1):Nat):Int)=10^(k+1):=by rw[Int.natCast_pow];rfl
  rw[←e] at hk;exact Int.ofNat_lt.mp hk
end SM
namespace L2
open PySem PySem.Spec PyProof.Rows
noncomputable def Rises (l:List Nat):Prop:=l.Pairwise (· < ·)
theorem Rises.lt {l:List Nat} (h:Rises l) {i k x y:Nat} (hi:l[i]?=some x) (hk:l[k]?=some y) (hik:i<k):x<y:=by
 obtain⟨h1,rfl⟩:=List.getElem?_eq_some_iff.mp hi;obtain⟨h2,rfl⟩:=List.getElem?_eq_some_iff.mp hk;exact List.pairwise_iff_getElem.mp h i k h1 h2 hik
theorem z2b {xs:Array Nat} {j:Nat} (h:Rises xs.toList):∀(f lo hi:Nat),lo<=hi->hi<=xs.size->hi-lo<=f->(∀k x,k<lo->xs[k]?=some x->x<j)->(∀k x,hi<=k->xs[k]?=some x->j<=x)->
  SetTable.below.go xs j f lo hi<=xs.size/\(∀k x,k<SetTable.below.go xs j f lo hi->xs[k]?=some x->x<j)/\∀k x,SetTable.below.go xs j f lo hi<=k->xs[k]?=some x->j<=x
 | 0,lo,hi,h1,h2,h3,a,b=>by
  have:lo=hi:=by omega
  subst this;exact⟨h2,a,b⟩
 | f+1,lo,hi,h1,h2,h3,a,b=>by
  unfold SetTable.below.go;split
  ·rename_i hlt
   have hm:(lo+hi)/2<xs.size:=by omega
   have em:xs[(lo+hi)/2]?=some xs[(lo+hi)/2]:=by simp [hm]
   have eg:xs.getD ((lo+hi)/2) j=xs[(lo+hi)/2]:=by simp [Array.getD,hm]
   dsimp only;rw[eg];split
   ·rename_i c
    refine z2b h f _ hi (by omega) h2 (by omega) (fun k x hk e=>?_) b;by_cases z:k=(lo+hi)/2
    ·subst z;rw[em] at e;cases e;exact c
    ·exact Nat.lt_trans (h.lt (by rw[Array.getElem?_toList];exact e) (by rw[Array.getElem?_toList];exact em) (by omega)) c
   ·rename_i c
    refine z2b h f lo _ (by omega) (by omega) (by omega) a (fun k x hk e=>?_);by_cases z:k=(lo+hi)/2
    ·subst z;rw[em] at e;cases e;omega
    ·have:=h.lt (by rw[Array.getElem?_toList];exact em) (by rw[Array.getElem?_toList];exact e) (show (lo+hi)/2<k by omega);omega
  ·have:lo=hi:=by omega
   subst this;exact⟨h2,a,b⟩
theorem wv {xs:Array Nat} (h:Rises xs.toList) (j:Nat):SetTable.below xs j<=xs.size/\(∀k x,k<SetTable.below xs j->xs[k]?=some x->x<j)/\∀k x,SetTable.below xs j<=k->xs[k]?=some x->j<=x:=
 z2b h xs.size 0 xs.size (Nat.zero_le _) (Nat.le_refl _) (by omega) (fun k x hk=>by omega) fun k x hk e=>by
  have:=(Array.getElem?_eq_some_iff.mp e).1;omega
theorem z7m {xs:Array Nat} (h:Rises xs.toList) {i x:Nat} (e:xs[i]?=some x):SetTable.below xs (x+1)=i+1:=by
 obtain⟨a,b,c⟩:=wv h (x+1);have hi:=(Array.getElem?_eq_some_iff.mp e).1;by_cases z1:SetTable.below xs (x+1)<=i
 ·have:=c i x z1 e;omega
 by_cases z2:i+1<SetTable.below xs (x+1)
 ·have hk:i+1<xs.size:=by omega
  have e2:xs[i+1]?=some xs[i+1]:=by simp [hk]
  have h1:=b (i+1) _ z2 e2;have h2:=h.lt (by rw[Array.getElem?_toList];exact e) (by rw[Array.getElem?_toList];exact e2) (Nat.lt_succ_self i);omega
 omega
theorem z7l {xs:Array Nat} (h:Rises xs.toList):SetTable.below xs 0=0:=by
 obtain⟨a,b,c⟩:=wv h 0;by_cases z:0<SetTable.below xs 0
 ·have hk:0<xs.size:=by omega
  have e2:xs[0]?=some xs[0]:=by simp [hk]
  have:=b 0 _ z e2;omega
 omega
theorem y0T {xs:Array Nat} (h:Rises xs.toList) {j:Nat} (m:j∈xs.toList):xs[SetTable.below xs j]?=some j:=by
 obtain⟨i,hi,e⟩:=List.mem_iff_getElem.mp m;have e1:xs[i]?=some j:=by rw[←Array.getElem?_toList,List.getElem?_eq_getElem hi,e]
 obtain⟨a,b,c⟩:=wv h j;by_cases z1:i<SetTable.below xs j
 ·have:=b i j z1 e1;omega
 by_cases z2:SetTable.below xs j=i
 ·rw[z2];exact e1
 have hk:SetTable.below xs j<xs.size:=by
  have:=(Array.getElem?_eq_some_iff.mp e1).1;omega
 have e2:xs[SetTable.below xs j]?=some xs[SetTable.below xs j]:=by simp [hk]
 have h1:=c _ _ (Nat.le_refl _) e2;have h2:=h.lt (by rw[Array.getElem?_toList];exact e2) (by rw[Array.getElem?_toList];exact e1) (show SetTable.below xs j<i by omega);omega
theorem z3G {xs:Array Nat} (h:Rises xs.toList) {j:Nat} (m:j∉xs.toList):Rises (SetTable.insertAt xs (SetTable.below xs j) j).toList:=by
 obtain⟨a,b,c⟩:=wv h j;rw[SetTable.toList_insertAt];generalize SetTable.below xs j=p at a b c;have hb:∀x∈xs.toList.take p,x<j:=fun x hx=>by
  obtain⟨i,hi,e⟩:=List.mem_iff_getElem.mp hx;rw[List.getElem_take] at e;rw[List.length_take] at hi;exact b i x (by omega) (by rw[←Array.getElem?_toList,List.getElem?_eq_getElem (by omega),e])
 have hc:∀x∈xs.toList.drop p,j<x:=fun x hx=>by
  obtain⟨i,hi,e⟩:=List.mem_iff_getElem.mp hx;rw[List.getElem_drop] at e;rw[List.length_drop] at hi;have h1:=c (p+i) x (by omega) (by rw[←Array.getElem?_toList,List.getElem?_eq_getElem (by omega),e]);have h2:x≠j:=fun z=>m (z▸List.mem_of_mem_drop hx);omega
 unfold Rises at h ⊢;refine List.pairwise_append.mpr ⟨h.sublist (List.take_sublist _ _),List.pairwise_cons.mpr ⟨hc,h.sublist (List.drop_sublist _ _)⟩,fun x hx y hy=>?_⟩;rcases List.mem_cons.mp hy with rfl|hy
 ·exact hb x hx
 ·exact Nat.lt_trans (hb x hx) (hc y hy)
theorem z2x {t:SetTable} (h:Rises t.place.toList) {j:Nat} (e:∀i,t.slot j≠.live i):j∉t.place.toList:=fun m=>by
 have:=y0T h m;unfold SetTable.slot at e;simp [this] at e
theorem ky {t:SetTable} (h:Rises t.place.toList) {ha:Nat->Int} {z:Int}:∀(f:Nat) (p:SetTable.Probe) (j:Nat) (dm:Option Nat),(∀d,p.dummy=some d->d∉t.place.toList)->SetTable.probe.go t ha z f p=some (.empty j dm)->j∉t.place.toList/\∀d,dm=some d->d∉t.place.toList
 | 0,p,j,dm,_,e=>by simp [SetTable.probe.go] at e
 | f+1,p,j,dm,hp,e=>by
  have adv:∀q:SetTable.Probe,(t.advance q).dummy=q.dummy:=fun q=>by
   unfold SetTable.advance;split <;> rfl
  unfold SetTable.probe.go at e;cases es:t.slot p.j with
  | empty=>
   rw[es] at e;cases e;exact⟨z2x h (fun i z=>by rw[es] at z;cases z),hp⟩
  | dummy=>
   rw[es] at e;refine ky h f _ j dm (fun d hd=>?_) e;rw[adv] at hd;cases hd;exact z2x h fun i z=>by rw[es] at z;cases z
  | live i=>
   rw[es] at e;dsimp only at e;split at e
   ·cases e
   ·exact ky h f _ j dm (fun d hd=>hp d (by rw[adv] at hd;exact hd)) e
theorem z2U {t:SetTable} (h:Rises t.place.toList) {z:Int} {j:Nat} {b:Bool} (e:t.freeSlot z=some (j,b)):j∉t.place.toList:=by
 unfold SetTable.freeSlot at e;split at e
 ·rename_i jj dm hq
  injection e with e;injection e with e1 e2;obtain⟨a,c⟩:=ky h _ _ _ _ (fun d hd=>by simp [SetTable.probeStart] at hd) hq;subst e1;cases dm with
  | none=>exact a
  | some d=>exact c d rfl
 ·cases e
noncomputable def qQ (led:Bool) (t:SetTable):Prop:=t.led=led/\(t.plain=true->Rises t.place.toList)
theorem kD {led:Bool} {t:SetTable} {n:Nat} (h:qQ led t):qQ led (t.standIn n):=⟨h.1,fun z=>by simp [SetTable.standIn] at z⟩
theorem y4L {led:Bool} {t:SetTable} {n:Nat} (h:qQ led t):qQ led (t.orStandIn n):=by
 unfold SetTable.orStandIn;split
 ·exact h
 ·exact kD h
theorem y2o {led:Bool} {t:SetTable} (h:qQ led t) (es:Array (Int×Value)) (z:Int) (x:Value):qQ led (layNew t es z x).2.1:=by
 unfold layNew;split
 ·rename_i j b e
  refine y4L ⟨h.1,fun hp=>?_⟩;exact z3G (h.2 hp) (z2U (h.2 hp) e)
 ·exact kD h
theorem z7J (n:Nat) (f:Nat->Option Nat):Rises (((List.range n).filterMap fun j=>(f j).map (j,·)).map (·.1)):=by
 have:List.Sublist (((List.range n).filterMap fun j=>(f j).map (j,·)).map (·.1)) (List.range n):=by
  generalize List.range n=l
  induction l with
  | nil=>simp
  | cons a l ih=>
   cases e:f a with
   | none=>simp only [List.filterMap_cons,e,Option.map_none];exact ih.trans (List.sublist_cons_self _ _)
   | some v=>simp only [List.filterMap_cons,e,Option.map_some,List.map_cons];exact ih.cons₂ a
 exact (List.pairwise_lt_range (n:=n)).sublist this
theorem z7x {led:Bool} {t:SetTable} (h:qQ led t) (es:Array (Int×Value)) (n:Nat):qQ led (relayAll t es n).2.1:=by
 unfold relayAll;split
 ·rename_i t' order e
  dsimp only;split
  ·unfold SetTable.relaid SetTable.laid at e;simp only [bind,Option.bind] at e;split at e
   ·cases e
   ·rename_i ow _
    cases e;refine⟨h.1,fun _=>?_⟩;dsimp only;exact z7J _ _
  ·exact kD h
 ·exact kD h
section
variable {prog:Program} {w:World}
noncomputable def qy (w:World):Bool:=!w.params.followText "set-order"
noncomputable def SetG (prog:Program) (w:World) (h:Heap) (a:Addr) (S:Int->Bool) (n:Nat):Prop:=
 ∃o es ep t,h.get? a=some o/\o.ExactSet/\o.data=.set es ep t/\ElemsOf (intKind prog w) es.toList/\(∀k,S k=true ↔ ∃e∈es.toList,(intKind prog w).is k e.2=true)/\es.size<scanBound/\t.fits es.size=true/\es.size=n/\qQ (qy w) t
theorem SetG.keep {h h':Heap} {a:Addr} {S:Int->Bool} {n:Nat} (x:SetG prog w h a S n) (k:∀o,h.get? a=some o->h'.get? a=some o):SetG prog w h' a S n:=
 let ⟨o,es,ep,t,e,r⟩:=x
 ⟨o,es,ep,t,k _ e,r⟩
theorem SetG.congr {h:Heap} {a:Addr} {S S':Int->Bool} {n n':Nat} (x:SetG prog w h a S n) (e:∀k,S k=S' k) (en:n=n'):SetG prog w h a S' n':=by
 have:S=S':=funext e;subst this en;exact x
variable {A:Around} {E:Value->Shared->Prop} {s:Shared}
theorem z0m {h:Heap} {a:Addr} {o:Obj} {es:Array (Int×Value)} {ep:Nat} {t:SetTable} (ho:h.get? a=some o) (hex:o.ExactSet) (hd:o.data=.set es ep t) {es':Array (Int×Value)} {t':SetTable} {S':Int->Bool}
  (hel:ElemsOf (intKind prog w) es'.toList) (hmem:∀k,S' k=true ↔ ∃e∈es'.toList,(intKind prog w).is k e.2=true) (hb:es'.size<scanBound) (hf:t'.fits es'.size=true) (ht:qQ (qy w) t') :
  (h.update a (Obj.putSet es' t')).get? a=some { o with data:=.set es' (ep+1) t' }/\SetG prog w (h.update a (Obj.putSet es' t')) a S' es'.size:=by
 have hg:=(SetOf_store (knd:=intKind prog w) ho hex hd hel hmem hb hf).1;exact⟨hg,_,es',ep+1,t',hg,hex,rfl,hel,hmem,hb,hf,rfl,ht⟩
theorem y0s {a:Addr} {S:Int->Bool} {n:Nat} {k:Int} {tk:Tok} {Q:Bool->Shared->Prop} (hS:SetG prog w s.heap a S n) (hroom:n+1<scanBound)
  (h:∀h' b,Heap.SameBut a s.heap h'->SetG prog w h' a (fun k'=>S k' || decide (k'=k)) (if S k then n else n+1)->Q b { s with heap:=h' }) :
  wpAny (model prog w) A (setAddHashed a (.int k tk) ((intKind prog w).hash k)) Q E s:=by
 have hkey:(intKind prog w).is k (.int k tk)=true:=intKind_is _ _ _ _;have hsc:(Value.int k tk).scannable=true:=rfl;obtain⟨o,es,ep,t,ho,hex,hd,hel,hmem,hb,hf,rfl,ht⟩:=hS;unfold setAddHashed setAddHashedIn;refine wpAny_holding (wpAny_bind (wpAny_setState_of ho hd hf ?_));dsimp only;rw[byScan_of hsc hb hel,if_pos rfl];unfold setAddByScan;refine wpAny_bind (wpAny_bind (wpAny_rule (wpAny_bind (wpAny_setScan_of hkey ho hd hf hel ?_))));cases hr:List.findIdx? (fun e=>(intKind prog w).is k e.2) es.toList with
 | some j=>
  obtain⟨hj,hpj,_⟩:=List.findIdx?_eq_some_iff_getElem.mp hr;have hSk:S k=true:=(hmem k).mpr ⟨es.toList[j],List.getElem_mem hj,hpj⟩;refine wpAny_pure (wpAny_pure ?_);have e:s = { s with heap:=s.heap }:=by cases s;rfl
  rw[e];refine h s.heap _ (Heap.SameBut.refl a s.heap) ⟨o,es,ep,t,ho,hex,hd,hel,fun k'=>?_,hb,hf,by rw[if_pos hSk],ht⟩;rw[Bool.or_eq_true,decide_eq_true_eq,←hmem k'];exact⟨fun z=>z.elim id fun z=>z▸hSk,.inl⟩
 | none=>
  have hSk:¬S k=true:=fun z=>by
   obtain⟨e,he,hp⟩:=(hmem k).mp z;have:=List.findIdx?_eq_none_iff.mp hr e he;rw[hp] at this;cases this
  have hperm:=layNew_perm t es ((intKind prog w).hash k) (.int k tk);have hfits:=layNew_fits t es ((intKind prog w).hash k) (.int k tk);have htab:=y2o ht es ((intKind prog w).hash k) (.int k tk);dsimp only;generalize layNew t es ((intKind prog w).hash k) (.int k tk)=L at hperm hfits htab ⊢;obtain⟨es1,t1,wd,gave⟩:=L;dsimp only at hperm hfits htab ⊢;rw[Array.toList_push] at hperm;have hel1:ElemsOf (intKind prog w) es1.toList:=(hel.push hkey hsc).perm hperm;have hmem1:∀k',(S k' || decide (k'=k))=true ↔ ∃e∈es1.toList,(intKind prog w).is k' e.2=true:=mem_push_iff hkey hmem hperm;have hsz1:es1.size=es.size+1:=by rw[←Array.length_toList,hperm.length_eq,List.length_append,Array.length_toList];rfl
  have hb1:es1.size<scanBound:=by omega
  have fin:∀h' b,Heap.SameBut a s.heap h'->SetG prog w h' a (fun k'=>S k' || decide (k'=k)) es1.size->Q b { s with heap:=h' }:=fun h' b hsb hS'=>h h' b hsb (by rw[if_neg hSk,←hsz1];exact hS');have hby:hashByValue 8 (.int k tk)=pure true:=hashByValue_scannable 8 hsc;refine wpAny_bind ?_;have g1:∀(b:Bool) (s₁:Shared) (Q':Unit->Shared->Prop),Q' () s₁->wpAny (model prog w) A (match b with|true=>rule "set.scan.the-table-gave-way" | false=>pure ()) Q' E s₁:=fun b s₁ Q' hq=>by cases b <;> first|exact wpAny_pure hq|exact wpAny_rule hq
  refine g1 gave _ _ ?_;have tail:∀t2:SetTable,t2.fits es1.size=true->qQ (qy w) t2->wpAny (model prog w) A (do
    storeSet a es1 t2
    if (!wd && t2.tooFull)=true then do
      (match (relayAll t2 es1 (SetTable.grown es1.size)).2.2 with|true=>rule "set.scan.the-table-gave-way" | false=>pure ())
      storeSet a (relayAll t2 es1 (SetTable.grown es1.size)).1 (relayAll t2 es1 (SetTable.grown es1.size)).2.1
      pure (some true)
     else pure (some true)) (fun (r:Option Bool) s'=>wpAny (model prog w) A (match r with|some added=>pure added|none=>setAddHashedIn a (.int k tk) ((intKind prog w).hash k) 99999) Q E s') E s:=by
   intro t2 hf2 ht2;obtain⟨ho1,hS1⟩:=z0m ho hex hd hel1 hmem1 hb1 hf2 ht2;have hsb1:=Heap.SameBut.update s.heap a (Obj.putSet es1 t2);refine wpAny_bind (wpAny_storeSet_of ho hd ?_ (fits_of_scanBound hb1));split
   ·have hp:=relayAll_perm t2 es1 (SetTable.grown es1.size);have hfr:=relayAll_fits t2 es1 (SetTable.grown es1.size);have htr:=z7x ht2 es1 (SetTable.grown es1.size);generalize relayAll t2 es1 (SetTable.grown es1.size)=Rl at hp hfr htr ⊢;obtain⟨es2,t3,gave2⟩:=Rl;dsimp only at hp hfr htr ⊢;have hsz:es2.size=es1.size:=by rw[←Array.length_toList,hp.length_eq,Array.length_toList]
    have hb2:es2.size<scanBound:=by omega
    refine wpAny_bind (g1 _ _ _ (wpAny_bind (wpAny_storeSet_of ho1 rfl ?_ (fits_of_scanBound hb2))));obtain⟨_,hS2⟩:=z0m ho1 hex rfl (hel1.perm hp) (fun k'=>(hmem1 k').trans ⟨fun⟨e,he,q⟩=>⟨e,hp.mem_iff.mpr he,q⟩,fun⟨e,he,q⟩=>⟨e,hp.mem_iff.mp he,q⟩⟩) hb2 hfr htr;rw[hsz] at hS2;exact wpAny_pure (wpAny_pure (fin _ _ (hsb1.trans (Heap.SameBut.update _ a _)) hS2))
   ·exact wpAny_pure (wpAny_pure (fin _ _ hsb1 hS1))
  split
  ·refine wpAny_bind ?_;rw[hby];refine wpAny_pure ?_;refine tail _ ?_ ?_
   ·exact hfits
   ·exact htab
  ·refine wpAny_bind (wpAny_pure ?_);exact tail _ hfits htab
end
section
variable {prog:Program} {w:World} {A:Around}
theorem z8Z {R:Result->Shared->Prop} {I:Addr} {fp wr:List Addr} {G:Array GenState->Array GenState->Prop} {n:Nat} {P:Nat->Value->Prop} {St:Nat->Shared->Prop} (W:WalksS prog w A.in1 I fp wr G n P St) (S:Addr) (hSf:S∉fp)
  (val:Nat->Int) (hval:∀i v,P i v->∃t,v=.int (val i) t) (hb:n+1<scanBound):∀(k i:Nat) (s:Shared),n-i=k->i<=n->St i s->
   SetG prog w s.heap S (fun k'=>(firstMet val i).any (· == k')) (firstMet val i).length->
   (∀s',Moved (S::wr) G s s'->SetG prog w s'.heap S (fun k'=>(firstMet val n).any (· == k')) (firstMet val n).length->R (.ok (.ret .none)) s')->
   codeAny (model prog w) A (.builtin "set.update.loop" ⟨[.ref S,.ref I],[]⟩) R s:=by
 have hSw:S∉wr:=fun h=>hSf (W.sub _ h);have hsub:∀b∈wr,b∈S::wr:=fun b hb=>List.mem_cons_of_mem _ hb;intro k
 induction k with
 | zero=>
  intro i s hk hi hst hS hR;obtain rfl:i=n:=by omega
  refine codeAny_builtin PyProof.Rows.F.entry_set_update_loop ?_;rw[Around.under_plainId PyProof.Rows.F.plain_set_update_loop _];refine wpAny_bind (m:=pyNext (.ref I)) (W.done s _ _ hst fun s' hm=>?_);exact wpAny_pure (hR s' (hm.mono hsub) (hS.keep fun o e=>hm.heap S _ hSw e))
 | succ k ih=>
  intro i s hk hi hst hS hR;have hlt:i<n:=by omega
  refine codeAny_builtin PyProof.Rows.F.entry_set_update_loop ?_;rw[Around.under_plainId PyProof.Rows.F.plain_set_update_loop _];refine wpAny_bind (m:=pyNext (.ref I)) (W.item i s _ _ hlt hst fun v s' hP hst' hm=>?_);obtain⟨t,rfl⟩:=hval i v hP;have hS':=hS.keep fun o e=>hm.heap S _ hSw e;have hroom:(firstMet val i).length+1<scanBound:=by have:=firstMet_length_le val i;omega
  refine wpAny_bind (m:=holding [Value.int (val i) t] (setAdd S (.int (val i) t))) (wpAny_holding ?_);unfold setAdd;refine wpAny_holding (wpAny_bind ((intKind prog w).pyHash (k:=val i) (intKind_is _ _ _ _) ?_));refine y0s (s:={ s' with toks:=s'.toks+1 }) hS' hroom fun h' b hsb hS2=>?_;have hSi:SetG prog w h' S (fun k'=>(firstMet val (i+1)).any (· == k')) (firstMet val (i+1)).length:=hS2.congr (fun k'=>by rw[firstMet_succ,step_any]) (by rw[firstMet_succ,step_length]);refine wpAny_pure ⟨plainId_quiet PyProof.Rows.F.plain_set_update_loop _,ih (i+1) _ (by omega) hlt (W.frame _ s' _ _ hst' (Nat.le_succ _) fun b hb o e=>?_) hSi fun s'' hm'' hS''=>?_⟩
  ·rw[hsb.2 b (fun h:b=S=>hSf (by rw[←h];exact hb))];exact e
  ·refine hR s'' (Moved.trans W.gtrans ((hm.mono hsub).then_heap (Nat.le_succ _) fun b o hb e=>?_) hm'') hS'';rw[hsb.2 b (fun h:b=S=>hb (by rw[h];exact List.mem_cons_self))];exact e
theorem y1N {a:Value} {E:Value->Shared->Prop} {s:Shared} {Q₁:Value->Shared->Prop}
  (h:Q₁ (.ref s.heap.objs.size) { s with heap:=s.heap.push { cls:=.type "set",dict:=none,data:=.set #[] 0 (.fresh 0 0 (qy w)) } }) :
  codeAny (model prog w) A (.call (.builtin "set.__new__") ⟨[.type "set",a],[]⟩) (wants Q₁ E) s:=by
 refine codeAny_of_tree ?_;refine wpAny_bind (m:=checkBuiltinCall "set.__new__" ⟨[.type "set",a],[]⟩) (wpAny_of_eq (PySem.F.newCall_set_1 a) (wpAny_pure ⟨plainId_quiet PySem.F.plain_set_new _,codeAny_builtin PySem.F.entry_set_new ?_⟩));rw[Around.under_plainId PySem.F.plain_set_new _];unfold Builtin.«set.__new__» Builtin.Frozenset.newClass;have hsub:=sub_set_self;obtain⟨hp,g,d,tk,os⟩:=s;dsimp only
 wp_walk
 refine wpAny_askSetting (wpAny_pure ?_);dsimp only;simp only [newObj];refine wpAny_bind (wpAny_alloc (wpAny_pure ?_));exact wpAny_pure h
end
section
variable {prog:Program} {w:World} {A:Around} {E:Value->Shared->Prop} {s:Shared}
theorem z9a {l:Addr} {items:Array Value} {ns:List Int} {s1:Shared} {S:Addr} {R:Result->Shared->Prop} (hh:A.handled=none) (hl:s1.heap.IsList l items) (hi:IntsAre items.toList ns) (hb:items.size+1<scanBound) (hlS:l≠S)
  (hS:s1.heap.get? S=some { cls:=.type "set",dict:=none,data:=.set #[] 0 (.fresh 0 0 (qy w)) })
  (h:∀(h':Heap) (tk:Nat),SetG prog w h' S (fun k'=>(firstMet (fun i=>ns.getD i 0) items.size).any (· == k')) (firstMet (fun i=>ns.getD i 0) items.size).length->
   (∀b o,b≠S->s1.heap.get? b=some o->h'.get? b=some o)->R (.ok (.ret .none)) { s1 with heap:=h',toks:=tk }) :
  wpAny (model prog w) A.in1 (Builtin.«set.__init__» ⟨[.ref S,.ref l],[]⟩) (fun fin s'=>match fin with | .done f=>R (.ok f) s' | .again c'=>c'.quiet=true/\codeAny (model prog w) A c' R s') (fun e s'=>R (.error e) s') s1:=by
 have hT:s1.TypeIs (.ref S) "set" :=⟨_,hS,rfl⟩
 have hS0:SetG prog w s1.heap S (fun _=>false) 0:=⟨_,#[],0,_,hS,⟨rfl,rfl,rfl⟩,rfl,(fun e he=>by simp at he),(fun k=>by simp),by decide,rfl,rfl,rfl,fun _=>by simp [SetTable.fresh,Rises]⟩
 obtain⟨ol,hol,hcl,nl,hdl⟩:=id hl;obtain⟨ocls,odict,odata,oslots⟩:=ol;simp only at hcl hdl;subst hcl hdl;have hsls:=PySem.F.sub_list_set;have hslf:=PySem.F.sub_list_frozenset;have hne:(Value.type "list" == Value.type "dict")=false:=by decide
 have hneS:S≠s1.heap.objs.size:=Nat.ne_of_lt (Heap.lt_size hS);have hneI:l≠s1.heap.objs.size:=Nat.ne_of_lt (Heap.lt_size hol);have hh3:A.in1.in1.handled=none:=by simp [hh]
 have hval:∀(i:Nat) (v:Value),items[i]?=some v->∃t,v=.int ((fun i=>ns.getD i 0) i) t:=fun i v hv=>IntsAre.int_at hi i v (by rw[Array.getElem?_toList];exact hv);have hSf:S∉[s1.heap.objs.size,l]:=by
  simp only [List.mem_cons,List.not_mem_nil,or_false,not_or];exact⟨hneS,fun z=>hlS z.symm⟩
 unfold Builtin.«set.__init__» noKeywords Builtin.Frozenset.updateFrom;generalize hPI:pyIter=PI
 wp_walk
 subst hPI;refine wpAny_pyIter_list hl ?_;refine wpAny_bind (wpAny_runValue ?_);refine z8Z ((Walks.list hh3 _ l hneI items).toS) S hSf (fun i=>ns.getD i 0) hval hb (items.size-0) 0 _ (by omega) (Nat.zero_le _) ⟨⟨_,Heap.get?_push_size _ rfl,rfl,rfl⟩,hl.push _⟩ (hS0.keep fun o e=>Heap.get?_push_of_some _ e) ?_;intro s' hm hS';rw[Moved.eq_with hm];refine wpAny_pure (wpAny_pure (h _ _ hS' fun b o hb e=>?_));refine hm.heap b o (fun z=>?_) (Heap.get?_push_of_some _ e);rcases List.mem_cons.mp z with z|z
 ·exact hb z
 ·exact absurd (Heap.lt_size e) (by rw[List.mem_singleton.mp z];exact Nat.lt_irrefl _)
set_option maxHeartbeats 3200000 in
theorem y0Q {l:Addr} {items:Array Value} {ns:List Int} {Q:Value->Shared->Prop} (hh:A.handled=none) (hl:s.heap.IsList l items) (hi:IntsAre items.toList ns) (hb:items.size+1<scanBound)
  (h:∀(h':Heap) (tk:Nat),SetG prog w h' s.heap.objs.size (fun k'=>(firstMet (fun i=>ns.getD i 0) items.size).any (· == k')) (firstMet (fun i=>ns.getD i 0) items.size).length->
   (∀b o,s.heap.get? b=some o->h'.get? b=some o)->Q (.ref s.heap.objs.size) { s with heap:=h',toks:=tk }) :
  wpAny (model prog w) A (call (.type "set") [.ref l]) Q E s:=by
 obtain⟨c,tl,hmro⟩:=PySem.F.called_set.mro;have hmade:=PySem.F.called_set.made;have hsub:=PySem.F.called_set.sub;have h1:=PySem.F.called_set.notType;have h2:=PySem.F.called_set.canCreate;have hct:=PySem.F.typeCall_set_1 (.ref l);refine wpAny_call (codeAny_of_tree (wpAny_pure ⟨Code.quiet_builtin _ (by decide +kernel),codeAny_builtin PySem.F.entry_type_call ?_⟩));rw[Around.under_plain (weight_type_call_type "set" [.ref l] []) rfl]
 repeat (any_goals (first|assumption|wp_step))
 refine codeAny_mono (y1N (a:=.ref l) (E:=E) (Q₁:=fun obj s₁=>obj=.ref s.heap.objs.size/\s₁ = { s with heap:=s.heap.push { cls:=.type "set",dict:=none,data:=.set #[] 0 (.fresh 0 0 (qy w)) } }) ⟨rfl,rfl⟩) fun r s₁ hr=>?_
 match r,hr with
 | .error e,hr=>exact hr
 | .ok .next,hr=>exact hr.elim
 | .ok .brk,hr=>exact hr.elim
 | .ok .cont,hr=>exact hr.elim
 | .ok (.ret obj),hr=>
  obtain⟨rfl,rfl⟩:=hr;have hS:(s.heap.push { cls:=.type "set",dict:=none,data:=.set #[] 0 (.fresh 0 0 (qy w)) }).get? s.heap.objs.size=some { cls:=.type "set",dict:=none,data:=.set #[] 0 (.fresh 0 0 (qy w)) }:=Heap.get?_push_size _ rfl;have hT:Shared.TypeIs { s with heap:=s.heap.push { cls:=.type "set",dict:=none,data:=.set #[] 0 (.fresh 0 0 (qy w)) } } (.ref s.heap.objs.size) "set" :=⟨_,hS,rfl⟩
  have hli:=PySem.F.called_set.init.lookup;have hbi:=PySem.F.called_set.init.bind (.ref s.heap.objs.size)
  repeat (any_goals (first|assumption|wp_step))
  have hlt:l<s.heap.objs.size:=by obtain⟨ol,hol,_⟩:=hl;exact Heap.lt_size hol
  refine codeAny_mono (codeAny_call_builtin (R:=wants (fun r s₂=>r=.none/\∃h' tk,s₂ = { s with heap:=h',toks:=tk }/\SetG prog w h' s.heap.objs.size (fun k'=>(firstMet (fun i=>ns.getD i 0) items.size).any (· == k')) (firstMet (fun i=>ns.getD i 0) items.size).length/\
   (∀b o,s.heap.get? b=some o->h'.get? b=some o)) E) PySem.F.called_set.init.plain PySem.F.entry_set_init (check_set_init_1 hT ?_)) fun r₂ s₂ hr₂=>?_
  ·refine z9a (by simp [hh]) (hl.push _) hi hb (Nat.ne_of_lt hlt) hS fun h' tk hS' hk=>⟨rfl,h',tk,rfl,hS',fun b o e=>hk b o (Nat.ne_of_lt (Heap.lt_size e)) (Heap.get?_push_of_some _ e)⟩
  ·match r₂,hr₂ with
   | .error e,hr=>exact hr
   | .ok .next,hr=>exact hr.elim
   | .ok .brk,hr=>exact hr.elim
   | .ok .cont,hr=>exact hr.elim
   | .ok (.ret r),hr=>
    obtain⟨rfl,h',tk,rfl,hS',hk'⟩:=hr
    repeat (any_goals (first|assumption|wp_step))
    exact h _ _ hS' hk'
end
theorem zu:Slot "set_iterator" "__next__" "set_iterator.__next__" :=
 .of (owner:= "set_iterator") (n:= "__next__") (by rw[typeLookup_type,builtinLookup_eq_fast];kernel_rfl) (by decide +kernel) (by decide +kernel) (by decide +kernel) (by first|exact .inl (by decide +kernel)|exact .inr (by decide +kernel)) (by rw[isSubtype_type];kernel_rfl)
theorem wS:Slot "set_iterator" "__iter__" "set_iterator.__iter__" :=
 .of (owner:= "set_iterator") (n:= "__iter__") (by rw[typeLookup_type,builtinLookup_eq_fast];kernel_rfl) (by decide +kernel) (by decide +kernel) (by decide +kernel) (by first|exact .inl (by decide +kernel)|exact .inr (by decide +kernel)) (by rw[isSubtype_type];kernel_rfl)
theorem xK:entryFor table "set_iterator.__next__" = some Builtin.«set_iterator.__next__»:=entryFor_of_tree (by kernel_rfl)
theorem z1b:entryFor table "set_iterator.__iter__" = some Builtin.«dict_keyiterator.__iter__»:=entryFor_alias (id':= "dict_keyiterator.__iter__") (by kernel_rfl) rfl (by decide +kernel) (by kernel_rfl)
theorem z2z:entryFor table "set.__iter__" = some Builtin.«frozenset.__iter__»:=entryFor_alias (id':= "frozenset.__iter__") (by kernel_rfl) rfl (by decide +kernel) (by kernel_rfl)
theorem z6D:Manifest.owners.lookup (String.ofList ['r','o','t','a','r','e','t','i','_','t','e','s'].reverse)=some Manifest.sig_set_iterator:=by kernel_rfl
theorem x8 (a:Value):argsOk "set_iterator.__next__" ⟨[a],[]⟩:=by
 unfold argsOk;rw[signature?_of (id:= "set_iterator.__next__") (n:=['_','_','t','x','e','n','_','_']) (o:=['r','o','t','a','r','e','t','i','_','t','e','s']) (by kernel_rfl) z6D];kernel_rfl
theorem z3A (a:Value):argsOk "set_iterator.__iter__" ⟨[a],[]⟩:=by
 unfold argsOk;rw[signature?_of (id:= "set_iterator.__iter__") (n:=['_','_','r','e','t','i','_','_']) (o:=['r','o','t','a','r','e','t','i','_','t','e','s']) (by kernel_rfl) z6D];kernel_rfl
theorem wK {α:Type}:∀ {l:List α} {i:Nat} (h:i<l.length),List.Perm (l[i]::l.eraseIdx i) l
 | a::l,0,_=>.refl _
 | a::l,i+1,h=>by
  have ih:=wK (l:=l) (i:=i) (by simpa using h);simp only [List.getElem_cons_succ,List.eraseIdx_cons_succ];exact (List.Perm.swap _ _ _).trans (ih.cons a)
theorem z8l {α:Type} (nx:Nat->Nat):∀(f k:Nat) (left:List α) (out:Array α),left.length=f->List.Perm (pickOrder.go nx f k left out).toList (out.toList++left)
 | 0,k,left,out,h=>by
  have:left=[]:=List.eq_nil_of_length_eq_zero h;subst this;simp [pickOrder.go]
 | f+1,k,left,out,h=>by
  have hl:nx k%left.length<left.length:=Nat.mod_lt _ (by omega);unfold pickOrder.go;rw[List.getElem?_eq_getElem hl];dsimp only;refine (z8l nx f (k+1) _ _ (by rw[List.length_eraseIdx,if_pos hl];omega)).trans ?_;rw[Array.toList_push,List.append_assoc];refine List.Perm.append_left _ ?_;exact (wK hl)
theorem v4 {α:Type} (nx:Nat->Nat) (xs:Array α):List.Perm (pickOrder nx xs).toList xs.toList:=by
 have:=z8l nx xs.size 0 xs.toList #[] (by simp);simpa [pickOrder] using this
section
variable {prog:Program} {w:World} {A:Around} {E:Value->Shared->Prop}
theorem z3p {α:Type}:∀(n:Nat) (xs:List α) (s:Shared) {Q:List α->Shared->Prop},xs.length=n->(∀l d',List.Perm l xs->Q l { s with drawn:=d' })->wpAny (model prog w) A (drawOrder n xs) Q E s
 | 0,xs,s,Q,hl,h=>by
  have:xs=[]:=List.eq_nil_of_length_eq_zero hl;subst this;exact wpAny_pure (h [] s.drawn (.refl _))
 | n+1,[],s,Q,hl,h=>by simp at hl
 | n+1,x::xs,s,Q,hl,h=>by
  unfold drawOrder;refine wpAny_bind (m:=choose .order (x::xs).length) ?_;intro Γ p hΓ;refine⟨by simp,?_⟩;have hi:(model prog w).w.draws .order (s.drawn.get .order)%(x::xs).length<(x::xs).length:=Nat.mod_lt _ (by simp);generalize (model prog w).w.draws .order (s.drawn.get .order)%(x::xs).length=i at hi;show wpAny (model prog w) A _ _ _ _;rw[List.getElem?_eq_getElem hi];refine wpAny_bind (z3p n _ _ (by rw[List.length_eraseIdx,if_pos hi];omega) fun l d' hp=>?_);refine wpAny_pure (h _ d' ?_);exact (hp.cons _).trans (wK hi)
end
noncomputable def SetAt (h:Heap) (S:Addr) (es:Array (Int×Value)) (ep:Nat) (t:SetTable):Prop:=∃o,h.get? S=some o/\o.ExactSet/\o.data=.set es ep t
theorem SetAt.keep {h h':Heap} {S:Addr} {es:Array (Int×Value)} {ep:Nat} {t:SetTable} (x:SetAt h S es ep t) (k:∀o,h.get? S=some o->h'.get? S=some o):SetAt h' S es ep t:=let ⟨o,e,r⟩:=x;⟨o,k _ e,r⟩
noncomputable def SetIt (h:Heap) (I:Addr) (first:Value) (i:Nat) (S:Addr) (n ep:Nat):Prop:=∃o,h.get? I=some o/\o.cls=.type "set_iterator" /\o.data=.fields #[first,.int i 0,.ref S,.int n 0,.int ep 0]
theorem SetIt.keep {h h':Heap} {I:Addr} {first:Value} {i:Nat} {S:Addr} {n ep:Nat} (x:SetIt h I first i S n ep) (k:∀o,h.get? I=some o->h'.get? I=some o):SetIt h' I first i S n ep:=let ⟨o,e,r⟩:=x;⟨o,k _ e,r⟩
theorem SetIt.typeIs {s:Shared} {I:Addr} {first:Value} {i:Nat} {S:Addr} {n ep:Nat} (x:SetIt s.heap I first i S n ep):s.TypeIs (.ref I) "set_iterator" :=let ⟨o,e,c,_⟩:=x;⟨o,e,c⟩
section
variable {prog:Program} {w:World} {A:Around} {E:Value->Shared->Prop} {s:Shared} {I S:Addr} {i ep slot:Nat} {es:Array (Int×Value)} {t:SetTable}
theorem z4j {first:Value} {n:Nat} {Q:Value->Shared->Prop} (hit:SetIt s.heap I first i S n ep) (h:Q (.ref I) s):wpAny (model prog w) A (pyIter (.ref I)) Q E s:=by
 refine wpAny_pyIter_slot hit.typeIs wS (wpAny_call_entry wS hit.typeIs z1b ?_ (z3A _));show wpAny _ _ (ret (.ref I)) _ _ s;exact wpAny_pure ⟨_,rfl, "set_iterator",_,hit.typeIs,zu.lookup,h⟩
theorem z8Y {x:Value} {nx:Nat} {Q:Option Value->Shared->Prop} (hit:SetIt s.heap I (.int slot 0) i S es.size ep) (hs:SetAt s.heap S es ep t) (hf:t.fits es.size=true)
  (hx:∀(A:Around) (E:Value->Shared->Prop) (Q:Option (Value×Nat)->Shared->Prop),Q (some (x,nx)) s->wpAny (model prog w) A (setNext S slot i ep) Q E s)
  (hQ:∀h',SetIt h' I (.int nx 0) (i+1) S es.size ep->Heap.SameBut I s.heap h'->Q (some x) { s with heap:=h' }):wpAny (model prog w) A (pyNext (.ref I)) Q E s:=by
 obtain⟨o,ho,hc,hd⟩:=id hit;obtain⟨oS,hoS,hex,hdS⟩:=id hs;unfold pyNext;refine wpAny_bind (wpAny_attempt (wpAny_callSpecial?_slot (name:=Str.ofString "__next__") hit.typeIs zu (wpAny_call_entry zu hit.typeIs xK ?_ (x8 _))));unfold Builtin.«set_iterator.__next__»;refine wpAny_bind (wpAny_pure ?_);refine wpAny_bind (wpAny_fieldsOf ho hd ?_);dsimp only;unfold setEntries;refine wpAny_bind (wpAny_bind (wpAny_setState_of hoS hdS hf (wpAny_pure ?_)));rw[if_neg (by simp)];refine wpAny_bind (hx _ _ _ ?_);dsimp only;refine wpAny_bind (wpAny_setField ho hd (by simp) ?_);have ho2:=Heap.get?_update_self (Obj.mapFields (·.setIfInBounds 0 (rawInt nx))) ho (Obj.isFreed_of_fields (Obj.data_mapFields hd _));have hd2:=Obj.data_mapFields hd (·.setIfInBounds 0 (rawInt nx));refine wpAny_bind (wpAny_setField ho2 hd2 (by simp) ?_);have ho3:=Heap.get?_update_self (Obj.mapFields (·.setIfInBounds 1 (rawInt ((i:Int)+1)))) ho2 (Obj.isFreed_of_fields (Obj.data_mapFields hd2 _));have hd3:=Obj.data_mapFields hd2 (·.setIfInBounds 1 (rawInt ((i:Int)+1)));exact wpAny_pure ⟨_,rfl,wpAny_pure (hQ _ ⟨_,ho3,(Obj.cls_mapFields ..).trans ((Obj.cls_mapFields ..).trans hc),by rw[hd3];simp [rawInt]⟩ ((Heap.SameBut.update ..).trans (Heap.SameBut.update ..)))⟩
theorem y2N {Q:Option Value->Shared->Prop} (hh:A.handled=none) (hit:SetIt s.heap I (.int slot 0) i S es.size ep) (hs:SetAt s.heap S es ep t) (hf:t.fits es.size=true)
  (hx:∀(A:Around) (E:Value->Shared->Prop) (Q:Option (Value×Nat)->Shared->Prop),Q none s->wpAny (model prog w) A (setNext S slot i ep) Q E s)
  (hQ:∀h',Heap.ExtBut I s.heap h'->Q none { s with heap:=h' }):wpAny (model prog w) A (pyNext (.ref I)) Q E s:=by
 obtain⟨o,ho,hc,hd⟩:=id hit;obtain⟨oS,hoS,hex,hdS⟩:=id hs;unfold pyNext;refine wpAny_bind (wpAny_attempt (wpAny_callSpecial?_slot (name:=Str.ofString "__next__") hit.typeIs zu (wpAny_call_entry zu hit.typeIs xK ?_ (x8 _))));unfold Builtin.«set_iterator.__next__»;refine wpAny_bind (wpAny_pure ?_);refine wpAny_bind (wpAny_fieldsOf ho hd ?_);dsimp only;unfold setEntries;refine wpAny_bind (wpAny_bind (wpAny_setState_of hoS hdS hf (wpAny_pure ?_)));rw[if_neg (by simp)];refine wpAny_bind (hx _ _ _ ?_);dsimp only;refine wpAny_bind (wpAny_setField ho hd (by simp) ?_);refine wpAny_bind ?_;simp only [newExc,newTuple];refine wpAny_bind (wpAny_newObj_type ?_ (by size_fits));refine wpAny_bind (m:=firstArgMember _ _) (wpAny_of_eq (a:=Value.none) (by first|rfl|(simp only [firstArgMember];rfl)) ?_);refine wpAny_newObj_type ?_ (by size_fits);simp only [raiseNew];refine wpAny_bind (wpAny_handled ?_);rw[show A.in1.handled=none from hh];refine wpAny_bind (wpAny_pure (wpAny_throw ?_));refine wpAny_bind (wpAny_isInstance (T:= "StopIteration") (b:=true) ⟨_,Heap.get?_push_size _ rfl,rfl⟩ isSubtype_stop ?_);exact wpAny_pure (hQ _ (((Heap.SameBut.update ..).extBut.push _).push _))
end
noncomputable def PlT (h:Heap) (T:Addr) (ps:List Nat):Prop:=∃o n,h.get? T=some o/\o.data=.seq (ps.map fun (i:Nat)=>rawInt i).toArray n
theorem PlT.keep {h h':Heap} {T:Addr} {ps:List Nat} (x:PlT h T ps) (k:∀o,h.get? T=some o->h'.get? T=some o):PlT h' T ps:=let ⟨o,n,e,r⟩:=x;⟨o,n,k _ e,r⟩
section
variable {prog:Program} {w:World} {A:Around} {E:Value->Shared->Prop} {s:Shared} {I S T:Addr} {i ep:Nat} {es:Array (Int×Value)} {t:SetTable} {ps:List Nat}
theorem y0o {x:Value} {z:Int} {p:Nat} {Q:Option Value->Shared->Prop} (hit:SetIt s.heap I (.ref T) i S es.size ep) (hs:SetAt s.heap S es ep t) (hf:t.fits es.size=true) (hT:PlT s.heap T ps) (hp:ps[i]?=some p) (hx:es[p]?=some (z,x))
  (hQ:∀h',SetIt h' I (.ref T) (i+1) S es.size ep->Heap.SameBut I s.heap h'->Q (some x) { s with heap:=h' }):wpAny (model prog w) A (pyNext (.ref I)) Q E s:=by
 obtain⟨o,ho,hc,hd⟩:=id hit;obtain⟨oS,hoS,hex,hdS⟩:=id hs;obtain⟨oT,nT,hoT,hdT⟩:=id hT;unfold pyNext;refine wpAny_bind (wpAny_attempt (wpAny_callSpecial?_slot (name:=Str.ofString "__next__") hit.typeIs zu (wpAny_call_entry zu hit.typeIs xK ?_ (x8 _))));unfold Builtin.«set_iterator.__next__»;refine wpAny_bind (wpAny_pure ?_);refine wpAny_bind (wpAny_fieldsOf ho hd ?_);dsimp only;unfold setEntries;refine wpAny_bind (wpAny_bind (wpAny_setState_of hoS hdS hf (wpAny_pure ?_)));rw[if_neg (by simp)];refine wpAny_bind (wpAny_seqItems hoT hdT ?_);have hg:(ps.map fun (i:Nat)=>rawInt i).toArray[(i:Int).toNat]?=some (.int p 0):=by simp [hp,rawInt]
 dsimp only;rw[hg];dsimp only;unfold setNextDrawn;refine wpAny_bind (wpAny_bind (wpAny_setState_of hoS hdS hf ?_));dsimp only;rw[if_neg (by simp)];rw[show es[(p:Int).toNat]?=some (z,x) from hx];refine wpAny_pure ?_;refine wpAny_bind (wpAny_setField ho hd (by simp) ?_);have ho3:=Heap.get?_update_self (Obj.mapFields (·.setIfInBounds 1 (rawInt ((i:Int)+1)))) ho (Obj.isFreed_of_fields (Obj.data_mapFields hd _));have hd3:=Obj.data_mapFields hd (·.setIfInBounds 1 (rawInt ((i:Int)+1)));exact wpAny_pure ⟨_,rfl,wpAny_pure (hQ _ ⟨_,ho3,(Obj.cls_mapFields ..).trans hc,by rw[hd3];simp [rawInt]⟩ (Heap.SameBut.update ..))⟩
theorem y2w {Q:Option Value->Shared->Prop} (hh:A.handled=none) (hit:SetIt s.heap I (.ref T) i S es.size ep) (hs:SetAt s.heap S es ep t) (hf:t.fits es.size=true) (hT:PlT s.heap T ps) (hp:ps[i]?=none)
  (hQ:∀h',Heap.ExtBut I s.heap h'->Q none { s with heap:=h' }):wpAny (model prog w) A (pyNext (.ref I)) Q E s:=by
 obtain⟨o,ho,hc,hd⟩:=id hit;obtain⟨oS,hoS,hex,hdS⟩:=id hs;obtain⟨oT,nT,hoT,hdT⟩:=id hT;unfold pyNext;refine wpAny_bind (wpAny_attempt (wpAny_callSpecial?_slot (name:=Str.ofString "__next__") hit.typeIs zu (wpAny_call_entry zu hit.typeIs xK ?_ (x8 _))));unfold Builtin.«set_iterator.__next__»;refine wpAny_bind (wpAny_pure ?_);refine wpAny_bind (wpAny_fieldsOf ho hd ?_);dsimp only;unfold setEntries;refine wpAny_bind (wpAny_bind (wpAny_setState_of hoS hdS hf (wpAny_pure ?_)));rw[if_neg (by simp)];refine wpAny_bind (wpAny_seqItems hoT hdT ?_);have hg:(ps.map fun (i:Nat)=>rawInt i).toArray[(i:Int).toNat]?=none:=by
  have:=List.getElem?_eq_none_iff.mp hp;simp [this]
 dsimp only;rw[hg];dsimp only;refine wpAny_bind (wpAny_setField ho hd (by simp) ?_);have ho2:=Heap.get?_update_self (Obj.mapFields (·.setIfInBounds 0 (rawInt 0))) ho (Obj.isFreed_of_fields (Obj.data_mapFields hd _));have hd2:=Obj.data_mapFields hd (·.setIfInBounds 0 (rawInt 0));refine wpAny_bind (wpAny_setField ho2 hd2 (by simp) ?_);refine wpAny_bind ?_;simp only [newExc,newTuple];refine wpAny_bind (wpAny_newObj_type ?_ (by size_fits));refine wpAny_bind (m:=firstArgMember _ _) (wpAny_of_eq (a:=Value.none) (by first|rfl|(simp only [firstArgMember];rfl)) ?_);refine wpAny_newObj_type ?_ (by size_fits);simp only [raiseNew];refine wpAny_bind (wpAny_handled ?_);rw[show A.in1.handled=none from hh];refine wpAny_bind (wpAny_pure (wpAny_throw ?_));refine wpAny_bind (wpAny_isInstance (T:= "StopIteration") (b:=true) ⟨_,Heap.get?_push_size _ rfl,rfl⟩ isSubtype_stop ?_);exact wpAny_pure (hQ _ ((((Heap.SameBut.update ..).trans (Heap.SameBut.update ..)).extBut.push _).push _))
theorem z3S {Q:Option (Value×Nat)->Shared->Prop} (hbt:w.params.followText "set-order" = true) (hs:SetAt s.heap S es ep t) (hf:t.fits es.size=true)
  (h:Q (((pickOrder (w.params.setOrder S ep) es)[i]?).map fun e=>(e.2,0)) s):wpAny (model prog w) A (setNext S 0 i ep) Q E s:=by
 obtain⟨oS,hoS,hex,hdS⟩:=id hs;unfold setNext setsByText;refine wpAny_bind (wpAny_setState_of hoS hdS hf ?_);refine wpAny_bind (wpAny_bind (wpAny_askSetting (wpAny_pure ?_)));rw[if_pos (show (model prog w).w.params.followText "set-order" = true from hbt)];rw[if_neg (by simp)];unfold setWalk setsByText;refine wpAny_bind (wpAny_bind (wpAny_setState_of hoS hdS hf ?_));refine wpAny_bind (wpAny_bind (wpAny_askSetting (wpAny_pure ?_)));rw[if_pos (show (model prog w).w.params.followText "set-order" = true from hbt)];refine wpAny_bind (wpAny_askSetting ?_);exact wpAny_pure (wpAny_pure h)
theorem z0t {slot:Nat} {Q:Option (Value×Nat)->Shared->Prop} (hbt:w.params.followText "set-order" = false) (hs:SetAt s.heap S es ep t) (hf:t.fits es.size=true) (ht:qQ (qy w) t) (hp:t.plain=true∨es.size<=1)
  (h:Q (match es[SetTable.below t.place slot]?,t.place[SetTable.below t.place slot]? with|some (_,x),some j=>some (x,j+1)|_,_=>none) s):wpAny (model prog w) A (setNext S slot i ep) Q E s:=by
 obtain⟨oS,hoS,hex,hdS⟩:=id hs;have hl:t.led=true:=by rw[ht.1];unfold qy;rw[hbt];rfl
 unfold setNext setsByText;refine wpAny_bind (wpAny_setState_of hoS hdS hf ?_);refine wpAny_bind (wpAny_bind (wpAny_askSetting (wpAny_pure ?_)));rw[if_neg (show ¬(model prog w).w.params.followText "set-order" = true by rw[show (model prog w).w.params.followText "set-order" = false from hbt];decide)];refine wpAny_ite_split (fun hab=>?_) (fun _=>?_)
 ·have z:(!t.plain && decide (es.size > 1))=true:=hab;simp only [Bool.and_eq_true,Bool.not_eq_true',decide_eq_true_eq] at z;rcases hp with y|y
  ·rw[y] at z;exact absurd z.1 (by decide)
  ·exact absurd z.2 (by omega)
 refine wpAny_bind ?_;show wpAny _ _ (if (!t.led && !es.isEmpty)=true then _ else _) _ _ _;rw[if_neg (by rw[hl];simp)];exact wpAny_pure (wpAny_pure h)
end
section
variable {prog:Program} {w:World} {A:Around} {I S T:Addr} {ep:Nat} {es:Array (Int×Value)} {t:SetTable} {ps:List Nat}
theorem z7q (hh:A.handled=none) (hne:S≠I) (hbt:w.params.followText "set-order" = true) (hf:t.fits es.size=true) :
  Walks prog w A I [I,S] [I] es.size (fun i v=>∃z,(pickOrder (w.params.setOrder S ep) es).toList[i]?=some (z,v)) (fun i h=>SetIt h I (.int 0 0) i S es.size ep/\SetAt h S es ep t) where
 sub:=fun b hb=>by simp at hb;simp [hb]
 frame:=fun _ _ _ st hk=>⟨st.1.keep fun o e=>hk I (by simp) o e,st.2.keep fun o e=>hk S (by simp) o e⟩
 item:=fun i s Q E hi st hQ=>by
  have hl:(pickOrder (w.params.setOrder S ep) es).size=es.size:=by rw[←Array.length_toList,(v4 _ _).length_eq,Array.length_toList]
  obtain⟨⟨z,x⟩,hx⟩:∃p,(pickOrder (w.params.setOrder S ep) es)[i]?=some p:=⟨(pickOrder (w.params.setOrder S ep) es)[i]'(by omega),by simp [hl,hi]⟩
  refine z8Y (x:=x) (nx:=0) (slot:=0) st.1 st.2 hf (fun A E Q q=>z3S hbt st.2 hf (by rw[hx];exact q)) fun h' hit hsb=>?_;exact hQ x h' s.toks ⟨z,by rw[Array.getElem?_toList];exact hx⟩ ⟨hit,st.2.keep fun o e=>(hsb.2 S hne).trans e⟩ fun b o hb e=>(hsb.2 b fun z=>hb (by simp [z])).trans e
 done:=fun s Q E st hQ=>by
  have hl:(pickOrder (w.params.setOrder S ep) es).size=es.size:=by rw[←Array.length_toList,(v4 _ _).length_eq,Array.length_toList]
  refine y2N (slot:=0) hh st.1 st.2 hf (fun A E Q q=>z3S hbt st.2 hf (by rw[Array.getElem?_eq_none (by omega)];exact q)) fun h' he=>?_;exact hQ h' s.toks fun b o hb e=>he b o (fun z=>hb (by simp [z])) e
 self:=fun _ _ _ _ st hQ=>z4j st.1 hQ
noncomputable def z7B (t:SetTable) (i:Nat):Nat:=if i=0 then 0 else t.place.getD (i-1) 0+1
theorem vJ (h:Rises t.place.toList) {i:Nat} (hi:i<=t.place.size):SetTable.below t.place (z7B t i)=i:=by
 unfold z7B;split
 ·rename_i e
  rw[e];exact z7l h
 ·rename_i e
  have hk:i-1<t.place.size:=by omega
  have e1:t.place[i-1]?=some (t.place.getD (i-1) 0):=by simp [Array.getD,hk]
  rw[z7m h e1];omega
theorem z6r (hh:A.handled=none) (hne:S≠I) (hbt:w.params.followText "set-order" = false) (hf:t.fits es.size=true) (ht:qQ (qy w) t) (hp:t.plain=true∨es.size<=1) :
  Walks prog w A I [I,S] [I] es.size (fun i v=>∃z,es.toList[i]?=some (z,v)) (fun i h=>SetIt h I (.int (z7B t i) 0) i S es.size ep/\SetAt h S es ep t) where
 sub:=fun b hb=>by simp at hb;simp [hb]
 frame:=fun _ _ _ st hk=>⟨st.1.keep fun o e=>hk I (by simp) o e,st.2.keep fun o e=>hk S (by simp) o e⟩
 item:=fun i s Q E hi st hQ=>by
  have hz:t.place.size=es.size:=by
   simp only [SetTable.fits,Bool.and_eq_true,beq_iff_eq] at hf;exact hf.1
  have hr:Rises t.place.toList:=by
   rcases hp with y|y
   ·exact ht.2 y
   ·have:t.place.toList.length<=1:=by rw[Array.length_toList];omega
    unfold Rises
    match h:t.place.toList,this with
    | [],_=>exact .nil
    | [_],_=>exact List.pairwise_singleton _ _
  obtain⟨⟨z,x⟩,hx⟩:∃p,es[i]?=some p:=⟨es[i],by simp [hi]⟩
  have hj:t.place[i]?=some (t.place.getD i 0):=by simp [Array.getD,hz,hi]
  refine z8Y (x:=x) (nx:=z7B t (i+1)) (slot:=z7B t i) st.1 st.2 hf (fun A E Q q=>z0t hbt st.2 hf ht hp (by rw[vJ hr (by omega),hx,hj];exact q)) fun h' hit hsb=>?_;exact hQ x h' s.toks ⟨z,by rw[Array.getElem?_toList];exact hx⟩ ⟨hit,st.2.keep fun o e=>(hsb.2 S hne).trans e⟩ fun b o hb e=>(hsb.2 b fun z=>hb (by simp [z])).trans e
 done:=fun s Q E st hQ=>by
  have hz:t.place.size=es.size:=by
   simp only [SetTable.fits,Bool.and_eq_true,beq_iff_eq] at hf;exact hf.1
  have hr:Rises t.place.toList:=by
   rcases hp with y|y
   ·exact ht.2 y
   ·have:t.place.toList.length<=1:=by rw[Array.length_toList];omega
    unfold Rises
    match h:t.place.toList,this with
    | [],_=>exact .nil
    | [_],_=>exact List.pairwise_singleton _ _
  refine y2N (slot:=z7B t es.size) hh st.1 st.2 hf (fun A E Q q=>z0t hbt st.2 hf ht hp (by rw[vJ hr (by omega),Array.getElem?_eq_none (Nat.le_refl _)];exact q)) fun h' he=>?_;exact hQ h' s.toks fun b o hb e=>he b o (fun z=>hb (by simp [z])) e
 self:=fun _ _ _ _ st hQ=>z4j st.1 hQ
theorem y2Y {es:Array (Int×Value)}:∀ {ps:List Nat},(∀k∈ps,k<es.size)->ps.filterMap (fun k=>es[k]?)=ps.map fun k=>es.getD k (0,.none)
 | [],_=>rfl
 | k::ps,h=>by
  have hk:=h k (by simp);have ih:=y2Y (es:=es) (ps:=ps) fun x hx=>h x (by simp [hx]);rw[List.filterMap_cons,Array.getElem?_eq_getElem hk,ih,List.map_cons];simp [Array.getD,hk]
theorem z6s (hh:A.handled=none) (hne:S≠I) (hTI:T≠I) (hf:t.fits es.size=true) (hp:List.Perm ps (List.range es.size)) :
  Walks prog w A I [I,S,T] [I] es.size (fun i v=>∃z,(ps.filterMap fun k=>es[k]?)[i]?=some (z,v)) (fun i h=>SetIt h I (.ref T) i S es.size ep/\SetAt h S es ep t/\PlT h T ps) where
 sub:=fun b hb=>by simp at hb;simp [hb]
 frame:=fun _ _ _ st hk=>⟨st.1.keep fun o e=>hk I (by simp) o e,st.2.1.keep fun o e=>hk S (by simp) o e,st.2.2.keep fun o e=>hk T (by simp) o e⟩
 item:=fun i s Q E hi st hQ=>by
  have hl:ps.length=es.size:=by rw[hp.length_eq,List.length_range]
  have hps:ps[i]?=some (ps[i]'(by omega)):=List.getElem?_eq_getElem _;have hlt:ps[i]'(by omega)<es.size:=List.mem_range.mp (hp.mem_iff.mp (List.getElem_mem _));generalize ps[i]'(by omega)=p at hps hlt;obtain⟨⟨z,x⟩,hx⟩:∃q,es[p]?=some q:=⟨es[p],by simp [hlt]⟩
  have hfm:(ps.filterMap fun k=>es[k]?)[i]?=some (z,x):=by
   have e:=y2Y (es:=es) (ps:=ps) fun k hk=>List.mem_range.mp (hp.mem_iff.mp hk);rw[e,List.getElem?_map,hps];simp [Array.getD,hlt];have:=hx;rw[Array.getElem?_eq_getElem hlt] at this;exact Option.some.inj this
  refine y0o (x:=x) st.1 st.2.1 hf st.2.2 hps hx fun h' hit hsb=>?_;exact hQ x h' s.toks ⟨z,hfm⟩ ⟨hit,st.2.1.keep fun o e=>(hsb.2 S hne).trans e,st.2.2.keep fun o e=>(hsb.2 T hTI).trans e⟩ fun b o hb e=>(hsb.2 b fun z=>hb (by simp [z])).trans e
 done:=fun s Q E st hQ=>by
  have hl:ps.length=es.size:=by rw[hp.length_eq,List.length_range]
  refine y2w hh st.1 st.2.1 hf st.2.2 (List.getElem?_eq_none (by omega)) fun h' he=>?_;exact hQ h' s.toks fun b o hb e=>he b o (fun z=>hb (by simp [z])) e
 self:=fun _ _ _ _ st hQ=>z4j st.1 hQ
end
section
variable {prog:Program} {w:World} {A:Around} {E:Value->Shared->Prop} {s:Shared} {S:Addr} {ep:Nat} {es:Array (Int×Value)} {t:SetTable}
theorem y0q {Q:Value->Shared->Prop} (hh:A.handled=none) (hs:SetAt s.heap S es ep t) (hf:t.fits es.size=true) (ht:qQ (qy w) t) (hz:es.size<scanBound)
  (h:∀(I:Addr) (fp:List Addr) (order:List (Int×Value)) (St:Nat->Heap->Prop) (h':Heap) (d':Drawn),List.Perm order es.toList->Walks prog w A I fp [I] es.size (fun i v=>∃z,order[i]?=some (z,v)) St->St 0 h'->
   (∀b o,s.heap.get? b=some o->h'.get? b=some o)->(∀b∈fp,b=S∨s.heap.objs.size<=b)->s.heap.objs.size<=I->Q (.ref I) { s with heap:=h',drawn:=d' }):wpAny (model prog w) A (pyIter (.ref S)) Q E s:=by
 obtain⟨oS,hoS,hex,hdS⟩:=id hs;have hT:s.TypeIs (.ref S) "set" :=⟨_,hoS,hex.1⟩
 have hlt:S<s.heap.objs.size:=Heap.lt_size hoS;refine wpAny_pyIter_slot hT PySem.F.slot_set_iter (wpAny_call_entry PySem.F.slot_set_iter hT z2z ?_ (PySem.F.args_set_iter_1 _));unfold Builtin.«frozenset.__iter__» Builtin.Frozenset.slot0 Builtin.Frozenset.sizeOf setEntries setDrawn setsByText;refine wpAny_bind (wpAny_bind (wpAny_pure (wpAny_pure ?_)));refine wpAny_bind (wpAny_bind (wpAny_bind (wpAny_setState_of hoS hdS hf (wpAny_pure (wpAny_pure ?_)))));refine wpAny_bind (wpAny_bind (wpAny_setState_of hoS hdS hf ?_));refine wpAny_bind (wpAny_bind (wpAny_askSetting (wpAny_pure ?_)));refine wpAny_pure ?_;refine wpAny_ite_split (fun hab=>?_) (fun hab=>?_)
 ·refine wpAny_bind (z3p es.size (List.range es.size) s List.length_range fun ps d' hp=>?_);have hpl:ps.length=es.size:=by rw[hp.length_eq,List.length_range]
  refine wpAny_bind (wpAny_newObj_type ?_ (by show (ps.map _).toArray.size<=sizeLine;simp only [List.size_toArray,List.length_map,hpl];exact fits_of_scanBound hz));refine wpAny_bind (wpAny_setEpoch_of (Heap.get?_push_of_some _ hoS) hdS hf ?_);refine wpAny_bind (wpAny_newObj_type ?_ (by size_fits));refine wpAny_pure ⟨_,rfl, "set_iterator",_,⟨_,Heap.get?_push_size _ rfl,rfl⟩,zu.lookup,?_⟩;have sz1:s.heap.objs.size<(s.heap.push { cls:=.type "tuple",data:=.seq (ps.map fun (i:Nat)=>rawInt i).toArray }).objs.size:=by rw[Heap.size_push];exact Nat.lt_succ_self _
  refine h _ _ _ _ _ _ ?_ (z6s (T:=s.heap.objs.size) (ep:=ep) hh (Nat.ne_of_lt (Nat.lt_trans hlt sz1)) (Nat.ne_of_lt sz1) hf hp) ⟨⟨_,Heap.get?_push_size _ rfl,rfl,rfl⟩,⟨_,Heap.get?_push_of_some _ (Heap.get?_push_of_some _ hoS),hex,hdS⟩,⟨_,_,Heap.get?_push_of_some _ (Heap.get?_push_size _ rfl),rfl⟩⟩ (fun b o e=>Heap.get?_push_of_some _ (Heap.get?_push_of_some _ e)) (fun b hb=>?_) (Nat.le_of_lt sz1)
  ·exact (hp.filterMap _).trans (by rw[filterMap_getElem?_range])
  ·simp only [List.mem_cons,List.not_mem_nil,or_false] at hb;rcases hb with rfl|rfl|rfl
   ·exact .inr (Nat.le_of_lt sz1)
   ·exact .inl rfl
   ·exact .inr (Nat.le_refl _)
 ·have z:¬(!w.params.followText "set-order" && (!t.plain && decide (es.size > 1)))=true:=hab;refine wpAny_bind (wpAny_pure ?_);refine wpAny_bind (wpAny_setEpoch_of hoS hdS hf ?_);refine wpAny_bind (wpAny_newObj_type ?_ (by size_fits));refine wpAny_pure ⟨_,rfl, "set_iterator",_,⟨_,Heap.get?_push_size _ rfl,rfl⟩,zu.lookup,?_⟩;have fin:∀b∈[s.heap.objs.size,S],b=S∨s.heap.objs.size<=b:=fun b hb=>by
   simp only [List.mem_cons,List.not_mem_nil,or_false] at hb;rcases hb with rfl|rfl
   ·exact .inr (Nat.le_refl _)
   ·exact .inl rfl
  cases hbt:w.params.followText "set-order" with
  | true=>exact h _ _ _ _ _ s.drawn (v4 _ _) (z7q (ep:=ep) hh (Nat.ne_of_lt hlt) hbt hf) ⟨⟨_,Heap.get?_push_size _ rfl,rfl,rfl⟩,⟨_,Heap.get?_push_of_some _ hoS,hex,hdS⟩⟩ (fun b o e=>Heap.get?_push_of_some _ e) fin (Nat.le_refl _)
  | false=>
   rw[hbt] at z;have hp:t.plain=true∨es.size<=1:=by
    cases e:t.plain with
    | true=>exact .inl rfl
    | false=>
     rw[e] at z;simp at z;exact .inr z
   exact h _ _ _ _ _ s.drawn (.refl _) (z6r (ep:=ep) hh (Nat.ne_of_lt hlt) hbt hf ht hp) ⟨⟨_,Heap.get?_push_size _ rfl,rfl,rfl⟩,⟨_,Heap.get?_push_of_some _ hoS,hex,hdS⟩⟩ (fun b o e=>Heap.get?_push_of_some _ e) fin (Nat.le_refl _)
end
section
variable {prog:Program} {w:World} {A:Around} {E:Value->Shared->Prop} {s:Shared} {S:Addr} {ep:Nat} {es:Array (Int×Value)} {t:SetTable}
theorem y0r {r:Addr} {Q:Bool->Shared->Prop} (hT:s.TypeIs (.ref r) "set") (h:Q false s):wpAny (model prog w) A (Builtin.List.listLengthHint (.ref r)) Q E s:=by
 unfold Builtin.List.listLengthHint;refine wpAny_bind (wpAny_specialOf hT PySem.F.slot_set_len.lookup ?_);generalize hid:("set.__len__" : String)=id0
 wp_delta
 rw[show splitId id0=some ("set", "__len__") from by subst hid;decide +kernel];subst hid;refine wpAny_bind (wpAny_isInstance (T:= "set") (b:=true) hT sub_set_self ?_);refine wpAny_ite_split (fun hab=>absurd hab (by decide)) (fun _=>?_);refine wpAny_ite_split (fun _=>?_) (fun hab=>absurd (by decide +kernel) hab);exact wpAny_bind (wpAny_typeOf hT (wpAny_pure h))
noncomputable def y5e (es:Array (Int×Value)) (acc:Array Value):Prop:=∃order:List (Int×Value),List.Perm order es.toList/\acc.toList=order.map (·.2)
theorem y2m {order:List (Int×Value)} {acc:Array Value} (hp:List.Perm order es.toList) (h:ItemsOf (fun i v=>∃z,order[i]?=some (z,v)) acc es.size):y5e es acc:=by
 refine⟨order,hp,List.ext_getElem? fun i=>?_⟩;have hl:order.length=es.size:=by rw[hp.length_eq,Array.length_toList]
 rw[Array.getElem?_toList,List.getElem?_map];cases e:acc[i]? with
 | none=>
  have:acc.size<=i:=Array.getElem?_eq_none_iff.mp e;rw[List.getElem?_eq_none (by rw[hl,←h.1];exact this)];rfl
 | some v=>
  obtain⟨z,hz⟩:=h.2 i v e;rw[hz];rfl
theorem z7C {R:Result->Shared->Prop} (hh:A.handled=none) (hs:SetAt s.heap S es ep t) (hf:t.fits es.size=true) (ht:qQ (qy w) t) (hz:es.size<scanBound) (L:Addr) (hLS:L≠S) (res:Value) (c₀:Nat) (hL:s.heap.get? L=some { cls:=.type "list",data:=.seq #[] c₀ })
  (hR:∀h' d' tk acc' c',(∀b o,b≠L->s.heap.get? b=some o->h'.get? b=some o)->h'.get? L=some { cls:=.type "list",dict:=none,data:=.seq acc' c',slots:=#[] }->y5e es acc'->R (.ok (.ret res)) { s with heap:=h',drawn:=d',toks:=tk }) :
  wpAny (model prog w) A.in1 (Builtin.List.listExtendWith (.ref L) (.ref S) res) (fun fin s'=>match fin with | .done f=>R (.ok f) s' | .again c'=>c'.quiet=true/\codeAny (model prog w) A c' R s') (fun e s'=>R (.error e) s') s:=by
 obtain⟨oS,hoS,hex,hdS⟩:=id hs;have hT:s.TypeIs (.ref S) "set" :=⟨_,hoS,hex.1⟩
 have hlt:L<s.heap.objs.size:=Heap.lt_size hL;unfold Builtin.List.listExtendWith;refine wpAny_bind (wpAny_typeOf hT ?_);have h1:Builtin.List.listSameRef (.ref L) (.ref S)=false:=by simp [Builtin.List.listSameRef,hLS]
 have h2:(Value.type "set" == Value.type "list")=false:=by decide
 have h3:(Value.type "set" == Value.type "tuple")=false:=by decide
 simp only [h1,h2,h3,Bool.or_false,Bool.false_eq_true,if_false];refine wpAny_bind (y0q (A:=A.in1) hh hs hf ht hz fun I fp order St h1 d1 hp W st keep hfp hI=>?_);have hLf:L∉fp:=fun m=>by
  rcases hfp L m with z|z
  ·exact hLS z
  ·exact absurd hlt (Nat.not_lt.mpr z)
 have hL1:=keep _ _ hL;have hT1:Shared.TypeIs { s with heap:=h1,drawn:=d1 } (.ref S) "set" :=⟨_,keep _ _ hoS,hex.1⟩
 have key:∀(h:Heap) (c₁:Nat),St 0 h->(∀b o,b≠L->s.heap.get? b=some o->h.get? b=some o)->h.get? L=some { cls:=.type "list",data:=.seq #[] c₁ }->codeAny (model prog w) A (.builtin "list.extend.loop" ⟨[.ref L,.ref I,res],[]⟩) R { s with heap:=h,drawn:=d1 }:=by
  intro h c₁ hst hk hL₁;refine codeAny_extend_loopS W.toS (fits_of_scanBound hz) L hLf res es.size 0 _ #[] c₁ rfl (Nat.zero_le _) hst hL₁ (ItemsOf.nil _) fun s' acc' c' hm hL' hacc=>?_;rw[Moved.eq_with hm];refine hR s'.heap d1 s'.toks acc' c' (fun b o hb e=>hm.heap b o (fun z=>?_) (hk b o hb e)) hL' (y2m hp hacc);rcases List.mem_cons.mp z with z|z
  ·exact hb z
  ·have h9:=Heap.lt_size e;rw[List.mem_singleton.mp z] at h9;exact absurd h9 (Nat.not_lt.mpr hI)
 refine wpAny_bind (wpAny_holding (y0r hT1 ?_));refine wpAny_ite_split (fun _=>?_) (fun _=>wpAny_pure ⟨plainId_quiet PySem.F.plain_extend_loop _,key _ c₀ st (fun b o _ e=>keep b o e) hL1⟩);refine wpAny_bind (wpAny_rule (wpAny_bind ?_));show wpAny _ _ (updateSeq L (·.push .none) >>= fun _=>updateSeq L (·.pop)) _ _ _;refine wpAny_bind (wpAny_updateSeq hL1 rfl ?_);have hL₂:=Heap.get?_update_self (Obj.mapSeq (·.push Value.none)) hL1 rfl;refine wpAny_updateSeq (hz:=by seq_fits) hL₂ rfl ?_;have hL₃:=Heap.get?_update_self (Obj.mapSeq (·.pop)) hL₂ rfl;refine wpAny_pure ⟨plainId_quiet PySem.F.plain_extend_loop _,key _ _ ?_ (fun b o hb e=>?_) hL₃⟩
 ·refine W.frame 0 _ _ st fun b hb o e=>?_;have hbL:b≠L:=fun z=>hLf (z▸hb);exact (Heap.get?_update_other _ _ (Ne.symm hbL)).trans ((Heap.get?_update_other _ _ (Ne.symm hbL)).trans e)
 ·exact (Heap.get?_update_other _ _ (Ne.symm hb)).trans ((Heap.get?_update_other _ _ (Ne.symm hb)).trans (keep _ _ e))
theorem z4l {R:List Value->Shared->Prop} (hh:A.handled=none) (hs:SetAt s.heap S es ep t) (hf:t.fits es.size=true) (ht:qQ (qy w) t) (hz:es.size<scanBound)
  (h:∀(h':Heap) (d':Drawn) (tk:Nat) (acc:Array Value),(∀b o,s.heap.get? b=some o->h'.get? b=some o)->y5e es acc->R acc.toList { s with heap:=h',drawn:=d',toks:=tk }) :
  wpAny (model prog w) A (collect (.ref S)) R E s:=by
 obtain⟨oS,hoS,hex,hdS⟩:=id hs;have hlt:S<s.heap.objs.size:=Heap.lt_size hoS;unfold collect;refine wpAny_bind (wpAny_runValue (codeAny_builtin entry_proto_collect' ?_));rw[Around.under_plainId PySem.F.plain_proto_collect _];refine wpAny_bind (m:=newList []) (wpAny_newObj_type ?_);refine wpAny_pure ⟨plainId_quiet PySem.F.plain_list_iadd _,codeAny_builtin entry_list_iadd' ?_⟩;rw[Around.under_plainId PySem.F.plain_list_iadd _];have hL:(s.heap.push { cls:=.type "list",data:=.seq ([]:List Value).toArray }).get? s.heap.objs.size=some { cls:=.type "list",data:=.seq #[] }:=Heap.get?_push_size _ rfl;have key:=z7C (prog:=prog) (A:=A) (s:={ s with heap:=s.heap.push { cls:=.type "list",data:=.seq ([]:List Value).toArray } })
  (R:=fun (q:Result) (s':Shared)=>∃(h':Heap) (d':Drawn) (tk:Nat) (acc':Array Value) (c':Nat),q=.ok (.ret (.ref s.heap.objs.size))/\s' = { s with heap:=h',drawn:=d',toks:=tk }/\(∀b o,s.heap.get? b=some o->h'.get? b=some o)/\h'.get? s.heap.objs.size=some { cls:=.type "list",dict:=none,data:=.seq acc' c',slots:=#[] }/\y5e es acc')
  hh (hs.keep fun o e=>Heap.get?_push_of_some _ e) hf ht hz s.heap.objs.size (Nat.ne_of_gt hlt) (.ref s.heap.objs.size) 0 hL
  (fun h' d' tk acc' c' hk hS' hacc=>⟨h',d',tk,acc',c',rfl,rfl,fun b o e=>hk b o (Nat.ne_of_lt (Heap.lt_size e)) (Heap.get?_push_of_some _ e),hS',hacc⟩)
 show wpAny _ A.in1 (Builtin.List.listExtendWith (.ref s.heap.objs.size) (.ref S) (.ref s.heap.objs.size)) _ _ _;refine wpAny_mono key (fun fin s' x=>?_) fun e s' x=>?_
 ·cases fin with
  | done f=>
   obtain⟨h',d',tk,acc',c',e,rfl,hk,hS',hacc⟩:=x;cases e;exact wpAny_bind (wpAny_load hS' (wpAny_pure (h h' d' tk acc' hk hacc)))
  | again c₁=>
   refine⟨x.1,codeAny_mono x.2 fun q s₂ y=>?_⟩;obtain⟨h',d',tk,acc',c',rfl,rfl,hk,hS',hacc⟩:=y;exact wpAny_bind (wpAny_load hS' (wpAny_pure (h h' d' tk acc' hk hacc)))
 ·obtain⟨_,_,_,_,_,e',_⟩:=x;cases e'
end
open PySem.Calls
noncomputable def y4F (prog:Program) (w:World) (a:Addr) (S:Int->Bool) (n:Nat):HO:=.ext fun h=>SetG prog w h a S n
theorem wM:∀ {us:List Value} {ns:List Int},IntsAre us ns->Vals (ns.map V.int) us
 | _,_,.nil=>.nil
 | _,_,.cons n t h=>.cons ⟨t,rfl⟩ (wM h)
theorem z3b {prog:Program} {w:World}:∀ {l:List Value},(∀v∈l,∃k,(intKind prog w).is k v=true)->∃ns,IntsAre l ns/\∀k,k∈ns ↔ ∃v∈l,(intKind prog w).is k v=true
 | [],_=>⟨[],.nil,fun k=>by simp⟩
 | v::l,h=>by
  obtain⟨ns,h1,h2⟩:=z3b (l:=l) fun x hx=>h x (by simp [hx]);obtain⟨k,hk⟩:=h v (by simp);obtain⟨t,rfl⟩:=Value.isInt_shape (show Value.isInt k v=true from hk);refine⟨k::ns,.cons k t h1,fun j=>?_⟩;rw[List.mem_cons,h2 j];constructor
  ·rintro (rfl|⟨x,hx,e⟩)
   ·exact⟨_,.head _,hk⟩
   ·exact⟨x,.tail _ hx,e⟩
  ·rintro⟨x,hx,e⟩;rcases List.mem_cons.mp hx with rfl|hx
   ·exact .inl ((intKind prog w).inj _ _ _ e hk)
   ·exact .inr ⟨x,hx,e⟩
theorem Inv.dr {X:Cx} {pins:List (Addr×Obj)} {σ:St} {H:Hp} {s:Shared} {d':Drawn} (I:Inv X pins σ H s):Inv X pins σ H { s with drawn:=d' }:=⟨I.ok,I.os,I.bare,I.base,I.loc,I.cell,I.free,I.freeC,I.pin,I.hok,I.len⟩
section
variable {prog:Program} {w:World} {A:Around} {E:Value->Shared->Prop} {s:Shared}
theorem z3y {S:Addr} {f:Int->Bool} {n:Nat} {Q:Value->Shared->Prop} (hh:A.handled=none) (hS:SetG prog w s.heap S f n) (hn:n<64)
  (h:∀(h1 h':Heap) (d':Drawn) (tk:Nat) (out:Array Value) (ns:List Int) (c:Nat),(∀b o,s.heap.get? b=some o->h1.get? b=some o)->(∀b o,h1.get? b=some o->h'.get? b=some o)->h'.get? h1.objs.size=some { cls:=.type "list",data:=.seq out c }->IntsAre out.toList ns->ns.length=n->(∀k,f k=true ↔ k∈ns)->ns.Pairwise (·<=·)->
   Q (.ref h1.objs.size) { s with heap:=h',drawn:=d',toks:=tk }):wpAny (model prog w) A (call (.builtin "sorted") [.ref S]) Q E s:=by
 obtain⟨o,es,ep,t,ho,hex,hd,hel,hmem,hb,hf,rfl,ht⟩:=hS;refine call_function_entry kind_sorted plain_sorted entry_sorted (args_sorted1 _) ?_;unfold Builtin.«sorted»;refine wpAny_bind (m:=checkCount "sorted" 1 1 _) (wpAny_pure ?_);refine wpAny_bind (z4l (A:=A.in1) hh ⟨_,ho,hex,hd⟩ hf ht hb fun h1 d1 tk acc keep took=>?_);obtain⟨order,hp,ea⟩:=took;have hl:acc.toList.length=es.size:=by rw[ea,List.length_map,hp.length_eq,Array.length_toList]
 obtain⟨ns,hI,hns⟩:=z3b (prog:=prog) (w:=w) (l:=acc.toList) fun v hv=>by
  rw[ea] at hv;obtain⟨e,he,rfl⟩:=List.mem_map.mp hv;obtain⟨k,hk,_⟩:=(hel e (hp.mem_iff.mp he)).1;exact⟨k,hk⟩
 refine wpAny_bind (wpAny_newList ?_ (by rw[hl];exact fits_of_scanBound hb));have hD:(h1.push { cls:=.type "list",data:=.seq acc.toList.toArray }).get? h1.objs.size=some (seqObj "list" acc.toList.toArray 0):=Heap.get?_push_size _ rfl;refine wpAny_bind (wpAny_holding (wpAny_call_entry slot_list_sort ⟨_,hD,rfl⟩ entry_list_sort (list_sort_tree hD hI (by omega) fun out ns' hI' hpn hpw=>⟨.none,rfl,?_⟩) (args_list_sort _)));obtain⟨c,hc⟩:=sortedHeap_at (out:=out) hD;refine wpAny_pure ⟨_,rfl,h h1 _ d1 tk out ns' c keep (fun b o e1=>?_) hc hI' ?_ (fun k=>?_) hpw⟩
 ·rw[sortedHeap_old (Nat.ne_of_lt (Heap.lt_size e1)) (by rw[size_push'];exact Nat.lt_succ_of_lt (Heap.lt_size e1))];exact Heap.get?_push_of_some _ e1
 ·rw[hpn.length_eq,←hI.length,hl]
 ·rw[hpn.mem_iff,hns k,hmem k,ea];constructor
  ·rintro⟨e,he,q⟩;exact⟨e.2,List.mem_map.mpr ⟨e,hp.mem_iff.mpr he,rfl⟩,q⟩
  ·rintro⟨v,hv,q⟩;obtain⟨e,he,rfl⟩:=List.mem_map.mp hv;exact⟨e,hp.mem_iff.mp he,q⟩
end
section
variable {X:Cx}
theorem y0P (hc:X.calm=true):qS X (.type "set") (fun vs H Q=>∃(a:Addr) (ns:List Int),vs=[.ref a]/\SqL X.K H a (ns.map V.int)/\ns.length<=4000/\∀(D:Addr) (f:Int->Bool) (n:Nat),H D=none->n<=ns.length->(∀k,f k=true ↔ k∈ns)->Q (.ref D) (upd H D (y4F X.prog X.w D f n))):=by
 intro pins s σ H vs us Q I r h;obtain⟨a,ns,rfl,hq,hn,q⟩:=h;obtain⟨u,rfl,r1⟩:=Vals.one r;cases r1;obtain⟨its,rv,pl,hz⟩:=I.list hq;have hi:IntsAre its ns:=wE rv;have hl:its.length=ns.length:=hi.length;refine y0Q (items:=its.toArray) (ns:=ns) (I.ok.hd hc) pl.isList hi (by rw[List.size_toArray,hl];show _<4096;omega) fun h' tk hS keep=>?_;have hsz:its.toArray.size=ns.length:=by rw[List.size_toArray,hl]
 rw[hsz] at hS;refine⟨.ref s.heap.objs.size,upd H s.heap.objs.size (y4F X.prog X.w s.heap.objs.size (fun k'=>(firstMet (fun i=>ns.getD i 0) ns.length).any (· == k')) (firstMet (fun i=>ns.getD i 0) ns.length).length),I.laid (t':=tk) keep (Nat.le_refl _) ?_,rfl,q _ _ _ I.fresh (firstMet_length_le _ _) fun k=>?_⟩
 ·obtain⟨o,es,ep,t,ho,r⟩:=id hS;exact⟨hS,⟨_,ho⟩,fun h1 h2 x k=>x.keep k⟩
 ·rw[firstMet_any,List.any_eq_true];constructor
  ·rintro⟨x,hx,e⟩;obtain⟨i,hi',rfl⟩:=List.mem_map.mp hx;have hlt:=List.mem_range.mp hi';have e2:ns.getD i 0=k:=by simpa using e
   rw[←e2];simp [List.getD,hlt]
  ·intro hk;obtain⟨i,hi',e⟩:=List.mem_iff_getElem.mp hk;exact⟨ns.getD i 0,List.mem_map.mpr ⟨i,List.mem_range.mpr hi',rfl⟩,by simp [List.getD,hi',e]⟩
theorem z3x (hc:X.calm=true):qS X (.builtin "sorted") (fun vs H Q=>∃(S:Addr) (f:Int->Bool) (n:Nat),vs=[.ref S]/\H S=some (y4F X.prog X.w S f n)/\n<64/\∀(D:Addr) (ns:List Int),H D=none->ns.length=n->(∀k,f k=true ↔ k∈ns)->ns.Pairwise (·<=·)->Q (.ref D) (upd H D (.lst (ns.map V.int)))):=by
 intro pins s σ H vs us Q I r h;obtain⟨S,f,n,rfl,hS,hn,q⟩:=h;obtain⟨u,rfl,r1⟩:=Vals.one r;cases r1;have hG:SetG X.prog X.w s.heap S f n:=(I.hok S _ hS).1;refine z3y (I.ok.hd hc) hG hn fun h1 h' d' tk out ns c k1 k2 hD hI hl hm hp=>?_;have I1:Inv X pins σ H { s with heap:=h1,toks:=tk }:=I.kept k1;have I2:Inv X pins σ (upd H h1.objs.size (.lst (ns.map V.int))) { s with heap:=h',toks:=tk }:=I1.laid (h':=h') (t':=tk) k2 (Nat.le_refl _) ⟨by rw[List.length_map,sizeLine_eq];omega,out.toList,c,wM hI,by rw[Array.toArray_toList];exact hD⟩;exact⟨.ref _,_,I2.dr,rfl,q _ ns I1.fresh hl hm hp⟩
end
noncomputable def y3t (X:Cx) (N:List Str) (scope:Scope) (cl:List (Str×Addr)) (s:Shared) (H:Hp) (fp:List Addr) (E:XK):Cx:=
 (xG X N scope cl s H fp).wish fun e s'=>∃pins σ H1 s1,Inv (xG X N scope cl s H fp) pins σ H1 s1/\CXx X.prog X.w X.stack H1 s1 E e s'
theorem z0C {X:Cx} {N:List Str} {scope:Scope} {cl:List (Str×Addr)} {s:Shared} {H:Hp} {fp:List Addr} {E:XK}:(y3t X N scope cl s H fp E).K=X.K:=rfl
section
variable {X:Cx} {pins:List (Addr×Obj)} {σ:St} {H:Hp} {s:Shared}
end
section
variable {prog:Program} {w:World} {A:Around} {E:Value->Shared->Prop} {s:Shared}
end
section
variable {prog:Program} {w:World} {A:Around} {E:Value->Shared->Prop} {s:Shared}
end
noncomputable def y6x (n:Nat) (ok:Hp->Prop) (f:Nat->Hp->V->V->V->Prop):It:=
 ⟨fun i H=>i<n/\ok H,fun i H x H'=>∃T u v t,H T=none/\x=.ref T/\H'=upd H T (.tup [u,v,t])/\f i H u v t,fun i H=>i=n/\ok H⟩
noncomputable def y6q (K:PySem.W.Frag) (a b c:Addr) (n:Nat) (H:Hp):Prop:=∃xs ys zs,SqL K H a xs/\SqL K H b ys/\SqL K H c zs/\min (min xs.length ys.length) zs.length=n
noncomputable def y6b (K:PySem.W.Frag) (a b c:Addr) (n:Nat):It:=y6x n (y6q K a b c n) fun i H u v t=>(∀xs,SqL K H a xs->xs[i]?=some u)/\(∀ys,SqL K H b ys->ys[i]?=some v)/\∀zs,SqL K H c zs->zs[i]?=some t
noncomputable def y5q (K:PySem.W.Frag) (ta tb tc:TE):TI:=fun σ H R=>ta σ H fun x H1=>tb σ H1 fun y H2=>tc σ H2 fun z H3=>∃a b c xs ys zs,x=.ref a/\y=.ref b/\z=.ref c/\SqL K H3 a xs/\SqL K H3 b ys/\SqL K H3 c zs/\R (y6b K a b c (min (min xs.length ys.length) zs.length)) H3
section
variable {X:Cx} {es:List Expr} {k:Nat} {tpos:Pos}
end
theorem z1w {K:PySem.W.Frag} {ta tb tc:TE} {σ:St} {H:Hp} {R:It->Hp->Prop}:y5q K ta tb tc σ H R=ta σ H fun x H1=>tb σ H1 fun y H2=>tc σ H2 fun z H3=>∃a b c xs ys zs,x=.ref a/\y=.ref b/\z=.ref c/\SqL K H3 a xs/\SqL K H3 b ys/\SqL K H3 c zs/\R (y6b K a b c (min (min xs.length ys.length) zs.length)) H3:=rfl
section
variable {X:Cx}
end
section
variable {X:Cx}
end
open PySem.W
open SM
theorem z3a {v:Value} {o:Option Int} (h:IsPart v o):∃l:Option (Int×Tok),v=partValue l/\l.map (·.1)=o:=by
 cases h with
 | none=>exact⟨none,rfl,rfl⟩
 | int i t=>exact⟨some (i,t),rfl,rfl⟩
noncomputable def y6k:V->Option Int->Option Int->Hp->VK->Prop:=fun x lo hi H Q=>∃z,x=.str z/\z.length<=sizeLine/\Q (.str (Txt.slice z lo hi)) H
section
variable {X:Cx}
theorem z6C:SlR X y6k:=by
 intro pins s σ H x v vl vu lo hi sl Q I rx hs pl pu h;obtain⟨z,rfl,hz,q⟩:=h;obtain⟨t,rfl⟩:=rx;obtain⟨l,rfl,rfl⟩:=z3a pl;obtain⟨u,rfl,rfl⟩:=z3a pu;refine⟨"str",_,F.slot_str_getitem.lookup,typeIs_str _ _ _,wpAny_getItem_str_slice (l:=l) (u:=u) (st:=none) hs rfl ?_⟩;exact post_val_or_str ⟨Nat.le_trans (Txt.slice_le z _ _) hz,fun t' k=>⟨.str _,H,I.tok _,⟨_,rfl⟩,q⟩⟩
end
theorem y1r {σ:St} {H:Hp} {D:Ends} {z:Str} {g:TG} {tb:TS} (Pv:Nat->St->Hp->Prop) (h0:Pv 0 σ H)
  (hs:∀i c σ H,z.cps[i]?=some c->Pv i σ H->g (.str ⟨#[c]⟩) σ H fun σ2 H2=>tb { D with nx:=Pv (i+1),ct:=Pv (i+1),bk:=D.nx } σ2 H2) (hd:∀σ H,Pv z.cps.size σ H->D.nx σ H):y2j (Itc z) g tb D σ H:=by
 refine⟨fun i m σ H=>m=z.cps.size-i/\i<=z.cps.size/\Pv i σ H,⟨_,rfl,Nat.zero_le _,h0⟩,?_⟩;rintro i m σ1 H1 ⟨rfl,hi,p⟩;by_cases hlt:i<z.cps.size
 ·refine .inr ⟨hlt,Pv (i+1),fun σ' H' p'=>⟨z.cps.size-(i+1),by omega,rfl,hlt,p'⟩,fun x H' y=>?_⟩;obtain⟨e,c,ec,ex⟩:=y;subst e ex;exact hs i c σ1 _ ec p
 ·have e:i=z.cps.size:=by omega
  subst e;exact .inl ⟨Nat.le_refl _,hd _ _ p⟩
theorem y0W {z:Str}:Asc z ↔ ∀c∈z.cps.toList,c<128:=by
 unfold Asc;rw[Array.all_eq_true_iff_forall_mem];exact⟨fun h c hc=>of_decide_eq_true (h c (Array.mem_toList_iff.mp hc)),fun h c hc=>decide_eq_true (h c (Array.mem_toList_iff.mpr hc))⟩
theorem y5T {l:List Nat}:Asc (tx l) ↔ ∀c∈l,c<128:=by
 rw[y0W];simp [tx]
theorem y2t (y z:Str):(y++z).cps.toList=y.cps.toList++z.cps.toList:=by
 show (y.cps++z.cps).toList=_;simp
theorem z0G (bs:List Bool):(List.range bs.length).all (fun i=>bs.getD i false)=bs.all id:=by
 rw[Bool.eq_iff_iff,List.all_eq_true,List.all_eq_true];constructor
 ·intro h b hb;obtain⟨i,hi,e⟩:=List.getElem_of_mem hb;have:=h i (List.mem_range.mpr hi);rw[List.getD_eq_getElem?_getD,List.getElem?_eq_getElem hi,e] at this;exact this
 ·intro h i hi;have hi:=List.mem_range.mp hi;rw[List.getD_eq_getElem?_getD,List.getElem?_eq_getElem hi];exact h _ (List.getElem_mem hi)
theorem z0F {X:Cx} (hc:X.calm=true):qS X (.builtin "all") (fun vs H Q=>∃(a:Addr) (bs:List Bool),vs=[.ref a]/\SqL X.K H a (bs.map V.bl)/\Q (.bl (bs.all id)) H):=by
 intro pins s σ H xs us Q I r h;obtain⟨a,bs,rfl,hq,q⟩:=h;obtain⟨u,rfl,r1⟩:=Vals.one r;cases r1;obtain⟨its,rv,pl,hz⟩:=I.list hq;have hl:=pl.isList;have la:a<s.heap.objs.size:=by obtain⟨o,e,_⟩:=hl;exact Heap.lt_size e
 have ne:a≠s.heap.objs.size:=Nat.ne_of_lt la;refine call_all_walkS (wpAny_pyIter_list hl ?_);have WS:=(Walks.list (prog:=X.prog) (w:=X.w) (A:=X.A.in1) (I.ok.hd hc) s.heap.objs.size a ne its.toArray).toS;refine⟨_,_,_,_,_,_,_,fun i=>bs.getD i false,rfl,WS,⟨⟨_,Heap.get?_push_size _ rfl,rfl,rfl⟩,hl.push _⟩,fun i v s' Q' E' hv hq'=>?_,fun s' mv=>?_⟩
 ·have hv':its[i]?=some v:=by simpa using hv
  have hi:i<(bs.map V.bl).length:=by rw[rv.length];exact (List.getElem?_eq_some_iff.mp hv').1
  obtain⟨u,e1,r2⟩:=rv.get (List.getElem?_eq_getElem hi);rw[hv'] at e1;cases e1;rw[List.length_map] at hi;rw[List.getElem_map] at r2;cases r2;have hq2:Q' (bs.getD i false) s':=hq';rw[List.getD_eq_getElem?_getD,List.getElem?_eq_getElem hi] at hq2;exact wpAny_truthy_bool hq2
 ·have e:(List.range its.toArray.size).all (fun i=>bs.getD i false)=bs.all id:=by
   have:its.toArray.size=bs.length:=by
    have:=rv.length;rw[List.length_map] at this;simp [this]
   rw[this];exact z0G bs
  rw[e,Moved.eq_with mv];refine⟨.bl (bs.all id),H,I.kept fun b o e=>mv.heap b o (fun z=>?_) (Heap.get?_push_of_some _ e),rfl,q⟩;exact absurd (Heap.lt_size e) (by rw[List.mem_singleton.mp z];exact Nat.lt_irrefl _)
noncomputable def TM (K:PySem.W.Frag) (C:Addr) (x qual:Str) (st:Stmt):Prop:=∃f fd,Fun K x qual st f fd/\Meth K C x f
theorem z1D {K:PySem.W.Frag} {C:Addr} {x qual:Str} {st:Stmt} {f:Addr} {oc:Value} {od an:Option Addr} {osl:Array (Option Value)} {kV doc pm cdv ct:Value}
  (a:PySem.W.findIn K (.ref C) x=some (some (.ref f))) (i:PySem.W.isFn K (.ref f)=true) (l:K.lookup f=some ⟨oc,od,.func (PySem.W.fnOf x qual (jX st) (yo st) (zG st) .none kV doc pm an cdv ct),osl⟩) (c:PySem.W.codeIn K cdv qual=true) (k:PySem.W.keepIn K (.ref f)=true):TM K C x qual st:=
 ⟨f,_,y2X l c k,a,i,k⟩
noncomputable def HasM (P:Program) (w:World) (K:PySem.W.Frag) (mg:Str->Option Value) (base:Heap) (k:Nat) (C:Addr) (x:Str) (ps:List Str) (sp:Sp):Prop:=
 ∃f fd,FnOk P w K mg base CX0 k f fd ps sp/\(∀us:List Value,us.length=ps.length->bindArgs fd ⟨us,[]⟩=pure (ps.zip us))/\Meth K C x f
theorem HasM.mono {P:Program} {w:World} {K:PySem.W.Frag} {mg:Str->Option Value} {base:Heap} {j k:Nat} {C:Addr} {x:Str} {ps:List Str} {sp:Sp} (h:HasM P w K mg base j C x ps sp) (hk:j<=k):HasM P w K mg base k C x ps sp:=
 let ⟨f,fd,F,b⟩:=h
 ⟨f,fd,F.mono hk,b⟩
theorem TM.has {P:Program} {w:World} {K:PySem.W.Frag} {mg:Str->Option Value} {base:Heap} {C:Addr} {x qual:Str} {st:Stmt} {N ps:List Str} {k:Nat} {sp:Sp} (T:TM K C x qual st) (S:FnScope N ps (zG st))
  (hb:∀(kV doc pm:Value) (an:Option Addr) (cdv ct:Value) (us:List Value),us.length=ps.length->bindArgs (PySem.W.fnOf x qual (jX st) (yo st) (zG st) .none kV doc pm an cdv ct) ⟨us,[]⟩=pure (ps.zip us))
  (len:∀vs H Q E,sp vs H Q E->vs.length=ps.length)
  (hbody:∀(f:Addr) (cdv:Value) (A:Around) (outer:List Env) (s:Shared) (H:Hp) (vs:List V) (Q:VK) (E:XK),Room k (A.deeper (envOfC qual (zG st) s.heap.objs.size f cdv))->sp vs H Q E->
   ∃t,PSs (z0J CX0 P w K mg base N qual (zG st) f cdv A outer s H E).nox (yo st) t/\t { nx:=fun _ H'=>Q .non H',rt:=Q } (qc N vs) H):HasM P w K mg base (k+1) C x ps sp:=by
 obtain⟨f,fd,F,m⟩:=T;have ok:=F.ok (P:=P) (w:=w) (mg:=mg) (base:=base) S len fun cdv A outer s H vs Q E hr hsp=>hbody f cdv A outer s H vs Q E hr hsp;obtain⟨oc,od,kV,doc,pm,an,cdv,ct,osl,rfl,lk,hcd⟩:=F.ex;exact⟨f,_,ok,hb kV doc pm an cdv ct,m⟩
section
variable {X:Cx} {k:Nat} {C:Addr} {ps:List Str} {sp:Sp} {x m:Str} {p pos apos:Pos} {e o:Expr} {es:List Expr} {ta:TE} {t:TA}
theorem xJ {pl:Sem Bool} (he:PE X o ta) (c:Cls X.K C) (h:HasM X.prog X.w X.K X.mg X.base k C m ps sp) (hr:Room k X.A) (ha:PA X (e::es) t)
  (hst:starEach (e::es) X.env=(false,eval e X.env)::starEach es X.env:=by rfl) (hpl:(backTo pos (starEach es X.env)).any (·.1)=false:=by rfl)
  (ht:eval (.Call (.Attribute o m apos) (e::es) [] pos) X.env=(do
   let ov ←eval o X.env
   standAt apos.atName
   let (f,first) ←holding [ov] (getMethod ov m pl)
   callWith pos f first (backTo pos (starEach (e::es) X.env)) (backToKw pos (keywordEach [] X.env))):=by rfl) :
  PE X (.Call (.Attribute o m apos) (e::es) [] pos) (z6y C m sp [] E0 ta t):=by
 obtain⟨f,fd,F,hb,hm⟩:=h;exact z8r he c hm F hr (.all hb) .nil z8u ha hst hpl ht
theorem z8q {pl:Sem Bool} (he:PE X o ta) (c:Cls X.K C) (h:HasM X.prog X.w X.K X.mg X.base k C m ps sp) (hr:Room k X.A)
  (ht:eval (.Call (.Attribute o m apos) [] [] pos) X.env=(do
   let ov ←eval o X.env
   standAt apos.atName
   let (f,first) ←holding [ov] (getMethod ov m pl)
   callWith pos f first (backTo pos (starEach [] X.env)) (backToKw pos (keywordEach [] X.env))):=by rfl) :
  PE X (.Call (.Attribute o m apos) [] [] pos) (z6y C m sp [] E0 ta y0j):=by
 obtain⟨f,fd,F,hb,hm⟩:=h;exact y1C he c hm F hr (.all hb) .nil z8u ht
theorem y5p (h:HasM X.prog X.w X.K X.mg X.base k C "__init__" ps sp) (mk:PySem.W.makesIn X.K C=true) (kc:PySem.W.keepIn X.K (.ref C)=true) (hr:Room (k+1) X.A) (hg:Gl X x) (hm:X.mg x=some (.ref C))
  (ha:PA X (e::es) t) (hdb:(x == ("__debug__" : Str))=false:=by decide) (he:starEach (e::es) X.env=(false,eval e X.env)::starEach es X.env:=by rfl) (hpl:(backTo pos (starEach es X.env)).any (·.1)=false:=by rfl) :
  PE X (.Call (.Name x p) (e::es) [] pos) (z8F C sp [] E0 t):=by
 obtain⟨f,fd,F,hb,hM⟩:=h;exact y3Q ⟨mk,hM.at_,hM.fn,kc⟩ F hr hg hm (.all hb) .nil z8u ha hdb he hpl
end
noncomputable def y6M (te:TE):TE:=fun σ H Q=>te σ H fun x H1=>(∃i,x=.int i/\i.natAbs.log2<1920/\Q (.str (toString i)) H1)∨∃z,x=.str z/\z.length<=sizeLine/\Q (.str z) H1
noncomputable abbrev TJ:=Str->TE
noncomputable def y6V:TJ:=fun acc _ H Q=>acc.length<=sizeLine/\Q (.str acc) H
noncomputable def y5B (te:TE) (tj:TJ):TJ:=fun acc σ H Q=>te σ H fun x H1=>∃z,x=.str z/\(acc++z).length<=sizeLine/\tj (acc++z) σ H1 Q
noncomputable def y4S (tj:TJ):TE:=fun σ H Q=>tj Str.empty σ H Q
section
variable {σ:St} {H:Hp} {Q:VK} {te:TE} {tj:TJ} {acc:Str}
theorem z4a:y6M te σ H Q=te σ H fun x H1=>(∃i,x=.int i/\i.natAbs.log2<1920/\Q (.str (toString i)) H1)∨∃z,x=.str z/\z.length<=sizeLine/\Q (.str z) H1:=rfl
theorem z5C:y6V acc σ H Q=(acc.length<=sizeLine/\Q (.str acc) H):=rfl
theorem z1t:y5B te tj acc σ H Q=te σ H fun x H1=>∃z,x=.str z/\(acc++z).length<=sizeLine/\tj (acc++z) σ H1 Q:=rfl
theorem z1O:y4S tj σ H Q=tj Str.empty σ H Q:=rfl
end
section
variable {X:Cx} {e a b:Expr} {es:List Expr} {te:TE} {tj:TJ} {pos:Pos}
noncomputable def PJ (X:Cx) (es:List Expr) (tj:TJ):Prop:=∀(pins:List (Addr×Obj)) (s:Shared) (σ:St) (H:Hp) (acc:Str) (Q:VK),Inv X pins σ H s->tj acc σ H Q->wpAny (model X.prog X.w) X.A (joinParts acc (evalEach es X.env)) (EP X pins σ Q) X.xe s
theorem z6N:PJ X [] y6V:=by
 intro pins s σ H acc Q I h;exact joinParts_nil ⟨.str acc,H,I.tok _,⟨_,rfl⟩,h.2⟩ h.1
theorem yu (he:PE X e te) (hj:PJ X es tj):PJ X (e::es) (y5B te tj):=by
 intro pins s σ H acc Q I h;refine joinParts_cons (thn (he pins s σ H _ I h) fun v s1 ⟨x,H1,I1,r1,q1⟩=>?_);obtain⟨z,rfl,hz,q⟩:=q1;obtain⟨t,rfl⟩:=r1;exact⟨hz,hj pins s1 σ H1 _ Q I1 q⟩
theorem z1l (hj:PJ X (a::b::es) tj):PE X (.JoinedStr (a::b::es) pos) (y4S tj):=by
 intro pins s σ H Q I h;exact JoinedStr_many (hj pins s σ H _ Q I h)
theorem z0r (he:PE X e te):PE X (.FormattedValue e (-1) none pos) (y6M te):=by
 intro pins s σ H Q I h;refine FormattedValue_plain (thn (he pins s σ H _ I h) fun v s1 ⟨x,H1,I1,r1,q1⟩=>?_);rcases q1 with⟨i,rfl,hi,q⟩|⟨z,rfl,hz,q⟩
 ·obtain⟨t,rfl⟩:=r1;exact formatField_int_small hi ⟨.str _,H1,I1.tok _,⟨_,rfl⟩,q⟩
 ·obtain⟨t,rfl⟩:=r1;exact formatField_str (fun t' tk=>⟨.str _,H1,I1.tok _,⟨_,rfl⟩,q⟩) hz
theorem z7O:MtR X "str.startswith" (fun x vs H Q=>∃(z y:Str) (i:Int),x=.str z/\vs=[.str y,.int i]/\Q (.bl (decide (PySem.fromIndex z.length i+y.length<=z.length) && Builtin.Str.subAt z y (PySem.fromIndex z.length i))) H):=by
 intro pins s σ H x vs v us Q I rx rs h;obtain⟨z,y,i,rfl,rfl,q⟩:=h;obtain⟨t,rfl⟩:=rx;obtain⟨u,w,rfl,r1,r2⟩:=Vals.two rs;obtain⟨t1,rfl⟩:=r1;obtain⟨t2,rfl⟩:=r2;exact call_gives PySem.F.slot_str_startswith (typeIs_str _ _ _) PySem.F.entry_str_startswith (PySem.F.args_str_startswith_3 _ _ _) (gives_str_startswith_from z y i t t1 t2) ⟨.bl _,H,I.tok _,rfl,q⟩
end
section
variable {K:PySem.W.Frag} {σ:St} {H:Hp} {Q:VK} {D:Ends} {ta tv:TE} {t:TA} {f m:Str} {C:Addr} {sp:Sp} {dvs:List V} {E:XK} {rd:V->V->Hp->VK->Prop}
theorem z4b:y6N K ta f σ H Q=ta σ H fun x H1=>∃a C dx fs v,x=.ref a/\H1 a=some (.ins C dx fs)/\Cls K C/\NoAttr K C f/\fs.lookup f=some v/\Q v H1:=rfl
theorem z4s:y6R K ta tv f D σ H=tv σ H fun y H1=>ta σ H1 fun x H2=>∃a C dx fs,x=.ref a/\H2 a=some (.ins C dx fs)/\Cls K C/\NoAttr K C f/\fs.length<1000/\D.nx σ (upd H2 a (.ins C dx (w8 f y fs))):=rfl
theorem kx:z8c K ta tv rd f D σ H=ta σ H fun x H1=>∃a C dx fs v,x=.ref a/\H1 a=some (.ins C dx fs)/\Cls K C/\NoAttr K C f/\fs.lookup f=some v/\tv σ H1 fun y H2=>rd v y H2 fun z H3=>∃dx' fs',H3 a=some (.ins C dx' fs')/\fs'.length<1000/\D.nx σ (upd H3 a (.ins C dx' (w8 f z fs'))):=rfl
theorem z1L:z6y C m sp dvs E ta t σ H Q=ta σ H fun x H1=>∃a dx fs,x=.ref a/\H1 a=some (.ins C dx fs)/\fs.lookup m=none/\t σ H1 fun vs H2=>sp (x::(vs++dvs)) H2 Q E:=rfl
theorem z1N:z8F C sp dvs E t σ H Q=t σ H fun vs H1=>∀x dx,H1 x=none->H1 dx=none->dx≠x->sp (.ref x::(vs++dvs)) (upd (upd H1 dx (.own x)) x (.ins C dx [])) (fun v H2=>v=.non/\Q (.ref x) H2) E:=rfl
end
noncomputable def HasMX (P:Program) (w:World) (K:PySem.W.Frag) (mg:Str->Option Value) (base:Heap) (k:Nat) (C:Addr) (x:Str) (ps:List Str) (sp:Sp):Prop:=
 ∃f fd,FnOk P w K mg base (CXx P w) k f fd ps sp/\(∀us:List Value,us.length=ps.length->bindArgs fd ⟨us,[]⟩=pure (ps.zip us))/\Meth K C x f
theorem HasMX.mono {P:Program} {w:World} {K:PySem.W.Frag} {mg:Str->Option Value} {base:Heap} {j k:Nat} {C:Addr} {x:Str} {ps:List Str} {sp:Sp} (h:HasMX P w K mg base j C x ps sp) (hk:j<=k):HasMX P w K mg base k C x ps sp:=
 let ⟨f,fd,F,b⟩:=h
 ⟨f,fd,F.mono hk,b⟩
theorem TM.hasX {P:Program} {w:World} {K:PySem.W.Frag} {mg:Str->Option Value} {base:Heap} {C:Addr} {x qual:Str} {st:Stmt} {N ps:List Str} {k:Nat} {sp:Sp} (T:TM K C x qual st) (S:FnScope N ps (zG st))
  (hb:∀(kV doc pm:Value) (an:Option Addr) (cdv ct:Value) (us:List Value),us.length=ps.length->bindArgs (PySem.W.fnOf x qual (jX st) (yo st) (zG st) .none kV doc pm an cdv ct) ⟨us,[]⟩=pure (ps.zip us))
  (len:∀vs H Q E,sp vs H Q E->vs.length=ps.length)
  (hbody:∀(f:Addr) (cdv:Value) (A:Around) (outer:List Env) (s:Shared) (H:Hp) (vs:List V) (Q:VK) (E:XK),Room k (A.deeper (envOfC qual (zG st) s.heap.objs.size f cdv))->sp vs H Q E->
   ∃t,PSs (z0J (CXx P w) P w K mg base N qual (zG st) f cdv A outer s H E) (yo st) t/\t { nx:=fun _ H'=>Q .non H',rt:=Q } (qc N vs) H):HasMX P w K mg base (k+1) C x ps sp:=by
 obtain⟨f,fd,F,m⟩:=T;obtain⟨oc,od,kV,doc,pm,an,cdv,ct,osl,rfl,lk,hcd⟩:=F.ex;exact⟨f,_,y3n lk hcd S len fun A outer s H vs Q E hr hsp=>hbody f cdv A outer s H vs Q E hr hsp,hb kV doc pm an cdv ct,m⟩
section
variable {X:Cx} {k:Nat} {C:Addr} {ps:List Str} {sp:Sp} {x m:Str} {p pos apos:Pos} {e o:Expr} {es:List Expr} {ta:TE} {t:TA} {E:XK}
theorem z8p {pl:Sem Bool} (he:PE X o ta) (c:Cls X.K C) (h:HasMX X.prog X.w X.K X.mg X.base k C m ps sp) (hr:Room k X.A) (hx:jx (CXx X.prog X.w) X E) (ha:PA X (e::es) t)
  (hst:starEach (e::es) X.env=(false,eval e X.env)::starEach es X.env:=by rfl) (hpl:(backTo pos (starEach es X.env)).any (·.1)=false:=by rfl)
  (ht:eval (.Call (.Attribute o m apos) (e::es) [] pos) X.env=(do
   let ov ←eval o X.env
   standAt apos.atName
   let (f,first) ←holding [ov] (getMethod ov m pl)
   callWith pos f first (backTo pos (starEach (e::es) X.env)) (backToKw pos (keywordEach [] X.env))):=by rfl) :
  PE X (.Call (.Attribute o m apos) (e::es) [] pos) (z6y C m sp [] E ta t):=by
 obtain⟨f,fd,F,hb,hm⟩:=h;exact z8r he c hm F hr (.all hb) .nil hx ha hst hpl ht
end
section
variable {X:Cx}
end
end L2
namespace SM
open L2 PySem PySem.Builtin.Str
noncomputable def jY (c:Nat):List Nat->Nat->List (List Nat)
 | [],_=>[[]]
 | x::xs,n=>if n=0 then [x::xs] else if x=c then []::jY c xs (n-1) else match jY c xs n with
  | h::t=>(x::h)::t
  | []=>[[x]]
theorem z0Y (c x:Nat) (xs:List Nat) (n:Nat):jY c (x::xs) n=if n=0 then [x::xs] else if x=c then []::jY c xs (n-1) else match jY c xs n with
  | h::t=>(x::h)::t
  | []=>[[x]]:=rfl
theorem z2q (c:Nat) (l:List Nat):jY c l 0=[l]:=by
 cases l <;> simp [jY]
theorem j4 (c:Nat):∀(l:List Nat) (n:Nat),∃h t,jY c l n=h::t
 | [],_=>⟨_,_,rfl⟩
 | x::xs,n=>by
  obtain⟨h,t,e⟩:=j4 c xs n;unfold jY;split
  ·exact⟨_,_,rfl⟩
  ·split
   ·exact⟨_,_,rfl⟩
   ·rw[e];exact⟨_,_,rfl⟩
theorem wA (z:Str) (c:Nat):∀(l:List Nat) (k i n:Nat),z.cps.toList.drop k=l->k+l.length=z.length->i<=k->
  (((i::((yb c l k).take n).map (· + 1)).zip ((yb c l k).take n++[z.length])).map fun (a,b)=>strSub z a b)=match jY c l n with
   | h::t=>tx ((z.cps.toList.drop i).take (k-i)++h)::t.map tx
   | []=>[]
 | [],k,i,n,hd,hl,hi=>by
  simp only [yb,jY,List.take_nil,List.map_nil,List.nil_append,List.zip_cons_cons,List.zip_nil_left,List.map_cons,List.append_nil];rw[yv];have:z.length=k:=by simpa using hl.symm
  rw[this]
 | x::xs,k,i,0,hd,hl,hi=>by
  rw[z2q];simp only [List.take_zero,List.map_nil,List.nil_append,List.zip_cons_cons,List.zip_nil_left,List.map_cons];rw[yv];congr 2;have lz:z.cps.toList.length=z.length:=by simp [Str.length]
  have e1:(z.cps.toList.drop i).take (z.length-i)=z.cps.toList.drop i:=List.take_of_length_le (by rw[List.length_drop];omega);have e2:(z.cps.toList.drop i).drop (k-i)=x::xs:=by rw[List.drop_drop,show i+(k-i)=k by omega,hd]
  rw[e1,←e2,List.take_append_drop]
 | x::xs,k,i,n+1,hd,hl,hi=>by
  have hd':z.cps.toList.drop (k+1)=xs:=by rw[←List.tail_drop,hd];rfl
  have hl':k+1+xs.length=z.length:=by rw[List.length_cons] at hl;omega
  have hx:z.cps.toList[k]?=some x:=by
   have:(z.cps.toList.drop k)[0]?=some x:=by rw[hd];rfl
   rw[List.getElem?_drop] at this;exact this
  by_cases c1:x=c
  ·obtain⟨h,t,e⟩:=j4 c xs n;have ih:=wA z c xs (k+1) (k+1) n hd' hl' (Nat.le_refl _);rw[e] at ih;simp only [Nat.sub_self,List.take_zero,List.nil_append] at ih;have e0:jY c (x::xs) (n+1)=[]::jY c xs n:=by
    rw[z0Y,if_neg (by omega),if_pos c1];rfl
   have e3:(yb c (x::xs) k).take (n+1)=k::(yb c xs (k+1)).take n:=by
    simp only [yb,c1,if_true,List.take_succ_cons]
   rw[e0,e3,e];simp only [List.map_cons,List.cons_append,List.zip_cons_cons,List.append_nil];rw[ih,yv]
  ·obtain⟨h,t,e⟩:=j4 c xs (n+1);have ih:=wA z c xs (k+1) i (n+1) hd' hl' (by omega);rw[e] at ih;have e0:jY c (x::xs) (n+1)=(x::h)::t:=by
    rw[z0Y,if_neg (by omega),if_neg c1,e]
   have e3:yb c (x::xs) k=yb c xs (k+1):=by
    simp only [yb,c1,if_false]
   rw[e0,e3,ih];have e2:(z.cps.toList.drop i).take (k+1-i)=(z.cps.toList.drop i).take (k-i)++[x]:=by
    rw[show k+1-i=(k-i)+1 by omega,List.take_add_one,List.getElem?_drop,show i+(k-i)=k by omega,hx];rfl
   simp only [e2,List.append_assoc,List.singleton_append]
theorem va (z:Str) (c lim:Nat):∀(l:List Nat) (k:Nat) (st:Array Nat×Nat),z.cps.toList.drop k=l->k+l.length=z.length->st.2<=k->
  (forIn (List.range' k (l.length+1)) st (StrLaws.occBody z ⟨#[c]⟩ z.length lim)).run.fst.toList=st.1.toList++(yb c l k).take (lim-st.1.size)
 | [],k,st,hd,hl,h2=>by
  have hk:k=z.length:=by simpa using hl
  show (forIn [k] st (StrLaws.occBody z ⟨#[c]⟩ z.length lim)).run.fst.toList=_;rw[List.forIn_cons];unfold StrLaws.occBody;rw[if_neg (fun h=>by have:=h.1.2;simp [Str.length] at this hk;omega)];simp [yb]
 | x::xs,k,st,hd,hl,h2=>by
  have hd':z.cps.toList.drop (k+1)=xs:=by rw[←List.tail_drop,hd];rfl
  have hl':k+1+xs.length=z.length:=by rw[List.length_cons] at hl;omega
  show (forIn (k::List.range' (k+1) (xs.length+1)) st (StrLaws.occBody z ⟨#[c]⟩ z.length lim)).run.fst.toList=_;rw[List.forIn_cons];by_cases c1:x=c/\st.1.size<lim
  ·have hb:StrLaws.occBody z ⟨#[c]⟩ z.length lim k st=pure (ForInStep.yield (st.fst.push k,k+1)):=by
    unfold StrLaws.occBody;exact if_pos ⟨⟨⟨c1.2,h2⟩,by show k+1<=z.length;omega⟩,(z1V z c k hd).mpr c1.1⟩
   rw[hb];have ih:=va z c lim xs (k+1) (st.fst.push k,k+1) hd' hl' (Nat.le_refl _);have e:lim-st.1.size=(lim-(st.1.push k).size)+1:=by rw[Array.size_push];omega
   simp only [yb,c1.1,if_true];refine Eq.trans ih ?_;rw[e,List.take_succ_cons];simp
  ·have hb:StrLaws.occBody z ⟨#[c]⟩ z.length lim k st=pure (ForInStep.yield (st.fst,st.snd)):=by
    unfold StrLaws.occBody;exact if_neg fun h=>c1 ⟨(z1V z c k hd).mp h.2,h.1.1.1⟩
   rw[hb];have ih:=va z c lim xs (k+1) (st.fst,st.snd) hd' hl' (by show st.2<=k+1;omega);refine Eq.trans ih ?_;by_cases c2:x=c
   ·have:lim-st.1.size=0:=by
     rcases Nat.lt_or_ge st.1.size lim with z1|z1
     ·exact absurd ⟨c2,z1⟩ c1
     ·omega
    simp only [this,List.take_zero]
   ·simp only [yb,c2,if_false]
theorem kR (z:Str) (c lim:Nat):occurrences z ⟨#[c]⟩ 0 z.length lim=(yb c z.cps.toList 0).take lim:=by
 rw[StrLaws.occ_eq];have:=va z c lim z.cps.toList 0 (#[],0) rfl (by simp [Str.length]) (Nat.le_refl _);have e:z.length+1-0=z.cps.toList.length+1:=by simp [Str.length]
 rw[e,this];simp
theorem z2p (z:Str) (c n:Nat) (hc:c<256):Txt.splitMax z ⟨#[c]⟩ (n:Int)=(jY c z.cps.toList n).map tx:=by
 have lim:limitOf z (n:Int)=n:=by
  unfold limitOf;rw[if_neg (by omega)];omega
 have main:partsBetween z (occurrences z ⟨#[c]⟩ 0 z.length (limitOf z n)) 1=(jY c z.cps.toList n).map tx:=by
  rw[lim,kR];unfold partsBetween;have:=wA z c z.cps.toList 0 0 n rfl (by simp [Str.length]) (Nat.le_refl _);obtain⟨h,t,e⟩:=j4 c z.cps.toList n;rw[e] at this ⊢;simp only [Nat.sub_self,List.take_zero,List.nil_append] at this;exact this
 have one:(yb c z.cps.toList 0).take n=[]->(jY c z.cps.toList n).map tx=[z]:=fun e=>by
  rw[←main,lim,kR,e];have e3:(z.cps.toList.take z.cps.size)=z.cps.toList:=List.take_of_length_le (by simp);simp [partsBetween,yv,Str.length,e3,x6]
 unfold Txt.splitMax;split
 ·rename_i h
  have k1:Builtin.Str.strKind ⟨#[c]⟩=1:=by simp [Builtin.Str.strKind,hc]
  have kz:1<=Builtin.Str.strKind z:=by unfold Builtin.Str.strKind;split <;> (try split) <;> decide
  have lz:z.length=0:=by
   rw[k1,Bool.or_eq_true,decide_eq_true_eq,decide_eq_true_eq] at h;have e1:(⟨#[c]⟩:Str).length=1:=rfl;omega
  have ez:z.cps.toList=[]:=List.eq_nil_of_length_eq_zero (by simpa [Str.length] using lz);rw[one (by rw[ez];simp [yb])]
 ·split
  ·rename_i h
   rw[lim,kR] at h;rw[one (List.isEmpty_iff.mp h)]
  ·exact main
theorem z0z (c:Nat):∀(l:List Nat) (k:Nat),(yb c l k=[]->l.takeWhile (· != c)=l)/\∀i r,yb c l k=i::r->k<=i/\l.takeWhile (· != c)=l.take (i-k)
 | [],k=>⟨fun _=>rfl,fun i r h=>nomatch h⟩
 | x::xs,k=>by
  obtain⟨a,b⟩:=z0z c xs (k+1);unfold yb;by_cases e:x=c
  ·rw[if_pos e];refine⟨(fun h=>nomatch h),fun i r h=>?_⟩;injection h with h1 h2;subst h1;rw[Nat.sub_self,List.take_zero,List.takeWhile_cons];simp [e]
  ·rw[if_neg e,List.takeWhile_cons];have ne:(x != c)=true:=by simp [e]
   rw[ne];refine⟨fun h=>?_,fun i r h=>?_⟩
   ·simp only [if_true];rw[a h]
   ·obtain⟨h1,h2⟩:=b i r h;refine⟨by omega,?_⟩;simp only [if_true];rw[h2,show i-k=(i-(k+1))+1 by omega,List.take_succ_cons]
theorem z3P (z:Str) (c:Nat):(Txt.partition z ⟨#[c]⟩).1=tx (z.cps.toList.takeWhile (· != c)):=by
 obtain⟨a,b⟩:=z0z c z.cps.toList 0;unfold Txt.partition;rw[kR];cases e:yb c z.cps.toList 0 with
 | nil=>
  simp only [List.take_nil];rw[a e,x6]
 | cons i r=>
  obtain⟨_,h⟩:=b i r e;rw[List.take_succ_cons];simp only;rw[yv,h];simp
theorem z2r {c:Nat}:∀ {p:List Nat} (n:Nat),c∉p->jY c p n=[p]
 | [],_,_=>rfl
 | x::xs,n,h=>by
  have ih:=z2r (c:=c) (p:=xs) n fun z=>h (List.mem_cons_of_mem _ z);rw[z0Y];split
  ·rfl
  ·rw[if_neg (fun e=>h (by simp [e])),ih]
theorem z5r {c:Nat} {r:List Nat}:∀ {p:List Nat} (n:Nat),c∉p->jY c (p++c::r) (n+1)=p::jY c r n
 | [],n,_=>by
  show jY c (c::r) (n+1)=_;rw[z0Y,if_neg (by omega),if_pos rfl];rfl
 | x::xs,n,h=>by
  have ih:=z5r (c:=c) (p:=xs) (r:=r) n fun z=>h (List.mem_cons_of_mem _ z);show jY c (x::(xs++c::r)) (n+1)=_;rw[z0Y,if_neg (by omega),if_neg (fun e=>h (by simp [e])),ih]
theorem z5q {c:Nat}:∀(ws:List (List Nat)) (n:Nat),ws≠[]->ws.length<=n+1->(∀p∈ws.dropLast,c∉p)->(ws.length<=n->∀p∈ws,c∉p)->jY c (glu c ws) n=ws
 | [],_,h,_,_,_=>absurd rfl h
 | [p],0,_,_,_,_=>z2q c p
 | [p],n+1,_,_,_,h=>z2r (n+1) (h (by simp) p (by simp))
 | p::q::r,0,_,h,_,_=>by simp at h
 | p::q::r,n+1,_,h,h1,h2=>by
  show jY c (p++c::glu c (q::r)) (n+1)=_;rw[z5r n (h1 p (by simp [List.dropLast])),z5q (q::r) n (by simp) (by simp at h ⊢;omega) (fun x hx=>h1 x (by simp [List.dropLast] at hx ⊢;simp [hx])) (fun k x hx=>h2 (by simp at k ⊢;omega) x (by simp at hx ⊢;simp [hx]))]
theorem ke {c:Nat}:∀ {l:List Nat} {n:Nat} {w:List Nat},w∈jY c l n->w.length<=l.length/\∀x∈w,x∈l
 | [],n,w,h=>by
  have:w=[]:=by simpa [jY] using h
  rw[this];exact⟨Nat.le_refl _,fun x hx=>hx⟩
 | y::ys,n,w,h=>by
  rw[z0Y] at h;split at h
  ·rw[List.mem_singleton.mp h];exact⟨Nat.le_refl _,fun x hx=>hx⟩
  ·split at h
   ·rcases List.mem_cons.mp h with rfl|h
    ·exact⟨Nat.zero_le _,fun x hx=>by cases hx⟩
    ·obtain⟨a,b⟩:=ke h;exact⟨by rw[List.length_cons];omega,fun x hx=>List.mem_cons_of_mem _ (b x hx)⟩
   ·obtain⟨p,t,e⟩:=j4 c ys n;rw[e] at h;have ih:=fun w (hw:w∈p::t)=>ke (c:=c) (l:=ys) (n:=n) (w:=w) (by rw[e];exact hw);rcases List.mem_cons.mp h with rfl|h
    ·obtain⟨a,b⟩:=ih p (by simp);refine⟨by rw[List.length_cons,List.length_cons];omega,fun x hx=>?_⟩;rcases List.mem_cons.mp hx with rfl|hx
     ·exact List.mem_cons_self
     ·exact List.mem_cons_of_mem _ (b x hx)
    ·obtain⟨a,b⟩:=ih w (List.mem_cons_of_mem _ h);exact⟨by rw[List.length_cons];omega,fun x hx=>List.mem_cons_of_mem _ (b x hx)⟩
end SM
namespace L2
open PySem PySem.Spec PySem.Calls PyProof.Rows PySem.W SM
section
variable {X:Cx}
theorem wX:MtR X "str.partition" (fun x vs H Q=>∃(z y:Str),x=.str z/\vs=[.str y]/\(y.length == 0)=false/\z.length<=sizeLine/\∀D,H D=none->Q (.ref D) (upd H D (.tup [.str (Txt.partition z y).1,.str (Txt.partition z y).2.1,.str (Txt.partition z y).2.2]))):=by
 intro pins s σ H x vs v us Q I rx rs h;obtain⟨z,y,rfl,rfl,hy,hz,q⟩:=h;obtain⟨t,rfl⟩:=rx;obtain⟨w,rfl,u,rfl⟩:=Vals.one rs;refine call_meets PySem.F.slot_str_partition (typeIs_str _ _ _) PySem.F.entry_str_partition (PySem.F.args_str_partition_2 _ _) (meets_str_partition z y t u hy hz) ?_;have q2:=q _ I.fresh;unfold Txt.partition at q2;cases e:Builtin.Str.occurrences z y 0 z.length 1 with
 | nil=>
  rw[e] at q2;refine⟨.ref _,_,I.laid (o:=.tup [.str z,.str Str.empty,.str Str.empty]) (t':=s.toks+1) (fun b u e=>Heap.get?_push_of_some _ e) (Nat.le_refl _) ⟨by show 3<=sizeLine;decide,_,.cons ⟨t,rfl⟩ (.cons ⟨s.toks,rfl⟩ (.cons ⟨s.toks,rfl⟩ .nil)),⟨_,Heap.get?_push_size _ rfl,rfl,_,rfl⟩⟩,rfl,q2⟩
 | cons i r=>
  rw[e] at q2;refine⟨.ref _,_,I.laid (o:=.tup [.str (Builtin.Str.strSub z 0 i),.str y,.str (Builtin.Str.strSub z (i+y.length) z.length)]) (t':=s.toks+1+1) (fun b u e=>Heap.get?_push_of_some _ e) (Nat.le_refl _) ⟨by show 3<=sizeLine;decide,_,.cons ⟨s.toks,rfl⟩ (.cons ⟨u,rfl⟩ (.cons ⟨s.toks+1,rfl⟩ .nil)),⟨_,Heap.get?_push_size _ rfl,rfl,_,rfl⟩⟩,rfl,q2⟩
theorem z9G:MtR X "str.split" (fun x vs H Q=>∃(z y:Str) (n:Nat),x=.str z/\vs=[.str y,.int (n:Int)]/\(y.length == 0)=false/\n<1000/\z.length+10<=sizeLine/\∀D,H D=none->Q (.ref D) (upd H D (.lst ((Txt.splitMax z y (n:Int)).map V.str)))):=by
 intro pins s σ H x vs v us Q I rx rs h;obtain⟨z,y,n,rfl,rfl,hy,hn,hz,q⟩:=h;obtain⟨t,rfl⟩:=rx;obtain⟨u0,w0,rfl,r1,r2⟩:=Vals.two rs;obtain⟨u,rfl⟩:=r1;obtain⟨k0,rfl⟩:=r2;have hk:(decide ((n:Int) < -(2^63:Int)) || decide ((n:Int) ≥ 2^63))=false:=by
  rw[decide_eq_false (by omega),decide_eq_false (by omega)];rfl
 have ln:(Builtin.Str.partsBetween z (Builtin.Str.occurrences z y 0 z.length (limitOf z n)) y.length).length<=sizeLine:=by
  have:=PySem.StrLaws.occ_length_le z y 0 z.length (limitOf z n);have lm:limitOf z n=n:=by
   unfold limitOf;rw[if_neg (by omega)];omega
  have e:sizeLine=16777216:=rfl;simp only [Builtin.Str.partsBetween,List.length_map,List.length_zip,List.length_cons,List.length_append,List.length_nil];omega
 have fin:∀(l:List (Str×Tok)) (tk:Nat),l.map (·.1)=Txt.splitMax z y n->EP X pins σ Q (.ref s.heap.objs.size) { s with toks:=tk,heap:=s.heap.push { cls:=.type "list",data:=.seq (strValues l).toArray } }:=fun l tk e=>by
  have e2:(Txt.splitMax z y n).map V.str=l.map fun p=>V.str p.1:=by rw[←e,List.map_map];rfl
  have ll:l.length<=sizeLine:=by
   have:l.length=(Txt.splitMax z y n).length:=by rw[←e,List.length_map]
   rw[this];unfold Txt.splitMax;split
   ·show 1<=sizeLine;decide
   ·split
    ·show 1<=sizeLine;decide
    ·exact ln
  have q2:=q _ I.fresh;rw[e2] at q2;exact⟨.ref _,_,I.lnew (t':=tk) (vB l) (by rw[List.length_map];exact ll),rfl,q2⟩
 cases h1:(decide (z.length<y.length) || decide (Builtin.Str.strKind z<Builtin.Str.strKind y)) with
 | true=>
  refine call_meets PySem.F.slot_str_split (typeIs_str _ _ _) PySem.F.entry_str_split (PySem.F.args_str_split_3 _ _ _) (meets_str_split_max_cannot_occur z y n t u k0 hk h1) ?_;exact fin [(z,t)] s.toks (by unfold Txt.splitMax;rw[if_pos h1];rfl)
 | false=>
  cases h2:(Builtin.Str.occurrences z y 0 z.length (limitOf z n)).isEmpty with
  | true=>
   refine call_meets PySem.F.slot_str_split (typeIs_str _ _ _) PySem.F.entry_str_split (PySem.F.args_str_split_3 _ _ _) (meets_str_split_max_not_found z y n t u k0 hk h1 hy h2) ?_;exact fin [(z,t)] s.toks (by unfold Txt.splitMax;rw[if_neg (by rw[h1];decide),if_pos h2];rfl)
  | false=>
   refine call_meets PySem.F.slot_str_split (typeIs_str _ _ _) PySem.F.entry_str_split (PySem.F.args_str_split_3 _ _ _) (meets_str_split_sep_max z y n t u k0 hk h1 hy h2 (by omega) ln) ?_;rw[strsFrom_eq];exact fin _ _ (by rw[numbered_texts];unfold Txt.splitMax;rw[if_neg (by rw[h1];decide),if_neg (by rw[h2];decide)])
noncomputable def y2u (z:Str):Value->Bool
 | .str a _=>a == z
 | _=>false
theorem z6o {z:Str} {t:Tok}:∀ {ys:List Str} {its:List Value},Vals (ys.map V.str) its->its.any (y2u z)=ys.contains z/\∀(A:Around) (s:Shared),∀y∈its,SeqAt.EqAt A s y (.str z t) (y2u z y)
 | [],_,.nil=>⟨rfl,fun _ _ y hy=>nomatch hy⟩
 | y::ys,_,.cons r rs=>by
  obtain⟨t1,rfl⟩:=r;obtain⟨a,b⟩:=z6o (z:=z) (t:=t) rs;refine⟨?_,fun A s v hv=>?_⟩
  ·rw[List.any_cons,List.contains_cons,a];congr 1;show (y == z)=(z == y)
   rw[Bool.eq_iff_iff,beq_iff_eq,beq_iff_eq];exact⟨Eq.symm,Eq.symm⟩
  ·rcases List.mem_cons.mp hv with rfl|hv
   ·exact SeqAt.EqAt.str_str y t1 z t
   ·exact b A s v hv
theorem y4p:OpR X (compareOp .In) (fun x y H Q=>∃(z:Str) (a:Addr) (ys:List Str),x=.str z/\y=.ref a/\SqT X.K H a (ys.map V.str)/\Q (.bl (ys.contains z)) H):=by
 intro pins s σ H x y v u Q I rx ry h;obtain⟨z,a,ys,rfl,rfl,hq,q⟩:=h;obtain⟨t,rfl⟩:=rx;cases ry;obtain⟨its,rv,it,_⟩:=I.tuple hq;obtain⟨e1,e2⟩:=z6o (z:=z) (t:=t) rv;refine SeqAt.in_tupleAt (y2u z) it (fun y hy=>e2 _ _ y (by simpa using hy)) ?_;rw[List.any_toArray,e1];exact⟨.bl _,H,I,rfl,q⟩
end
noncomputable def CDT (P:Program) (w:World) (K:PySem.W.Frag) (mg:Str->Option Value) (x:Str) (tb:List (Str×List Str)):Prop:=
 ∃(a:Addr) (o:Obj) (kvs:List (Key×Value)),mg x=some (.ref a)/\K.lookup a=some o/\(a == sysModules)=false/\o.dict=none/\(∀h:Heap,h.get? a=some o->h.DictOf (yP P w) a kvs)/\
  Paired (fun (p:Str×List Str) (q:Key×Value)=>q.1=.inr p.1/\∃b,q.2=.ref b/\∀H,SqT K H b (p.2.map V.str)) tb kvs
theorem y2e {K:PySem.W.Frag} {z:Str}:∀ {tb:List (Str×List Str)} {kvs:List (Key×Value)},Paired (fun (p:Str×List Str) (q:Key×Value)=>q.1=.inr p.1/\∃b,q.2=.ref b/\∀H,SqT K H b (p.2.map V.str)) tb kvs->
  (tb.lookup z=none/\valueAt kvs (.inr z)=none)∨∃ys b,tb.lookup z=some ys/\valueAt kvs (.inr z)=some (.ref b)/\∀H,SqT K H b (ys.map V.str)
 | [],_,.nil=>.inl ⟨rfl,rfl⟩
 | p::tb,q::kvs,.cons r rs=>by
  obtain⟨k,ys⟩:=p;obtain⟨k2,v⟩:=q;obtain⟨e1,b,e2,hb⟩:=r;simp only at e1 e2 hb;subst e1 e2;by_cases c:k=z
  ·subst c;refine .inr ⟨ys,b,by simp [List.lookup],by simp [valueAt],hb⟩
  ·have c1:¬z=k:=fun e=>c e.symm;have e3:((k,ys)::tb).lookup z=tb.lookup z:=by
    rw[List.lookup_cons,beq_eq_false_iff_ne.mpr c1]
   have e4:valueAt ((Sum.inr k,Value.ref b)::kvs) (Sum.inr z:Key)=valueAt kvs (.inr z):=by
    have c2:¬(Sum.inr k:Key)=Sum.inr z:=fun e=>c (Sum.inr.inj e);simp [valueAt,List.find?_cons,c]
   rw[e3,e4];exact y2e rs
noncomputable def y4V (K:PySem.W.Frag) (tb:List (Str×List Str)) (ty:TE):TE:=fun σ H Q=>ty σ H fun y H2=>∃z,y=.str z/\(tb.lookup z=none->Q .non H2)/\∀ys b,tb.lookup z=some ys->SqT K H2 b (ys.map V.str)->Q (.ref b) H2
theorem z5n {K:PySem.W.Frag} {tb:List (Str×List Str)} {ty:TE} {σ:St} {H:Hp} {Q:VK}:y4V K tb ty σ H Q=ty σ H fun y H2=>∃z,y=.str z/\(tb.lookup z=none->Q .non H2)/\∀ys b,tb.lookup z=some ys->SqT K H2 b (ys.map V.str)->Q (.ref b) H2:=rfl
theorem y3U {X:Cx} {x:Str} {tb:List (Str×List Str)} {e:Expr} {p apos cpos:Pos} {ty:TE} (hc:CDT X.prog X.w X.K X.mg x tb) (hg:Gl X x) (he:PE X e ty) (m:M1 X (.Name x p) "get" apos e cpos) (hdb:(x == ("__debug__" : Str))=false:=by decide) :
  PE X (.Call (.Attribute (.Name x p) "get" apos) [e] [] cpos) (y4V X.K tb ty):=by
 intro pins s σ H Q I h;obtain⟨a,o,kvs,hm,hk,hs,hd,hh,hp⟩:=hc;have g:=v6 (X:=X) (x:=x) (pos:=p) (v:=.ref a) hg hm rfl hdb pins s σ H (fun v H1=>v=.ref a/\H1=H) I (show (tC (.ref a):TE) σ H _ from⟨rfl,rfl⟩);refine wpAny_Call_method m.base m.few m.line PySem.F.plainAttrs_dict PySem.F.slot_dict_get PySem.F.type_dict_get (thn g fun u s1 ⟨x1,H1,I1,rx,e1,e2⟩=>?_);subst e1 e2;obtain rfl:u=Value.ref a:=rx;have ho:=I1.kIn a o hk;have dd:=hh _ ho;refine⟨dd.typeIs,fun b q=>?_,?_⟩
 ·cases q;exact⟨o,ho,hd⟩
 rw[m.trees];refine Calls.callWith_builtin rfl (Calls.evalArgs_plain (Calls.spliced_cons (thn (he pins s1 σ H1 _ I1 h) fun iv s2 ⟨y,H2,I2,ry,z,ey,q1,q2⟩=>Calls.spliced_nil ?_)));subst ey;have dd2:=hh _ (I2.kIn a o hk);refine call_meetsIn PySem.F.slot_dict_get dd2.typeIs PySem.F.entry_dict_get (PySem.F.args_dict_get_2 _ _) (meets_dict_get (yP X.prog X.w) a (z9Q (k:=.inr z) ry) hs) ⟨_,dd2.mapOf,?_⟩;rcases y2e (z:=z) hp with⟨l1,l2⟩|⟨ys,b,l1,l2,hb⟩
 ·have e:(valueAt kvs (Sum.inr z:Key)).getD Value.none=.none:=by rw[l2];rfl
  refine⟨.non,H2,I2.tok _,?_,q1 l1⟩;exact e
 ·have e:(valueAt kvs (Sum.inr z:Key)).getD Value.none=.ref b:=by rw[l2];rfl
  refine⟨.ref b,H2,I2.tok _,?_,q2 ys b l1 (hb H2)⟩;exact e
inductive CPairs (w:World) (K:PySem.W.Frag):List DictEntry->List (Str×List Str)->Prop
 | nil:CPairs w K [] []
 | cons {e:DictEntry} {es:List DictEntry} {x:Str} {t:Tok} {ys:List Str} {tb:List (Str×List Str)} {b:Addr} {o:Obj} {its:Array Value} {n:Nat}:e.key=.str x t->e.hash=hashStr w x->e.val=.ref b->K.lookup b=some o->o.cls=.type "tuple" ->o.data=.seq its n->its.size<=sizeLine->Vals (ys.map V.str) its.toList->CPairs w K es tb->CPairs w K (e::es) ((x,ys)::tb)
theorem y0K {P:Program} {w:World} {K:PySem.W.Frag} {es:List DictEntry} {tb:List (Str×List Str)} (h:CPairs w K es tb):∃kvs:List (Key×Value),(∀e∈es,∃k,(yP P w).is k e.key=true/\e.hash=(yP P w).hash k)/\Pairs (yP P w) es kvs/\kvs.map (·.1)=tb.map (fun p=>(Sum.inr p.1:Key))/\
  Paired (fun (p:Str×List Str) (q:Key×Value)=>q.1=.inr p.1/\∃b,q.2=.ref b/\∀H,SqT K H b (p.2.map V.str)) tb kvs:=by
 induction h with
 | nil=>exact⟨[],(fun e he=>nomatch he),.nil,rfl,.nil⟩
 | @cons e es x t ys tb b o its n h1 h2 h3 h4 h5 h6 h7 h8 _ ih=>
  obtain⟨kvs,a1,a2,a3,a4⟩:=ih;have k1:(yP P w).is (Sum.inr x) e.key=true:=by rw[h1];exact vc P w x t
  refine⟨(Sum.inr x,.ref b)::kvs,fun e' he'=>?_,.cons k1 h3 a2,by simp [a3],.cons ⟨rfl,b,rfl,fun H=>.inr ⟨o,its,n,h4,h5,h6,h7,h8⟩⟩ a4⟩;rcases List.mem_cons.mp he' with rfl|he'
  ·exact⟨Sum.inr x,k1,h2⟩
  ·exact a1 e' he'
theorem y5R {P:Program} {w:World} {K:PySem.W.Frag} {h:Heap} {mg:Str->Option Value} {x:Str} {tb:List (Str×List Str)} {a:Addr} {o:Obj} {es:Array DictEntry} {ep:_} (X:K.In h) (G:h.Ns mainGlobals mg) (e:PySem.W.nsIn K mainGlobals x=some (some (.ref a)))
  (l:K.lookup a=some o) (sm:(a == sysModules)=false) (ex:o.ExactDict) (d:o.data=.dict es ep) (cp:CPairs w K es.toList tb) (nd:(tb.map (·.1)).Nodup):CDT P w K mg x tb:=by
 obtain⟨kvs,a1,a2,a3,a4⟩:=y0K (P:=P) cp;refine⟨a,o,kvs,PySem.W.mg_of X G e,l,sm,ex.2.1,fun h ho=>⟨o,es,ep,ho,ex,d,fun e he=>a1 e (by simpa using he),a2,?_⟩,a4⟩;rw[a3];have:tb.map (fun p=>(Sum.inr p.1:Key))=(tb.map (·.1)).map Sum.inr:=by rw[List.map_map];rfl
 rw[this];exact nd.map _ fun _ _ h e=>h (Sum.inr.inj e)
section
variable {X:Cx} {σ:St} {H:Hp} {Q:VK} {D:Ends} {td ty tv:TE} {e:Expr}
theorem z9F:MtR X "str.startswith" (fun x vs H Q=>∃(z y:Str),x=.str z/\vs=[.str y]/\Q (.bl (decide (0+y.length<=z.length) && Builtin.Str.subAt z y 0)) H):=by
 intro pins s σ H x vs v us Q I rx rs h;obtain⟨z,y,rfl,rfl,q⟩:=h;obtain⟨t,rfl⟩:=rx;obtain⟨u,rfl,r1⟩:=Vals.one rs;obtain⟨t1,rfl⟩:=r1;exact call_gives PySem.F.slot_str_startswith (typeIs_str _ _ _) PySem.F.entry_str_startswith (PySem.F.args_str_startswith_2 _ _) (gives_str_startswith z y t t1) ⟨.bl _,H,I.tok _,rfl,q⟩
noncomputable def tNo:TE:=fun _ _ _=>False
theorem y5o:PE X e tNo:=fun _ _ _ _ _ _ h=>h.elim
theorem y2J:tNo σ H Q=False:=rfl
theorem z5m:y4U td ty σ H Q=td σ H fun x H1=>ty σ H1 fun y H2=>∃a v,x=.ref a/\DGet H2 a y (some v)/\Q v H2:=rfl
theorem z8I:y6g ty td σ H Q=ty σ H fun y H1=>td σ H1 fun x H2=>∃a o,x=.ref a/\DGet H2 a y o/\Q (.bl o.isSome) H2:=rfl
theorem z0W:z8H ty td σ H Q=ty σ H fun y H1=>td σ H1 fun x H2=>∃a o,x=.ref a/\DGet H2 a y o/\Q (.bl (!o.isSome)) H2:=rfl
theorem z6G:y4a td ty tv D σ H=tv σ H fun v H1=>td σ H1 fun x H2=>ty σ H2 fun y H3=>∃a H4,x=.ref a/\DPut H3 a y v H4/\D.nx σ H4:=rfl
theorem z2n:y2K σ H Q = ∀p,H p=none->Q (.ref p) (upd H p (.dK [])):=rfl
end
structure Apart2 (Z Ti To j1 j2 m1 m2:Addr):Prop where
 nd:[Z,Ti,To,j1,j2].Nodup
 ls:∀m∈[m1,m2],m∉[Z,To,j1,j2]
noncomputable def Kept2 (Z To j1 j2:Addr) (h h':Heap):Prop:=∀c o,c∉[Z,To,j1,j2]->h.get? c=some o->h'.get? c=some o
theorem Kept2.but {Z To j1 j2 b:Addr} {h h1 h2:Heap} (k:Kept2 Z To j1 j2 h h1) (hb:b∈[Z,To,j1,j2]) (e:Heap.SameBut b h1 h2):Kept2 Z To j1 j2 h h2:=fun c o hc q=>e.extBut _ _ (fun z=>hc (by rw[z];exact hb)) (k c o hc q)
theorem qY {h h':Heap} {J tu b:Addr} {k:Nat} (x:h.IsTupleIter J tu k) (e:Heap.ExtBut b h h') (n:J≠b):h'.IsTupleIter J tu k:=by
 obtain⟨o,ho,r⟩:=x;exact⟨o,e _ _ n ho,r⟩
section
variable {prog:Program} {w:World} {A:Around} {E:Value->Shared->Prop} {s:Shared}
theorem y1M {Z Ti To j1 j2 m1 m2:Addr} {n:Nat} {us vs:Array Value} {x y a b:Value} {Q:Value->Shared->Prop} (D:Apart2 Z Ti To j1 j2 m1 m2)
  (zz:IsZip s.heap Z Ti To .none) (zI:IsPair s.heap Ti (.ref j1) (.ref j2)) (zO:IsPair s.heap To a b)
  (k1:s.heap.IsTupleIter j1 m1 n) (k2:s.heap.IsListIter j2 m2 n) (e1:s.heap.IsTuple m1 us) (e2:s.heap.IsList m2 vs) (hx:us[n]?=some x) (hy:vs[n]?=some y)
  (hQ:∀h',IsZip h' Z Ti To (rawInt s.heap.objs.size)->IsPair h' To x y->h'.IsTupleIter j1 m1 (n+1)->h'.IsListIter j2 m2 (n+1)->IsPair h' s.heap.objs.size x y->Kept2 Z To j1 j2 s.heap h'->Q (.ref s.heap.objs.size) { s with heap:=h' }) :
  wpAny (model prog w) A (Builtin.«zip.__next__» ⟨[.ref Z],[]⟩) (fun f s'=>∃r,f=.done (.ret r)/\Q r s') E s:=by
 obtain⟨nd,ls⟩:=D;simp only [List.nodup_cons,List.mem_cons,List.not_mem_nil,or_false,not_or,not_false_eq_true,List.nodup_nil,and_true] at nd;obtain⟨⟨d1,d2,d3,d4⟩,⟨d6,d7,d8⟩,⟨d10,d11⟩,d13⟩:=nd;have l1:=ls m1 (by simp);have l2:=ls m2 (by simp);simp only [List.mem_cons,List.not_mem_nil,or_false,not_or] at l1 l2;show wpAny _ _ (field (.ref Z) 2 >>= _) _ _ _;refine wpAny_bind (wpAny_field zz rfl (x:=.bool false) rfl ?_);show wpAny _ _ (field (.ref Z) 3 >>= _) _ _ _;refine wpAny_bind (wpAny_field zz rfl (x:=.ref Ti) rfl (wpAny_bind (wpAny_seqItems zI rfl ?_)));show wpAny _ _ (Builtin.SmallTypes.ownedTupleIsFree (.ref Z) >>= _) _ _ _;refine wpAny_bind (by
  unfold Builtin.SmallTypes.ownedTupleIsFree;refine wpAny_bind (wpAny_field zz rfl (x:=.none) rfl (wpAny_pure ?_));simp only [if_true];refine wpAny_bind (wpAny_rule (wpAny_bind (wpAny_field zz rfl (x:=.ref To) rfl (wpAny_bind (wpAny_setField_rec zz (by simp) fun g1 z1 s1=>?_)))));replace z1:IsZip g1 Z Ti To .ellipsis:=z1;refine wpAny_bind ?_;simp only [List.forIn_cons,List.forIn_nil,List.zipIdx_cons,List.zipIdx_nil];refine wpAny_bind (wpAny_bind (wpAny_onRaise ?_));show wpAny _ _ (Builtin.SmallTypes.nextOf (.ref j1) >>= _) _ _ _;refine wpAny_bind (z0u (qY k1 s1.extBut (Ne.symm d3)) (e1.extBut s1.extBut l1.1) hx fun g2 p1 s2=>wpAny_pure ?_);have o2:IsPair g2 To a b:=s2.extBut _ _ d10 (s1.extBut _ _ (Ne.symm d2) zO);refine wpAny_bind (wpAny_seqItems o2 rfl (wpAny_bind (wpAny_updateSeq_pair o2 fun g3 o3 s3=>?_)));replace o3:IsPair g3 To x b:=o3;refine wpAny_bind (wpAny_letGo (wpAny_pure ?_));refine wpAny_bind (wpAny_bind (wpAny_onRaise ?_));show wpAny _ _ (Builtin.SmallTypes.nextOf (.ref j2) >>= _) _ _ _;refine wpAny_bind (wpAny_nextOf_list_item (((k2.extBut s1.extBut (Ne.symm d4)).extBut s2.extBut (Ne.symm d13)).extBut s3.extBut (Ne.symm d11)) (((e2.extBut s1.extBut l2.1).extBut s2.extBut l2.2.2.1).extBut s3.extBut l2.2.1) hy fun g4 p2 s4=>wpAny_pure ?_);have o4:IsPair g4 To x b:=s4.extBut _ _ d11 o3;refine wpAny_bind (wpAny_seqItems o4 rfl (wpAny_bind (wpAny_updateSeq_pair o4 fun g5 o5 s5=>?_)));replace o5:IsPair g5 To x y:=o5;refine wpAny_bind (wpAny_letGo (wpAny_pure (wpAny_pure ?_)));refine wpAny_bind (wpAny_seqItems o5 rfl (wpAny_bind (wpAny_newTuple ?_)));have sz:g5.objs.size=s.heap.objs.size:=by rw[s5.1,s4.1,s3.1,s2.1,s1.1]
  have z5:IsZip g5 Z Ti To .ellipsis:=s5.extBut _ _ d2 (s4.extBut _ _ d4 (s3.extBut _ _ d2 (s2.extBut _ _ d3 z1)));have K5:Kept2 Z To j1 j2 s.heap g5:=((((Kept2.but (fun c o _ q=>q) (by simp) s1).but (by simp) s2).but (by simp) s3).but (by simp) s4).but (by simp) s5;have q1:g5.IsTupleIter j1 m1 (n+1):=qY (qY (qY p1 s3.extBut (Ne.symm d10)) s4.extBut d13) s5.extBut (Ne.symm d10);have q2:g5.IsListIter j2 m2 (n+1):=p2.extBut s5.extBut (Ne.symm d11);have zlt:Z<g5.objs.size:=Heap.lt_size z5;show wpAny _ _ (Builtin.SmallTypes.ownedTupleHandOut (.ref Z) (.ref g5.objs.size) >>= _) _ _ _;refine wpAny_bind (by
   unfold Builtin.SmallTypes.ownedTupleHandOut;have z8:IsZip (g5.push { cls:=.type "tuple",data:=.seq #[x,y] }) Z Ti To .ellipsis:=Heap.get?_push_of_some _ z5;refine wpAny_bind (wpAny_setField_rec z8 (by simp) fun g9 z9 s9=>?_);replace z9:IsZip g9 Z Ti To (rawInt g5.objs.size):=z9;refine wpAny_setField_rec z9 (by simp) fun gA zA sA=>?_;replace zA:IsZip gA Z Ti To (rawInt g5.objs.size):=zA;have up:∀c o,c≠Z->g5.get? c=some o->gA.get? c=some o:=fun c o hc q=>sA.extBut _ _ hc (s9.extBut _ _ hc (Heap.get?_push_of_some _ q));have tA:IsPair gA g5.objs.size x y:=sA.extBut _ _ (Nat.ne_of_gt zlt) (s9.extBut _ _ (Nat.ne_of_gt zlt) (Heap.get?_push_size _ rfl));rw[sz] at zA tA;refine wpAny_pure ⟨_,rfl,?_⟩;show Q (.ref g5.objs.size) _;rw[sz];refine hQ gA zA (up _ _ (Ne.symm d2) o5) ?_ (q2.at fun o q=>up _ o (Ne.symm d4) q) tA fun c o hc q=>up c o (fun z=>hc (by rw[z];simp)) (K5 c o hc q);obtain⟨oj,hj,rj⟩:=q1;exact⟨oj,up _ oj (Ne.symm d3) hj,rj⟩))
theorem y3q {Z Ti To j1 j2 m1 m2:Addr} {n:Nat} {us vs:Array Value} {a b:Value} {Q:Fin->Shared->Prop} (hh:A.handled=none) (D:Apart2 Z Ti To j1 j2 m1 m2)
  (zz:IsZip s.heap Z Ti To .none) (zI:IsPair s.heap Ti (.ref j1) (.ref j2)) (zO:IsPair s.heap To a b)
  (k1:s.heap.IsTupleIter j1 m1 n) (k2:s.heap.IsListIter j2 m2 n) (e1:s.heap.IsTuple m1 us) (e2:s.heap.IsList m2 vs) (hend:us[n]?=none∨vs[n]?=none)
  (hE:∀h' e,Kept2 Z To j1 j2 s.heap h'->(∃o,h'.get? e=some o/\o.cls=.type "StopIteration")->E (.ref e) { s with heap:=h' }) :
  wpAny (model prog w) A (Builtin.«zip.__next__» ⟨[.ref Z],[]⟩) Q E s:=by
 obtain⟨nd,ls⟩:=D;simp only [List.nodup_cons,List.mem_cons,List.not_mem_nil,or_false,not_or,not_false_eq_true,List.nodup_nil,and_true] at nd;obtain⟨⟨d1,d2,d3,d4⟩,⟨d6,d7,d8⟩,⟨d10,d11⟩,d13⟩:=nd;have l1:=ls m1 (by simp);have l2:=ls m2 (by simp);simp only [List.mem_cons,List.not_mem_nil,or_false,not_or] at l1 l2;have fin:∀ {g:Heap} {e:Addr},IsZip g Z Ti To .ellipsis->Kept2 Z To j1 j2 s.heap g->(∃o,g.get? e=some o/\o.cls=.type "StopIteration")->wpAny (model prog w) A (setField (.ref Z) 0 .none) (fun _ s'=>E (.ref e) s') E { s with heap:=g }:=fun {g e} z K he=>by
  obtain⟨o,ho,hc⟩:=he;have ez:e≠Z:=fun q=>by rw[q,z] at ho;cases ho;simp at hc
  exact wpAny_setField_rec z (by simp) fun g' _ s'=>hE g' e (K.but (by simp) s') ⟨o,s'.extBut _ _ ez ho,hc⟩
 show wpAny _ _ (field (.ref Z) 2 >>= _) _ _ _;refine wpAny_bind (wpAny_field zz rfl (x:=.bool false) rfl ?_);show wpAny _ _ (field (.ref Z) 3 >>= _) _ _ _;refine wpAny_bind (wpAny_field zz rfl (x:=.ref Ti) rfl (wpAny_bind (wpAny_seqItems zI rfl ?_)));show wpAny _ _ (Builtin.SmallTypes.ownedTupleIsFree (.ref Z) >>= _) _ _ _;refine wpAny_bind (by
  unfold Builtin.SmallTypes.ownedTupleIsFree;refine wpAny_bind (wpAny_field zz rfl (x:=.none) rfl (wpAny_pure ?_));simp only [if_true];refine wpAny_bind (wpAny_rule (wpAny_bind (wpAny_field zz rfl (x:=.ref To) rfl (wpAny_bind (wpAny_setField_rec zz (by simp) fun g1 z1 s1=>?_)))));replace z1:IsZip g1 Z Ti To .ellipsis:=z1;have K1:Kept2 Z To j1 j2 s.heap g1:=Kept2.but (fun c o _ q=>q) (by simp) s1;refine wpAny_bind ?_;simp only [List.forIn_cons,List.forIn_nil,List.zipIdx_cons,List.zipIdx_nil];cases hx:us[n]? with
  | none=>
   refine wpAny_bind (wpAny_bind (wpAny_onRaise ?_));show wpAny _ _ (Builtin.SmallTypes.nextOf (.ref j1) >>= _) _ _ _;refine wpAny_bind (z9C hh (qY k1 s1.extBut (Ne.symm d3)) (e1.extBut s1.extBut l1.1) hx fun g2 e s2 he=>?_);exact fin (s2 _ _ d3 z1) (fun c o hc q=>s2 _ _ (fun z=>hc (by rw[z];simp)) (K1 c o hc q)) he
  | some x=>
   refine wpAny_bind (wpAny_bind (wpAny_onRaise ?_));show wpAny _ _ (Builtin.SmallTypes.nextOf (.ref j1) >>= _) _ _ _;refine wpAny_bind (z0u (qY k1 s1.extBut (Ne.symm d3)) (e1.extBut s1.extBut l1.1) hx fun g2 p1 s2=>wpAny_pure ?_);have o2:IsPair g2 To a b:=s2.extBut _ _ d10 (s1.extBut _ _ (Ne.symm d2) zO);refine wpAny_bind (wpAny_seqItems o2 rfl (wpAny_bind (wpAny_updateSeq_pair o2 fun g3 o3 s3=>?_)));replace o3:IsPair g3 To x b:=o3;refine wpAny_bind (wpAny_letGo (wpAny_pure ?_));have z3:IsZip g3 Z Ti To .ellipsis:=s3.extBut _ _ d2 (s2.extBut _ _ d3 z1);have K3:=(K1.but (by simp) s2).but (by simp) s3;have hy:vs[n]?=none:=by
    rcases hend with q|q
    ·rw[hx] at q;cases q
    ·exact q
   refine wpAny_bind (wpAny_bind (wpAny_onRaise ?_));show wpAny _ _ (Builtin.SmallTypes.nextOf (.ref j2) >>= _) _ _ _;refine wpAny_bind (wpAny_nextOf_list_end hh (((k2.extBut s1.extBut (Ne.symm d4)).extBut s2.extBut (Ne.symm d13)).extBut s3.extBut (Ne.symm d11)) (((e2.extBut s1.extBut l2.1).extBut s2.extBut l2.2.2.1).extBut s3.extBut l2.2.1) hy fun g4 e s4 he=>?_);exact fin (s4 _ _ d4 z3) (fun c o hc q=>s4 _ _ (fun z=>hc (by rw[z];simp)) (K3 c o hc q)) he)
noncomputable abbrev itT (m:Addr):Obj:={ cls:=.type "tuple_iterator",data:=.fields #[.ref m,.int 0 0] }
noncomputable abbrev itL (m:Addr):Obj:={ cls:=.type "list_iterator",data:=.fields #[.ref m,.int 0 0] }
noncomputable abbrev z2d (h:Heap) (m1 m2:Addr):Heap:=((((h.push (itT m1)).push (itL m2)).push { cls:=.type "tuple",data:=.seq #[.ref h.objs.size,.ref (h.push (itT m1)).objs.size] }).push { cls:=.type "tuple",data:=.seq #[.none,.none] }).push
 { cls:=.type "zip",data:=.fields #[.none,.bool false,.bool false,.ref ((h.push (itT m1)).push (itL m2)).objs.size,.ref (((h.push (itT m1)).push (itL m2)).push { cls:=.type "tuple",data:=.seq #[.ref h.objs.size,.ref (h.push (itT m1)).objs.size] }).objs.size] }
theorem z5A (m1 m2:Addr) (us vs:Array Value) :
  Meets (Builtin.«zip.__new__» ⟨[.type "zip",.ref m1,.ref m2],[]⟩) (fun _ R s=>s.heap.IsTuple m1 us/\s.heap.IsList m2 vs/\
   R (.ok (.ret (.ref (s.heap.objs.size+4)))) { s with heap:=z2d s.heap m1 m2 }):=
 .of_wp fun prog w A R s h=>by
  obtain⟨hp,g,d,tk,os⟩:=s;obtain⟨e1,e2,h⟩:=h;have sz:=sub_zip;have L1:Heap.IsTuple (Shared.heap ⟨hp,g,d,tk,os⟩) m1 us:=e1;have L2:Heap.IsList (Shared.heap ⟨hp.push (itT m1),g,d,tk,os⟩) m2 vs:=Heap.IsList.push e2 _
  wp_walk using wpAny_pyIter_tuple L1,wpAny_pyIter_list L2
  refine⟨_,rfl,?_⟩;have e5:hp.objs.size+4=((((hp.push (itT m1)).push (itL m2)).push { cls:=.type "tuple",data:=.seq #[.ref hp.objs.size,.ref (hp.push (itT m1)).objs.size] }).push { cls:=.type "tuple",data:=.seq #[.none,.none] }).objs.size:=by simp only [Heap.size_push]
  rw[e5] at h;exact h
theorem z7k {m1 m2:Addr} {us vs:Array Value} {Q:Value->Shared->Prop} (e1:s.heap.IsTuple m1 us) (e2:s.heap.IsList m2 vs)
  (h:∀h',IsZip h' (s.heap.objs.size+4) (s.heap.objs.size+2) (s.heap.objs.size+3) .none->IsPair h' (s.heap.objs.size+2) (.ref s.heap.objs.size) (.ref (s.heap.objs.size+1))->
   IsPair h' (s.heap.objs.size+3) .none .none->h'.IsTupleIter s.heap.objs.size m1 0->h'.IsListIter (s.heap.objs.size+1) m2 0->
   (∀c o,s.heap.get? c=some o->h'.get? c=some o)->Q (.ref (s.heap.objs.size+4)) { s with heap:=h' }) :
  wpAny (model prog w) A (call (.type "zip") [.ref m1,.ref m2]) Q E s:=by
 refine callType_new F.called_zip (by decide) (F.typeCall_zip_2 _ _) (F.newCall_zip_2 _ _) (fun ob=>F.args_object_init_3 ob _ _) F.entry_zip_new (z5A m1 m2 us vs) ⟨e1,e2,?_⟩;have pk:∀ {h:Heap} {c:Addr} {o:Obj} (u:Obj),h.get? c=some o->(h.push u).get? c=some o:=fun u q=>Heap.get?_push_of_some _ q;have p1:(z2d s.heap m1 m2).get? s.heap.objs.size=some (itT m1):=pk _ (pk _ (pk _ (pk _ (Heap.get?_push_size _ rfl))));have p2:(z2d s.heap m1 m2).get? (s.heap.push (itT m1)).objs.size=some (itL m2):=pk _ (pk _ (pk _ (Heap.get?_push_size _ rfl)));have p4:(z2d s.heap m1 m2).get? ((s.heap.push (itT m1)).push (itL m2)).objs.size=some _:=pk _ (pk _ (Heap.get?_push_size _ rfl));have p5:(z2d s.heap m1 m2).get? (((s.heap.push (itT m1)).push (itL m2)).push { cls:=.type "tuple",data:=.seq #[.ref s.heap.objs.size,.ref (s.heap.push (itT m1)).objs.size] }).objs.size=some _:=pk _ (Heap.get?_push_size _ rfl);have p6:(z2d s.heap m1 m2).get? ((((s.heap.push (itT m1)).push (itL m2)).push { cls:=.type "tuple",data:=.seq #[.ref s.heap.objs.size,.ref (s.heap.push (itT m1)).objs.size] }).push { cls:=.type "tuple",data:=.seq #[.none,.none] }).objs.size=some _:=Heap.get?_push_size _ rfl;have kp:∀c o,s.heap.get? c=some o->(z2d s.heap m1 m2).get? c=some o:=fun c o q=>pk _ (pk _ (pk _ (pk _ (pk _ q))));generalize z2d s.heap m1 m2=h' at kp p1 p2 p4 p5 p6 ⊢;simp only [Heap.size_push,Nat.add_assoc,Nat.reduceAdd] at p2 p4 p5 p6;show _/\_;exact⟨⟨_,p6,rfl⟩,h _ p6 p4 p5 ⟨_,p1,rfl,rfl⟩ ⟨_,p2,rfl,rfl⟩ kp⟩
end
noncomputable def y6p (K:PySem.W.Frag) (a b:Addr) (n:Nat) (H:Hp):Prop:=∃xs ys,SqT K H a xs/\SqL K H b ys/\min xs.length ys.length=n
noncomputable def y4E (K:PySem.W.Frag) (a b:Addr) (n:Nat):It:=Itp n (y6p K a b n) fun i H u v=>(∀xs,SqT K H a xs->xs[i]?=some u)/\∀ys,SqL K H b ys->ys[i]?=some v
noncomputable def y6e (Z Ti To j1 j2 m1 m2:Addr) (i:Nat) (h:Heap):Prop:=IsZip h Z Ti To .none/\IsPair h Ti (.ref j1) (.ref j2)/\(∃a b,IsPair h To a b)/\h.IsTupleIter j1 m1 i/\h.IsListIter j2 m2 i
theorem z7r {P:Program} {w:World} {K:PySem.W.Frag} {es:List Expr} {k:Nat} {pos:Pos} {Z Ti To j1 j2 m1 m2:Addr} {n:Nat} (D:Apart2 Z Ti To j1 j2 m1 m2) :
  Turn P w K (.Tuple es k pos) (y4E K m1 m2 n) [Z,Ti,To,j1,j2] Z (y6e Z Ti To j1 j2 m1 m2) where
 mem:=by simp
 obj:=fun i h st b hb=>by
  obtain⟨h1,h2,⟨x,y,h3⟩,⟨o4,h4,_,d4⟩,⟨o5,h5,_,d5⟩⟩:=st;simp only [List.mem_cons,List.not_mem_nil,or_false] at hb;rcases hb with rfl|rfl|rfl|rfl|rfl
  ·exact⟨_,h1,fun v q=>nomatch q⟩
  ·exact⟨_,h2,fun v q=>nomatch q⟩
  ·exact⟨_,h3,fun v q=>nomatch q⟩
  ·exact⟨_,h4,fun v q=>by rw[d4] at q;cases q⟩
  ·exact⟨_,h5,fun v q=>by rw[d5] at q;cases q⟩
 keep:=fun i h h' st kk=>by
  obtain⟨h1,h2,⟨x,y,h3⟩,⟨o4,h4,r4⟩,h5⟩:=st;exact⟨kk _ (by simp) _ h1,kk _ (by simp) _ h2,⟨x,y,kk _ (by simp) _ h3⟩,⟨o4,kk _ (by simp) o4 h4,r4⟩,h5.at fun o e=>kk _ (by simp) o e⟩
 item:=by
  intro X hP hw hK hc i pins s σ H E I hf st hg;subst hP hw hK;obtain⟨hi,xs,ys,ha,hb,hn⟩:=hg;obtain⟨us,ru,pu,_⟩:=I.tuple ha;obtain⟨vs,rv,pv,_⟩:=I.list hb;have lu:=ru.length;have lv:=rv.length;obtain⟨h1,h2,⟨a,b,h3⟩,h4,h5⟩:=st;have gx:xs[i]?=some (xs[i]'(by omega)):=List.getElem?_eq_getElem (by omega);have gy:ys[i]?=some (ys[i]'(by omega)):=List.getElem?_eq_getElem (by omega);obtain⟨x,q1,rx⟩:=ru.get gx;obtain⟨y,q2,ry⟩:=rv.get gy;have nn:=D.nd;simp only [List.nodup_cons,List.mem_cons,List.not_mem_nil,or_false,not_or,not_false_eq_true,List.nodup_nil,and_true] at nn;have ty:s.TypeIs (.ref Z) "zip" :=⟨_,h1,rfl⟩
  unfold pyNext;refine wpAny_bind (wpAny_attempt (wpAny_callSpecial?_slot (name:=Str.ofString "__next__") ty F.slot_zip_next (wpAny_call_entry F.slot_zip_next ty F.entry_zip_next ?_ (F.args_zip_next_1 _))));refine y1M D h1 h2 h3 h4 h5 pu pv.isList (x:=x) (y:=y) (by simpa using q1) (by simpa using q2) fun h' a1 a2 a3 a4 a6 kk=>wpAny_pure ?_;refine⟨.ref s.heap.objs.size,rfl,wpAny_letOwnedTupleGo_zip a1 fun h2' zz2 sb=>?_⟩;have zlt:Z<s.heap.objs.size:=Heap.lt_size h1;have nT:H s.heap.objs.size=none:=I.hok.fresh (Nat.le_refl _);have K2:Kept2 Z To j1 j2 s.heap h2':=kk.but (by simp) sb;have tup2:IsTup h2' s.heap.objs.size #[x,y]:=⟨_,sb.extBut _ _ (Nat.ne_of_gt zlt) a6,rfl,_,rfl⟩
  have fpw:∀b∈[Z,To,j1,j2],b∈[Z,Ti,To,j1,j2]:=fun b hb=>by
   simp only [List.mem_cons,List.not_mem_nil,or_false] at hb ⊢;rcases hb with rfl|rfl|rfl|rfl <;> simp
  have I2:Inv X pins σ (upd H s.heap.objs.size (.tup [xs[i]'(by omega),ys[i]'(by omega)])) { s with heap:=h2',toks:=s.toks }:=
   I.turnedLaid (fun b u hb e=>K2 b u hb e) (fun b hb=>hf b (fpw b hb)) (Nat.le_refl _) ⟨show 2<=sizeLine by decide,[x,y],.cons rx (.cons ry .nil),tup2⟩
  refine⟨.ref s.heap.objs.size,_,I2,rfl,⟨s.heap.objs.size,_,_,nT,rfl,rfl,fun ws hz=>by rw[I.tuple_inj hz ha];exact gx,fun ws hz=>by rw[I.list_inj hz hb];exact gy⟩,?_,fun b hb=>?_⟩
  ·refine⟨zz2,K2 _ _ ?_ h2,⟨x,y,sb.extBut _ _ (Ne.symm nn.1.2.1) a2⟩,qY a3 sb.extBut (Ne.symm nn.1.2.2.1),a4.extBut sb.extBut (Ne.symm nn.1.2.2.2)⟩;simp only [List.mem_cons,List.not_mem_nil,or_false,not_or];exact⟨Ne.symm nn.1.1,nn.2.1.1,nn.2.1.2.1,nn.2.1.2.2⟩
  ·have lt:b<s.heap.objs.size:=by
    obtain⟨o4,h4,_⟩:=h4;obtain⟨o5,h5,_⟩:=h5;simp only [List.mem_cons,List.not_mem_nil,or_false] at hb;rcases hb with rfl|rfl|rfl|rfl|rfl
    ·exact Heap.lt_size h1
    ·exact Heap.lt_size h2
    ·exact Heap.lt_size h3
    ·exact Heap.lt_size h4
    ·exact Heap.lt_size h5
   rw[za (Nat.ne_of_lt lt)];exact (hf b hb).1
 done:=by
  intro X hP hw hK hc i pins s σ H E I hf st hg;subst hP hw hK;obtain⟨hi,xs,ys,ha,hb,hn⟩:=hg;obtain⟨us,ru,pu,_⟩:=I.tuple ha;obtain⟨vs,rv,pv,_⟩:=I.list hb;have lu:=ru.length;have lv:=rv.length;obtain⟨h1,h2,⟨a,b,h3⟩,h4,h5⟩:=st;have fpw:∀b∈[Z,To,j1,j2],b∈[Z,Ti,To,j1,j2]:=fun b hb=>by
   simp only [List.mem_cons,List.not_mem_nil,or_false] at hb ⊢;rcases hb with rfl|rfl|rfl|rfl <;> simp
  have hend:us.toArray[i]?=none∨vs.toArray[i]?=none:=by
   by_cases c1:us.length<=i
   ·exact .inl (by simpa using c1)
   ·exact .inr (by
     have:vs.length<=i:=by omega
     simpa using this)
  have ty:s.TypeIs (.ref Z) "zip" :=⟨_,h1,rfl⟩
  unfold pyNext;refine wpAny_bind (wpAny_attempt (wpAny_callSpecial?_slot (name:=Str.ofString "__next__") ty F.slot_zip_next (wpAny_call_entry F.slot_zip_next ty F.entry_zip_next ?_ (F.args_zip_next_1 _))));refine y3q (I.ok.hd hc) D h1 h2 h3 h4 h5 pu pv.isList hend fun h' e kk ⟨o,ho,hcl⟩=>?_;exact wpAny_bind (wpAny_isInstance (T:= "StopIteration") (b:=true) ⟨o,ho,hcl⟩ isSubtype_stop (wpAny_pure ⟨rfl,I.turnedL (t':=s.toks) (fun b u hb e=>kk b u hb e) fun b hb=>hf b (fpw b hb)⟩))
 self:=fun A i s Q E st h=>wpAny_pyIter_zip st.1 h
noncomputable def y5D (K:PySem.W.Frag) (ta tb:TE):TI:=fun σ H R=>ta σ H fun x H1=>tb σ H1 fun y H2=>∃a b xs ys,x=.ref a/\y=.ref b/\SqT K H2 a xs/\SqL K H2 b ys/\R (y4E K a b (min xs.length ys.length)) H2
theorem y5U {I m1 m2:Nat} (h1:m1<I) (h2:m2<I):Apart2 (I+4) (I+2) (I+3) I (I+1) m1 m2:=by
 refine⟨?_,fun m hm=>?_⟩
 ·simp only [List.nodup_cons,List.mem_cons,List.not_mem_nil,or_false,not_or,not_false_eq_true,List.nodup_nil,and_true];refine⟨⟨?_,?_,?_,?_⟩,⟨?_,?_,?_⟩,⟨?_,?_⟩,?_⟩ <;> (intro (z:(_:Nat)=_);omega)
 ·simp only [List.mem_cons,List.not_mem_nil,or_false,not_or] at hm ⊢;rcases hm with rfl|rfl <;> refine⟨?_,?_,?_,?_⟩ <;> (intro (z:(_:Nat)=_);omega)
section
variable {X:Cx} {es:List Expr} {k:Nat} {tpos:Pos}
theorem y3L {l m:Expr} {tl tm:TE} {p pos:Pos} (hg:Gl X "zip") (hm:X.mg "zip" = none) (hl:PE X l tl) (hq:PE X m tm) (hs:starEach [l,m] X.env=[(false,eval l X.env),(false,eval m X.env)]:=by rfl) (hs2:starEach [m] X.env=[(false,eval m X.env)]:=by rfl) :
  PI X (.Tuple es k tpos) (.Call (.Name "zip" p) [l,m] [] pos) (y5D X.K tl tm):=by
 intro pins s σ H R I h;refine Call_ (jr I hg hm PyProof.Rows.boot_zip (PyProof.Rows.callWith_type1 ?_ (by rw[hs,hs2]) (by rw[hs2];rfl)));refine thn ((zB hl (zB hq zD hs2) (by rw[hs,hs2])) pos pins s σ H (fun vs H2=>∃(x y:V),vs=[x,y]/\∃a b xs ys,x=.ref a/\y=.ref b/\SqT X.K H2 a xs/\SqL X.K H2 b ys/\R (y4E X.K a b (min xs.length ys.length)) H2) I ?_) fun us s1 ⟨vs,H1,I1,r,x,y,e,a,b,xs,ys,ea,eb,ha,hb,q⟩=>?_
 ·show tl σ H fun x H1=>tm σ H1 fun y H2=>∃x' y',[x,y]=[x',y']/\_;have e:(fun (x:V) (H1:Hp)=>tm σ H1 fun y H2=>∃x' y',[x,y]=[x',y']/\∃a b xs ys,x'=V.ref a/\y'=.ref b/\SqT X.K H2 a xs/\SqL X.K H2 b ys/\R (y4E X.K a b (min xs.length ys.length)) H2) =
    fun (x:V) (H1:Hp)=>tm σ H1 fun y H2=>∃a b xs ys,x=V.ref a/\y=.ref b/\SqT X.K H2 a xs/\SqL X.K H2 b ys/\R (y4E X.K a b (min xs.length ys.length)) H2:=by
   funext x H1;congr 1;funext y H2;refine propext ⟨fun⟨x',y',e,q⟩=>?_,fun q=>⟨x,y,rfl,q⟩⟩;cases e;exact q
  rw[e];exact h
 subst e ea eb;obtain⟨u,v,rfl,r1,r2⟩:=Vals.two r;cases r1;cases r2;obtain⟨us,ru,pu,_⟩:=I1.tuple ha;obtain⟨vs,rv,pv,_⟩:=I1.list hb;have la:a<s1.heap.objs.size:=by obtain⟨o,e,_⟩:=pu;exact Heap.lt_size e
 have lb:b<s1.heap.objs.size:=by obtain⟨o,e,_⟩:=pv.isList;exact Heap.lt_size e
 refine z7k pu pv.isList fun h' hz hTI hTO hi1 hi2 hk=>?_;refine wpAny_pyIter_zip hz ?_;have I2:Inv X pins σ H1 { s1 with heap:=h' }:=I1.kept (t':=s1.toks) hk;refine⟨_,_,_,_,H1,rfl,I2,z7r (y5U la lb),⟨hz,hTI,⟨_,_,hTO⟩,hi1,hi2⟩,fun c hc=>?_,q⟩;have hc':s1.heap.objs.size<=c:=by
  simp only [List.mem_cons,List.not_mem_nil,or_false] at hc;rcases hc with rfl|rfl|rfl|rfl|rfl <;> first|exact Nat.le_refl _|exact Nat.le_add_right _ _
 exact I1.fpOk hc' (I1.hok.fresh hc')
end
theorem z6c {K:PySem.W.Frag} {ta tb:TE} {σ:St} {H:Hp} {R:It->Hp->Prop}:y5D K ta tb σ H R=ta σ H fun x H1=>tb σ H1 fun y H2=>∃a b xs ys,x=.ref a/\y=.ref b/\SqT K H2 a xs/\SqL K H2 b ys/\R (y4E K a b (min xs.length ys.length)) H2:=rfl
theorem z9v {K:PySem.W.Frag} {a b:Addr} {xs ys:List V} {g:TG} {tb:TS} {D:Ends} {σ:St} {H:Hp} (Pv:Nat->St->Hp->Prop) (h0:Pv 0 σ H) (hl:∀i σ H,Pv i σ H->SqT K H a xs/\SqL K H b ys)
  (hs:∀i u v T σ H,xs[i]?=some u->ys[i]?=some v->H T=none->Pv i σ H->g (.ref T) σ (upd H T (.tup [u,v])) fun σ2 H2=>tb { D with nx:=Pv (i+1),ct:=Pv (i+1),bk:=D.nx } σ2 H2)
  (hd:∀σ H,Pv (min xs.length ys.length) σ H->D.nx σ H):y2j (y4E K a b (min xs.length ys.length)) g tb D σ H:=by
 refine⟨fun i m σ H=>m=min xs.length ys.length-i/\i<=min xs.length ys.length/\Pv i σ H,⟨_,rfl,Nat.zero_le _,h0⟩,?_⟩;rintro i m σ1 H1 ⟨rfl,hi,p⟩;obtain⟨qa,qb⟩:=hl i σ1 H1 p;by_cases hlt:i<min xs.length ys.length
 ·refine .inr ⟨⟨hlt,xs,ys,qa,qb,rfl⟩,Pv (i+1),fun σ' H' p'=>⟨min xs.length ys.length-(i+1),by omega,rfl,hlt,p'⟩,fun x H' y=>?_⟩;obtain⟨T,u,v,nT,rfl,rfl,f1,f2⟩:=y;exact hs i u v T σ1 H1 (f1 xs qa) (f2 ys qb) nT p
 ·have e:i=min xs.length ys.length:=by omega
  refine .inl ⟨⟨e,xs,ys,qa,qb,rfl⟩,hd σ1 H1 ?_⟩;rw[←e];exact p
section
variable {X:Cx} {k:Nat} {C:Addr} {ps:List Str} {sp:Sp} {m:Str} {pos apos:Pos} {e o:Expr} {es:List Expr} {ta:TE} {t:TA}
theorem y4m {x:Str} {p:Pos} (h:HasM X.prog X.w X.K X.mg X.base k C "__init__" ps sp) (mk:PySem.W.makesIn X.K C=true) (kc:PySem.W.keepIn X.K (.ref C)=true) (hr:Room (k+1) X.A) (hg:Gl X x) (hm:X.mg x=some (.ref C)) (hdb:(x == ("__debug__" : Str))=false:=by decide) :
  PE X (.Call (.Name x p) [] [] pos) (z8F C sp [] E0 y0j):=by
 obtain⟨f,fd,F,hb,hM⟩:=h;exact y1D ⟨mk,hM.at_,hM.fn,kc⟩ F hr hg hm (.all hb) .nil z8u hdb
end
noncomputable def isB (c:Bool):Value->Bool
 | .bool b=>b == c
 | _=>false
theorem z4J {c:Bool}:∀ {bs:List Bool} {its:List Value},Vals (bs.map V.bl) its->its.any (isB c)=bs.contains c/\∀(A:Around) (s:Shared),∀y∈its,SeqAt.EqAt A s y (.bool c) (isB c y)
 | [],_,.nil=>⟨rfl,fun _ _ y hy=>nomatch hy⟩
 | y::bs,_,.cons r rs=>by
  cases r;obtain⟨a,b⟩:=z4J (c:=c) rs;refine⟨?_,fun A s v hv=>?_⟩
  ·rw[List.any_cons,List.contains_cons,a];congr 1;show (y == c)=(c == y)
   rw[Bool.eq_iff_iff,beq_iff_eq,beq_iff_eq];exact⟨Eq.symm,Eq.symm⟩
  ·rcases List.mem_cons.mp hv with rfl|hv
   ·exact SeqAt.EqAt.bool_bool y c
   ·exact b A s v hv
theorem z8w {X:Cx}:OpR X (compareOp .NotIn) (fun x y H Q=>∃(c:Bool) (a:Addr) (bs:List Bool),x=.bl c/\y=.ref a/\SqL X.K H a (bs.map V.bl)/\Q (.bl (!bs.contains c)) H):=by
 intro pins s σ H x y v u Q I rx ry h;obtain⟨c,a,bs,rfl,rfl,hq,q⟩:=h;cases rx;cases ry;obtain⟨its,rv,it,_⟩:=I.list hq;obtain⟨e1,e2⟩:=z4J (c:=c) rv;refine SeqAt.notIn_listAt (isB c) it.isList (fun y hy=>e2 _ _ y (by simpa using hy)) ?_;rw[List.any_toArray,e1];exact⟨.bl _,H,I,rfl,q⟩
theorem y1x {c:Bool} {bs:List Bool} {its:List Value} (h:Vals (bs.map V.bl) its):∀y,y∈its.toArray->MeetsSeq.EqGives y (.bool c) (isB c y):=fun y hy=>by
 have hy':y∈its:=by simpa using hy
 obtain⟨i,hi,rfl⟩:=List.getElem_of_mem hy';have hl:=h.length;rw[List.length_map] at hl;obtain⟨u,e1,r2⟩:=h.get (i:=i) (x:=.bl (bs[i]'(by omega))) (by rw[List.getElem?_map,List.getElem?_eq_getElem (by omega)];rfl);rw[List.getElem?_eq_getElem hi] at e1;cases e1;have e2:its[i]=Value.bool (bs[i]'(by omega)):=r2;rw[e2];intro prog w A E s Q hq;exact SeqAt.EqAt.bool_bool _ _ prog w E Q hq
noncomputable def y3E:V->List V->Hp->VK->Prop:=fun x vs H Q=>∃(l:Addr) (bs:List Bool) (j:Nat) (c:Bool),x=.ref l/\vs=[.bl c]/\H l=some (.lst (bs.map V.bl))/\bs[j]?=some c/\(∀i,i<j->bs[i]?=some (!c))/\Q (.int (j:Int)) H
theorem z9H {X:Cx}:MtM X "list.index" y3E:=by
 intro pins s σ H x vs v us Q I rx rv h;obtain⟨l,bs,j,c,rfl,rfl,hH,hj,hn,q⟩:=h;cases rx;obtain⟨u,rfl,ru⟩:=rv.one;cases ru;obtain⟨z,its,n,r,hl,e⟩:=I.lstM hH;rw[List.length_map] at hl z;have hjl:j<bs.length:=(List.getElem?_eq_some_iff.mp hj).1;have at_:∀i (hi:i<its.length),its[i]=.bool (bs[i]'(by omega)):=fun i hi=>by
  obtain⟨u,e1,r2⟩:=r.get (i:=i) (x:=.bl (bs[i]'(by omega))) (by rw[List.getElem?_map,List.getElem?_eq_getElem (by omega)];rfl);rw[List.getElem?_eq_getElem hi] at e1;cases e1;exact r2
 have hz:bs.length<=16777216:=by rw[sizeLine_eq] at z;exact z
 refine call_meets PySem.F.slot_list_index ⟨_,e,rfl⟩ PySem.F.entry_list_index (PySem.F.args_list_index_2 _ _)
  (MeetsSeq.list_index l its.toArray n (.bool c) (isB c) (y1x r) j (by rw[List.size_toArray];omega) (by omega) ?_ (fun m hm hlt=>?_)) ⟨e,?_⟩
 ·rw[List.getElem_toArray,at_ j (by omega)];have:=(List.getElem?_eq_some_iff.mp hj).2;rw[this];show (c == c)=true;simp
 ·rw[List.size_toArray] at hm;rw[List.getElem_toArray,at_ m (by omega)];have:=(List.getElem?_eq_some_iff.mp (hn m hlt)).2;rw[this];cases c <;> rfl
 ·exact⟨.int (j:Int),H,I.tok _,⟨_,rfl⟩,q⟩
end L2
set_option maxHeartbeats 4000000
open PySem L2 SM
local macro_rules | `(tactic| walk_at "wp")=>`(tactic| try simp only [z4Q,z4Y,z4e,z2S,z4S,z1G,z1J,vA,z1Q,z1P,y2q,z7z,z7y,z8D,z8A,z8g,y3F,y3D,z4u,z4t,z1F,y2r,y3p,z9z,y0A,z4f,z8C,z4V,z1U,z4U,z1I,z8G,z4W,z1R,z4P,z4X,z1T,z8K,wz,z4T,z9y,z4d,z9Y,z8B,kd,z1H,z8L,z4c,z1E,z5X,z2T,z5Y,z4Z,z2B,z2A,z1y,z1z,z1x,z2C,z4R,z2D,z5F,z5H,z5E,z1w,z2E,vm,z5G,z4a,z5C,z1t,z1O,z4b,z4s,kx,z1L,z1N,qZ,z1K,z1M,z1S,z5D,L2.qc,y0I,z2X,z0C,List.map_cons,List.map_nil,List.length_cons,List.length_nil,List.replicate,List.cons_append,List.nil_append,List.append_nil,List.set_cons_zero,List.set_cons_succ,decide_eq_true_eq,Bool.not_eq_true',decide_eq_false_iff_not,Bool.not_eq_eq_eq_not,Bool.not_true,Bool.not_false,sizeLine_eq,oV,reduceCtorEq,z9V,z9W,z9U,z9X,Nat.reduceAdd,Nat.reduceSub,Nat.reduceLeDiff,Nat.zero_add,true_and,and_true,forall_const,Bool.false_eq_true,if_true,if_false,false_implies,true_implies,not_false_eq_true,not_true_eq_false,implies_true])
seal L2.PSs L2.PS L2.PE L2.PT L2.PA L2.PI L2.PG L2.PTs L2.PW L2.OpR
theorem L2.pA {p:Prop} (h:∀G:Prop,(p->G)->G):p:=h p id
theorem L2.bnd1 {P:List PySem.Value->Prop} (h:∀a:PySem.Value,P [a]):∀us:List PySem.Value,us.length=1->P us
 | [a],_=>h a
theorem L2.bnd2 {P:List PySem.Value->Prop} (h:∀a b:PySem.Value,P [a,b]):∀us:List PySem.Value,us.length=2->P us
 | [a,b],_=>h a b
theorem L2.bnd3 {P:List PySem.Value->Prop} (h:∀a b c:PySem.Value,P [a,b,c]):∀us:List PySem.Value,us.length=3->P us
 | [a,b,c],_=>h a b c
theorem L2.bnd4 {P:List PySem.Value->Prop} (h:∀a b c d:PySem.Value,P [a,b,c,d]):∀us:List PySem.Value,us.length=4->P us
 | [a,b,c,d],_=>h a b c d
theorem L2.bnd5 {P:List PySem.Value->Prop} (h:∀a b c d e:PySem.Value,P [a,b,c,d,e]):∀us:List PySem.Value,us.length=5->P us
 | [a,b,c,d,e],_=>h a b c d e
theorem L2.bnd6 {P:List PySem.Value->Prop} (h:∀a b c d e f:PySem.Value,P [a,b,c,d,e,f]):∀us:List PySem.Value,us.length=6->P us
 | [a,b,c,d,e,f],_=>h a b c d e f
namespace SMk91
open PySem L2 SM
noncomputable def top (i:Nat):Stmt:=PySem.Challenge.pw_shiftmeet_k91_whole_sure_or_lonely.main.body.getD i (.Pass ⟨0,0,0,0⟩)
noncomputable abbrev vW:Stmt:=top 10
noncomputable abbrev jN:Stmt:=top 11
noncomputable abbrev jg:Stmt:=top 12
noncomputable abbrev qo:Stmt:=top 18
noncomputable abbrev vX:Stmt:=top 19
noncomputable abbrev jm:Stmt:=top 20
noncomputable abbrev vP:Stmt:=top 22
noncomputable abbrev qm:Stmt:=top 23
noncomputable abbrev z4r:Stmt:=top 24
noncomputable abbrev vO:Stmt:=top 26
noncomputable abbrev jb:Stmt:=top 27
noncomputable abbrev ki:Stmt:=top 29
noncomputable abbrev xU:Stmt:=top 30
noncomputable abbrev je:Stmt:=top 31
noncomputable abbrev vS:Stmt:=top 34
noncomputable abbrev qe:Stmt:=top 35
noncomputable abbrev xk:Stmt:=top 36
noncomputable abbrev vT:Stmt:=top 37
noncomputable abbrev jM:Stmt:=top 38
noncomputable abbrev z8a:Stmt:=top 41
noncomputable abbrev jQ:Stmt:=top 42
noncomputable abbrev xT:Stmt:=top 43
noncomputable abbrev z4q:Stmt:=top 44
noncomputable abbrev vQ:Stmt:=top 45
noncomputable abbrev xS:Stmt:=top 47
noncomputable abbrev z1h:Stmt:=top 48
noncomputable abbrev vR:Stmt:=top 49
noncomputable abbrev xl:Stmt:=top 52
noncomputable abbrev xV:Stmt:=top 53
noncomputable abbrev qg:Stmt:=top 54
noncomputable abbrev jc:Stmt:=top 55
noncomputable abbrev jd:Stmt:=top 56
noncomputable abbrev qf:Stmt:=top 64
noncomputable abbrev jK:Stmt:=top 65
noncomputable abbrev jL:Stmt:=top 66
noncomputable abbrev ji:Stmt:=top 67
noncomputable abbrev jJ:Stmt:=top 68
noncomputable abbrev ja:Stmt:=top 69
noncomputable abbrev kh:Stmt:=top 78
noncomputable abbrev z8b:Stmt:=top 79
noncomputable abbrev vV:Stmt:=top 80
noncomputable abbrev vU:Stmt:=top 81
noncomputable abbrev qd:Stmt:=top 82
noncomputable abbrev jH:Stmt:=top 83
noncomputable abbrev jI:Stmt:=top 84
noncomputable abbrev jP:Stmt:=top 88
noncomputable abbrev kq:Stmt:=top 89
noncomputable abbrev km:Stmt:=top 90
noncomputable abbrev ql:Stmt:=top 91
noncomputable abbrev kr:Stmt:=top 92
noncomputable abbrev qj:Stmt:=top 93
noncomputable abbrev jO:Stmt:=top 94
noncomputable abbrev qi:Stmt:=top 95
noncomputable abbrev qh:Stmt:=top 96
noncomputable abbrev kj:Stmt:=top 97
noncomputable abbrev ym:Stmt:=top 98
noncomputable abbrev qk:Stmt:=top 99
noncomputable abbrev y7:Stmt:=top 100
noncomputable abbrev ko:Stmt:=top 101
noncomputable abbrev y3C:Stmt:=top 102
noncomputable abbrev yS:Stmt:=jV (top 70) 0
noncomputable abbrev zk:Stmt:=jV (top 70) 1
noncomputable abbrev zq:Stmt:=jV (top 70) 2
noncomputable abbrev yI:Stmt:=jV (top 70) 3
noncomputable abbrev yh:Stmt:=jV (top 70) 4
noncomputable abbrev y8:Stmt:=jV (top 70) 5
noncomputable abbrev xW:Stmt:=jV (top 77) 0
noncomputable abbrev qp:Stmt:=jV (top 77) 1
noncomputable abbrev xm:Stmt:=jV (top 77) 2
theorem qF:FnScope ["one", "other", "rest"] ["one", "other"] (zG vW):=⟨rfl,rfl,rfl,by decide +kernel,rfl,by decide +kernel,by decide +kernel⟩
theorem yy:FnScope ["numbers", "whole", "number"] ["numbers"] (zG jN):=⟨rfl,rfl,rfl,by decide +kernel,rfl,by decide +kernel,by decide +kernel⟩
theorem xL:FnScope ["number", "small", "part"] ["number"] (zG jg):=⟨rfl,rfl,rfl,by decide +kernel,rfl,by decide +kernel,by decide +kernel⟩
theorem yD:FnScope ["start", "step", "whole", "many", "low", "levels", "high", "hit", "rest"] ["start", "step", "whole", "many"] (zG qo):=⟨rfl,rfl,rfl,by decide +kernel,rfl,by decide +kernel,by decide +kernel⟩
theorem xp:FnScope ["levels", "hit", "whole", "step", "low"] ["levels", "hit"] (zG vX):=⟨rfl,rfl,rfl,by decide +kernel,rfl,by decide +kernel,by decide +kernel⟩
theorem z1g:FnScope ["number", "by"] ["number", "by"] (zG jm):=⟨rfl,rfl,rfl,by decide +kernel,rfl,by decide +kernel,by decide +kernel⟩
theorem qD:FnScope ["rows", "period", "first", "length"] ["rows"] (zG vP):=⟨rfl,rfl,rfl,by decide +kernel,rfl,by decide +kernel,by decide +kernel⟩
theorem z3F:FnScope ["period", "first", "length"] ["period", "first", "length"] (zG qm):=⟨rfl,rfl,rfl,by decide +kernel,rfl,by decide +kernel,by decide +kernel⟩
theorem wg:FnScope ["plan", "turn", "period", "first", "length"] ["plan", "turn"] (zG z4r):=⟨rfl,rfl,rfl,by decide +kernel,rfl,by decide +kernel,by decide +kernel⟩
theorem z7D:FnScope ["plan", "by"] ["plan", "by"] (zG vO):=⟨rfl,rfl,rfl,by decide +kernel,rfl,by decide +kernel,by decide +kernel⟩
theorem z1d:FnScope ["plan"] ["plan"] (zG jb):=⟨rfl,rfl,rfl,by decide +kernel,rfl,by decide +kernel,by decide +kernel⟩
theorem z4m:FnScope ["one", "other", "shift", "turn"] ["one", "other", "shift", "turn"] (zG ki):=⟨rfl,rfl,rfl,by decide +kernel,rfl,by decide +kernel,by decide +kernel⟩
theorem yf:FnScope ["one", "other", "shift", "turn", "turns", "waking", "beside"] ["one", "other", "shift", "turn"] (zG xU):=⟨rfl,rfl,rfl,by decide +kernel,rfl,by decide +kernel,by decide +kernel⟩
theorem jE:FnScope ["waking", "beside", "turn", "begin", "rounds"] ["waking", "beside", "turn"] (zG je):=⟨rfl,rfl,rfl,by decide +kernel,rfl,by decide +kernel,by decide +kernel⟩
theorem qE:FnScope ["waking", "part", "period", "length", "common"] ["waking", "part"] (zG vS):=⟨rfl,rfl,rfl,by decide +kernel,rfl,by decide +kernel,by decide +kernel⟩
theorem xA:FnScope ["plan", "part", "paper", "by", "number", "below"] ["plan", "part", "paper"] (zG qe):=⟨rfl,rfl,rfl,by decide +kernel,rfl,by decide +kernel,by decide +kernel⟩
theorem vL:FnScope ["part", "by", "number"] ["part", "by", "number"] (zG xk):=⟨rfl,rfl,rfl,by decide +kernel,rfl,by decide +kernel,by decide +kernel⟩
theorem z7G:FnScope ["plan", "paper"] ["plan", "paper"] (zG vT):=⟨rfl,rfl,rfl,by decide +kernel,rfl,by decide +kernel,by decide +kernel⟩
theorem yx:FnScope ["paper", "names", "below"] ["paper"] (zG jM):=⟨rfl,rfl,rfl,by decide +kernel,rfl,by decide +kernel,by decide +kernel⟩
theorem z4p:FnScope ["plan", "whole", "turn"] ["plan"] (zG z8a):=⟨rfl,rfl,rfl,by decide +kernel,rfl,by decide +kernel,by decide +kernel⟩
theorem z0N:FnScope ["plan"] ["plan"] (zG jQ):=⟨rfl,rfl,rfl,by decide +kernel,rfl,by decide +kernel,by decide +kernel⟩
theorem yF:FnScope ["plan", "part", "near", "k", "met", "by", "papers"] ["plan", "part", "near"] (zG xT):=⟨rfl,rfl,rfl,by decide +kernel,rfl,by decide +kernel,by decide +kernel⟩
theorem y0t:FnScope ["waking", "part"] ["waking", "part"] (zG z4q):=⟨rfl,rfl,rfl,by decide +kernel,rfl,by decide +kernel,by decide +kernel⟩
theorem z7E:FnScope ["waking", "part"] ["waking", "part"] (zG vQ):=⟨rfl,rfl,rfl,by decide +kernel,rfl,by decide +kernel,by decide +kernel⟩
theorem xH:FnScope ["one", "other", "common", "first"] ["one", "other"] (zG xS):=⟨rfl,rfl,rfl,by decide +kernel,rfl,by decide +kernel,by decide +kernel⟩
theorem vK:FnScope ["one", "other", "plan", "waking"] ["one", "other"] (zG z1h):=⟨rfl,rfl,rfl,by decide +kernel,rfl,by decide +kernel,by decide +kernel⟩
theorem z7F:FnScope ["one", "other", "k"] ["one", "other", "k"] (zG vR):=⟨rfl,rfl,rfl,by decide +kernel,rfl,by decide +kernel,by decide +kernel⟩
theorem vM:FnScope ["one", "other"] ["one", "other"] (zG xl):=⟨rfl,rfl,rfl,by decide +kernel,rfl,by decide +kernel,by decide +kernel⟩
theorem w5:FnScope ["one", "other"] ["one", "other"] (zG xV):=⟨rfl,rfl,rfl,by decide +kernel,rfl,by decide +kernel,by decide +kernel⟩
theorem z3D:FnScope ["one", "other", "paper"] ["one", "other", "paper"] (zG qg):=⟨rfl,rfl,rfl,by decide +kernel,rfl,by decide +kernel,by decide +kernel⟩
theorem z1e:FnScope ["one", "other", "paper"] ["one", "other", "paper"] (zG jc):=⟨rfl,rfl,rfl,by decide +kernel,rfl,by decide +kernel,by decide +kernel⟩
theorem kL:FnScope ["one", "other", "k", "pair"] ["one", "other", "k"] (zG jd):=⟨rfl,rfl,rfl,by decide +kernel,rfl,by decide +kernel,by decide +kernel⟩
theorem wT:FnScope ["text", "words"] ["text"] (zG qf):=⟨rfl,rfl,rfl,by decide +kernel,rfl,by decide +kernel,by decide +kernel⟩
theorem qW:FnScope ["word", "numbers"] ["word"] (zG jK):=⟨rfl,rfl,rfl,by decide +kernel,rfl,by decide +kernel,by decide +kernel⟩
theorem z0L:FnScope ["text"] ["text"] (zG jL):=⟨rfl,rfl,rfl,by decide +kernel,rfl,by decide +kernel,by decide +kernel⟩
theorem z1f:FnScope ["text", "most"] ["text", "most"] (zG ji):=⟨rfl,rfl,rfl,by decide +kernel,rfl,by decide +kernel,by decide +kernel⟩
theorem yw:FnScope ["paper", "number", "papers"] ["paper"] (zG jJ):=⟨rfl,rfl,rfl,by decide +kernel,rfl,by decide +kernel,by decide +kernel⟩
theorem jD:FnScope ["text", "reader", "paper"] ["text"] (zG ja):=⟨rfl,rfl,rfl,by decide +kernel,rfl,by decide +kernel,by decide +kernel⟩
theorem xQ:FnScope ["row", "form", "words", "place", "word"] ["row"] (zG kh):=⟨rfl,rfl,rfl,by decide +kernel,rfl,by decide +kernel,by decide +kernel⟩
theorem y3B:FnScope ["place", "word"] ["place", "word"] (zG z8b):=⟨rfl,rfl,rfl,by decide +kernel,rfl,by decide +kernel,by decide +kernel⟩
theorem z7I:FnScope ["word"] ["word"] (zG vV):=⟨rfl,rfl,rfl,by decide +kernel,rfl,by decide +kernel,by decide +kernel⟩
theorem z7H:FnScope ["word"] ["word"] (zG vU):=⟨rfl,rfl,rfl,by decide +kernel,rfl,by decide +kernel,by decide +kernel⟩
theorem z3C:FnScope ["words"] ["words"] (zG qd):=⟨rfl,rfl,rfl,by decide +kernel,rfl,by decide +kernel,by decide +kernel⟩
theorem z0K:FnScope ["turn"] ["turn"] (zG jH):=⟨rfl,rfl,rfl,by decide +kernel,rfl,by decide +kernel,by decide +kernel⟩
theorem yc:FnScope ["one", "other", "paper", "shift", "wait", "text"] ["one", "other"] (zG jI):=⟨rfl,rfl,rfl,by decide +kernel,rfl,by decide +kernel,by decide +kernel⟩
theorem z0M:FnScope ["script", "k"] ["script", "k"] (zG jP):=⟨rfl,rfl,rfl,by decide +kernel,rfl,by decide +kernel,by decide +kernel⟩
theorem yg:FnScope ["script", "at", "whole", "plan", "k", "parts", "cell", "period", "length"] ["script", "at", "whole"] (zG kq):=⟨rfl,rfl,rfl,by decide +kernel,rfl,by decide +kernel,by decide +kernel⟩
theorem z4n:FnScope ["plan"] ["plan"] (zG km):=⟨rfl,rfl,rfl,by decide +kernel,rfl,by decide +kernel,by decide +kernel⟩
theorem z3E:FnScope ["plan", "turn"] ["plan", "turn"] (zG ql):=⟨rfl,rfl,rfl,by decide +kernel,rfl,by decide +kernel,by decide +kernel⟩
theorem z4o:FnScope ["one", "other", "shift", "turn"] ["one", "other", "shift", "turn"] (zG kr):=⟨rfl,rfl,rfl,by decide +kernel,rfl,by decide +kernel,by decide +kernel⟩
theorem j8:FnScope ["one", "other", "whole", "table", "shift"] ["one", "other", "whole"] (zG qj):=⟨rfl,rfl,rfl,by decide +kernel,rfl,by decide +kernel,by decide +kernel⟩
theorem qX:FnScope ["one", "other"] ["one", "other"] (zG jO):=⟨rfl,rfl,rfl,by decide +kernel,rfl,by decide +kernel,by decide +kernel⟩
theorem xa:FnScope ["one", "other", "whole", "tables", "mine", "yours"] ["one", "other", "whole"] (zG qi):=⟨rfl,rfl,rfl,by decide +kernel,rfl,by decide +kernel,by decide +kernel⟩
theorem x9:FnScope ["tables", "whole", "step", "rest", "paper", "by", "k"] ["tables", "whole", "step", "rest", "paper"] (zG qh):=⟨rfl,rfl,rfl,by decide +kernel,rfl,by decide +kernel,by decide +kernel⟩
theorem jF:FnScope ["one", "other", "paper", "mine", "yours"] ["one", "other", "paper"] (zG kj):=⟨rfl,rfl,rfl,by decide +kernel,rfl,by decide +kernel,by decide +kernel⟩
theorem xR:FnScope ["word", "sign"] ["word"] (zG ym):=⟨rfl,rfl,rfl,by decide +kernel,rfl,by decide +kernel,by decide +kernel⟩
theorem wU:FnScope ["cell", "number"] ["cell"] (zG qk):=⟨rfl,rfl,rfl,by decide +kernel,rfl,by decide +kernel,by decide +kernel⟩
theorem yW:FnScope ["desk", "one", "other", "shift", "turn", "most", "told", "k"] ["desk", "one", "other", "shift", "turn", "most"] (zG y7):=⟨rfl,rfl,rfl,by decide +kernel,rfl,by decide +kernel,by decide +kernel⟩
theorem yr:FnScope ["desk", "one", "other", "whole", "answer", "pairs", "parts", "wait", "paper", "shift", "turn"] ["desk", "one", "other", "whole", "answer", "pairs"] (zG ko):=⟨rfl,rfl,rfl,by decide +kernel,rfl,by decide +kernel,by decide +kernel⟩
theorem xo:FnScope ["script", "whole", "one", "other", "desk", "cells", "pairs", "meets_v", "answer", "lonely", "shift", "turn", "far"] ["script"] (zG y3C):=⟨rfl,rfl,rfl,by decide +kernel,rfl,by decide +kernel,by decide +kernel⟩
theorem jG:FnScope ["self", "text"] ["self", "text"] (zG yS):=⟨rfl,rfl,rfl,by decide +kernel,rfl,by decide +kernel,by decide +kernel⟩
theorem yH:FnScope ["self", "above", "by"] ["self", "above"] (zG zk):=⟨rfl,rfl,rfl,by decide +kernel,rfl,by decide +kernel,by decide +kernel⟩
theorem yZ:FnScope ["self", "above", "papers"] ["self", "above"] (zG zq):=⟨rfl,rfl,rfl,by decide +kernel,rfl,by decide +kernel,by decide +kernel⟩
theorem y4:FnScope ["self", "begin"] ["self"] (zG yI):=⟨rfl,rfl,rfl,by decide +kernel,rfl,by decide +kernel,by decide +kernel⟩
theorem qO:FnScope ["self", "signs"] ["self", "signs"] (zG yh):=⟨rfl,rfl,rfl,by decide +kernel,rfl,by decide +kernel,by decide +kernel⟩
theorem j9:FnScope ["self", "signs"] ["self", "signs"] (zG y8):=⟨rfl,rfl,rfl,by decide +kernel,rfl,by decide +kernel,by decide +kernel⟩
theorem w6:FnScope ["self", "text"] ["self"] (zG xW):=⟨rfl,rfl,rfl,by decide +kernel,rfl,by decide +kernel,by decide +kernel⟩
theorem xB:FnScope ["self", "row", "words", "paper", "one", "other"] ["self", "row"] (zG qp):=⟨rfl,rfl,rfl,by decide +kernel,rfl,by decide +kernel,by decide +kernel⟩
theorem vN:FnScope ["self", "name"] ["self", "name"] (zG xm):=⟨rfl,rfl,rfl,by decide +kernel,rfl,by decide +kernel,by decide +kernel⟩
section
variable {P:Program} {w:World} {K:PySem.W.Frag} {mg:Str->Option Value} {base:Heap}
noncomputable def xO:Sp:=fun vs H Q _=>∃a b:Int,vs=[.int a,.int b]/\0<=a/\0<=b/\Q (.int (zg a b)) H
theorem z9p (T:TF K mg "divisor" vW):Has P w K mg base 1 "divisor" ["one", "other"] xO:=by
 refine T.has qF (fun _ _ _ _ _ _=>L2.bnd2 fun _ _=>rfl) (fun vs H Q E h=>?_) (fun f cdv A outer s H vs Q E hr h=>?_)
 ·refine pA fun Ga hC=>?_;obtain⟨a,b,rfl,_⟩:=h;refine hC ?_;rfl
 refine pA fun Gb hJ=>?_;obtain⟨a,b,rfl,ha,hb,q⟩:=h;refine hJ ?_;refine⟨_,(zC (qG PassesOwn.never (zN kQ (pv 1) zF (zX _)) (zC (zR (i:=2) qF.nd rfl (Or.inl rfl) (zW yE (pv 0) (pv 1))) (zC (zR (i:=0) qF.nd rfl (Or.inl rfl) (pv 1)) (zE (zR (i:=1) qF.nd rfl (Or.inl rfl) (pv 2)))))) (zE (zK (pv 0)))),?_⟩;walk_at "wp";obtain⟨W,hW⟩:∃W:Nat->St->Hp->Prop,W=fun m σ H'=>∃(x y:Int) (r:Option V),σ=[some (.int x),some (.int y),r]/\H'=H/\0<=x/\0<=y/\zg x y=zg a b/\m=y.toNat:=⟨_,rfl⟩
 refine⟨W,⟨b.toNat,by rw[hW];exact⟨a,b,none,rfl,rfl,ha,hb,rfl,rfl⟩⟩,fun m σ H' h=>?_⟩;rw[hW] at h;refine pA fun Gc hU=>?_;obtain⟨x,y,r,rfl,rfl,hx,hy,e,rfl⟩:=h;refine hU ?_;walk_at "wp";refine⟨fun c=>?_,fun c=>?_⟩
 ·have m1:=Int.emod_nonneg x c;have m2:=Int.emod_lt_of_pos x (show 0<y by omega);refine⟨_,fun _ _ h=>h,?_⟩;walk_at "wp";refine⟨by omega,(x%y).toNat,by omega,?_⟩;rw[hW];exact⟨y,x%y,_,rfl,rfl,hy,m1,by rw[kX,e],rfl⟩
 ·have c':y=0:=by omega
  subst c';rw[z0A hx] at e;rw[e];exact q
theorem y1A {x:Int} {n k:Nat} (h0:0<=x) (h:x<=(2^n)^k):x.natAbs<2^(n*k+1):=by
 rw[←Int.pow_mul] at h;have e:((2^(n*k):Nat):Int)=2^(n*k):=by rw[Int.natCast_pow];rfl
 rw[←e] at h;rw[Nat.pow_succ];have:0<2^(n*k):=Nat.pow_pos (by decide);omega
noncomputable def xi (K:PySem.W.Frag):Sp:=fun vs H Q _=>∃(L:Addr) (zs:List Int),vs=[.ref L]/\SqL K H L (zs.map V.int)/\zs.length<=200/\(∀z∈zs,1<=z/\z<=2^1000)/\Q (.int (yp zs)) H
theorem y1a {zs:List Int} {z:Int} (hl:zs.length<=200) (h:∀z∈zs,1<=z/\z<=2^1000) (z0:0<=z) (z1:z<=2^1000):IntMulOk (yp zs) z:=by
 have p1:=xM (xs:=zs) fun x hx=>(h x hx).1;have p2:=y3b (B:=2^1000) (by decide) h;exact mok (1000*zs.length+1) 1001 (y1A (by omega) p2) (by omega) (by omega)
theorem z2N (T:TF K mg "least_round" jN) (G_divisor:Has P w K mg base 1 "divisor" ["one", "other"] xO):Has P w K mg base 2 "least_round" ["numbers"] (xi K):=by
 refine T.has yy (fun _ _ _ _ _ _=>L2.bnd1 fun _=>rfl) (fun vs H Q E h=>?_) (fun f cdv A outer s H vs Q E hr h=>?_)
 ·refine pA fun Ge hV=>?_;obtain⟨a,b,rfl,_⟩:=h;refine hV ?_;rfl
 refine pA fun Gf gC=>?_;obtain⟨L,zs,rfl,hS,hl,hz,q⟩:=h;refine gC ?_;refine⟨_,(zC (zR (i:=1) yy.nd rfl (Or.inl rfl) zF) (zC (y6 PassesOwn.never rfl (yC (pv 0)) (zQ (i:=2) yy.nd rfl (Or.inl rfl)) (zE (zR (i:=1) yy.nd rfl (Or.inl rfl) (zW xY (pv 1) (zW yz (pv 2) (zL (G_divisor.mono (by first|decide|omega)) hr (zB (pv 1) (zB (pv 2) zD)))))))) (zE (zK (pv 1))))),?_⟩;walk_at "wp";refine⟨⟨_,hS⟩,?_⟩;obtain⟨W,hW⟩:∃W:Nat->St->Hp->Prop,W=fun i σ H'=>∃o,σ=[some (.ref L),some (.int (yp (zs.take i))),o]/\H'=H:=⟨_,rfl⟩
 refine yR (xs:=zs.map V.int) W ?_ (fun j σ H2 _ z=>?_) (fun j x σ H2 hx z=>?_) (fun σ H2 z=>?_)
 ·rw[hW];exact⟨_,rfl,rfl⟩
 ·rw[hW] at z;refine pA fun Gg gE=>?_;obtain⟨_,_,rfl⟩:=z;refine gE ?_;exact hS
 ·rw[hW] at z;refine pA fun Gh gF=>?_;obtain⟨o,rfl,rfl⟩:=z;refine gF ?_;rw[List.getElem?_map] at hx;refine pA fun Gi gG=>?_;obtain⟨x,hy,rfl⟩:=Option.map_eq_some_iff.mp hx;refine gG ?_;have hx1:=hz x (List.mem_of_getElem? hy);have ht:∀z∈zs.take j,1<=z/\z<=2^1000:=fun z hz'=>hz z (List.mem_of_mem_take hz');have p1:=xM (xs:=zs.take j) fun x hx=>(ht x hx).1;have lt:(zs.take j).length<=200:=by rw[List.length_take];omega
  have gp:=yK (a:=yp (zs.take j)) (b:=x) (by omega);have gl:zg (yp (zs.take j)) x<=x:=by rw[z0B];exact yM _ (by omega)
  walk_at "wp";refine⟨_,_,rfl,by omega,by omega,?_⟩;walk_at "wp";refine⟨y0b 1001 gp (by omega) (by decide),y1a lt ht (Int.ediv_nonneg (by omega) (by omega)) (Int.le_trans (Int.ediv_le_self _ (by omega)) hx1.2),?_⟩;rw[hW];refine⟨some (.int x),?_,rfl⟩;rw[List.take_add_one,hy];show _=[_,some (V.int (yp (zs.take j++[x]))),_]
  rw[z9N];rfl
 ·rw[hW] at z;refine pA fun Gj gH=>?_;obtain⟨o,rfl,rfl⟩:=z;refine gH ?_;rw[List.length_map,List.take_length];walk_at "wp";exact q
noncomputable def kK:Sp:=fun vs H Q _=>∃n:Int,vs=[.int n]/\2<=n/\n<2^60/\∀d H',IsPart n d->Same H H'->Q (.int d) H'
theorem y0n {q n:Int} (h0:0<=q) (h:q*q<=n) (hn:n<2^60):q<2^30:=by
 by_cases c:q<2^30
 ·exact c
 ·exfalso;have:=Int.mul_le_mul (show (2:Int)^30<=q by omega) (show (2:Int)^30<=q by omega) (by decide) h0;omega
theorem y5m {q:Int} (h0:1<=q):q<=q*q:=by
 have:=Int.mul_le_mul_of_nonneg_left h0 (show 0<=q by omega);omega
theorem z3l (T:TF K mg "least_part" jg):Has P w K mg base 1 "least_part" ["number"] kK:=by
 refine T.has xL (fun _ _ _ _ _ _=>L2.bnd1 fun _=>rfl) (fun vs H Q E h=>?_) (fun f cdv A outer s H vs Q E hr h=>?_)
 ·refine pA fun Gk gI=>?_;obtain⟨a,rfl,_⟩:=h;refine gI ?_;rfl
 refine pA fun Gm gJ=>?_;obtain⟨n,rfl,h2,h60,q⟩:=h;refine gJ ?_;refine⟨_,(zC (y6 PassesOwn.never rfl (y2R (xq (zB zF (zB zF zD)))) (zQ (i:=1) xL.nd rfl (Or.inl rfl)) (zE (zi (zN xE (zW yE (pv 0) (pv 1)) zF (zX _)) (zE (zK (pv 1))) zM))) (zC (zR (i:=2) xL.nd rfl (Or.inl rfl) zF) (zC (qG PassesOwn.never (zN z1n (zW xY (pv 2) (pv 2)) (pv 0) (zX _)) (zC (zi (zN xE (zW yE (pv 0) (pv 2)) zF (zX _)) (zE (zK (pv 2))) zM) (zC (zi (zN xE (zW yE (pv 0) (zW ye (pv 2) zF)) zF (zX _)) (zE (zK (zW ye (pv 2) zF))) zM) (zE (y4g (i:=2) xL.nd rfl (Or.inl rfl) zF y5C))))) (zE (zK (pv 0)))))),?_⟩;walk_at "wp";intro p hp;have g:Same H (upd H p (.tup [.int 2,.int 3])):=zJ hp _;refine⟨⟨_,SqT.of zH⟩,?_⟩;obtain⟨W,hW⟩:∃W:Nat->St->Hp->Prop,W=fun i σ H'=>∃o,σ=[some (.int n),o,none]/\H'=upd H p (.tup [.int 2,.int 3])/\(1<=i->n%2≠0)/\(2<=i->n%3≠0):=⟨_,rfl⟩
 refine y1q (xs:=[.int 2,.int 3]) W (by rw[hW];exact⟨none,rfl,rfl,by omega,by omega⟩) (fun i σ H' _ h=>?_) (fun i x σ H' hx h=>?_) (fun σ H' h=>?_)
 ·rw[hW] at h;refine pA fun Gn gK=>?_;obtain⟨_,_,rfl,_⟩:=h;refine gK ?_;exact SqT.of zH
 ·rw[hW] at h;refine pA fun Go gL=>?_;obtain⟨o,rfl,rfl,k2,k3⟩:=h;refine gL ?_
  match i,hx with
  | 0,hx=>
   cases hx;walk_at "wp";refine⟨by decide,fun c=>q 2 _ ⟨by decide,Int.dvd_of_emod_eq_zero c,fun d d1 d2=>by omega⟩ g,fun c=>?_⟩;rw[hW];exact⟨_,rfl,rfl,fun _=>c,by omega⟩
  | 1,hx=>
   cases hx;walk_at "wp";refine⟨by decide,fun c=>q 3 _ ⟨by decide,Int.dvd_of_emod_eq_zero c,fun d d1 d2=>?_⟩ g,fun c=>?_⟩
   ·have:d=2:=by omega
    subst this;exact yG (k2 (by omega))
   ·rw[hW];exact⟨_,rfl,rfl,fun _=>k2 (by omega),fun _=>c⟩
  | i+2,hx=>simp at hx
 ·rw[hW] at h;refine pA fun Gp gM=>?_;obtain⟨o,rfl,rfl,k2,k3⟩:=h;refine gM ?_;have k2:=k2 (by decide);have k3:=k3 (by decide);walk_at "wp";obtain⟨Z,hZ⟩:∃Z:Nat->St->Hp->Prop,Z=fun m σ H'=>∃(q:Int),σ=[some (.int n),o,some (.int q)]/\H'=upd H p (.tup [.int 2,.int 3])/\NoPart n q/\q%6=5/\5<=q/\q<2^31/\m=(n+6-q).toNat:=⟨_,rfl⟩
  refine⟨Z,⟨(n+6-5).toNat,by rw[hZ];exact⟨5,rfl,rfl,NoPart.five k2 k3,by decide,by decide,by decide,rfl⟩⟩,fun m σ H' h=>?_⟩;rw[hZ] at h;refine pA fun Gq gN=>?_;obtain⟨t,rfl,rfl,np,t6,t5,t31,rfl⟩:=h;refine gN ?_;walk_at "wp";refine⟨y4H (by omega) (by omega),fun c=>?_,fun c=>?_⟩
  ·have tl:=y0n (by omega) c h60;have tg:=y5m (show 1<=t by omega);refine⟨_,fun _ _ h=>h,?_⟩;walk_at "wp";refine⟨by omega,fun c1=>q t _ ⟨by omega,Int.dvd_of_emod_eq_zero c1,np⟩ g,fun c1=>⟨by omega,fun c2=>q (t+2) _ ⟨by omega,Int.dvd_of_emod_eq_zero c2,np.two_on k2 t6 c1⟩ g,fun c2=>?_⟩⟩;refine⟨(n+6-(t+6)).toNat,by omega,?_⟩;rw[hZ];exact⟨t+6,rfl,rfl,np.six k2 k3 t6 c1 c2,by omega,by omega,by omega,rfl⟩
  ·exact q n _ (vj h2 np (by omega) (by omega)) g
noncomputable def awk (w:T3) (t:Int):Bool:=decide ((t-w.2.1)%w.1<w.2.2)
noncomputable def zx (ws:List T3) (t:Int):Bool:=ws.any fun w=>awk w t
noncomputable def z1Z (K:PySem.W.Frag):Sp:=fun vs H Q _=>∃(a:Addr) (t:Int) (xs:List V) (ws:List T3),vs=[.ref a,.int t]/\SqL K H a xs/\Pl H xs ws/\(∀u∈ws,1<=u.1)/\Q (.bl (zx ws t)) H
theorem y2H {α:Type} {f:α->Bool} {l:List α} {i:Nat} {x:α} (e:l[i]?=some x):(l.take (i+1)).any f=((l.take i).any f || f x):=by
 rw[List.take_add_one,e,List.any_append];simp
theorem y2G {α:Type} {f:α->Bool} {l:List α} {i:Nat} {x:α} (e:l[i]?=some x) (h:f x=true):l.any f=true:=List.any_eq_true.mpr ⟨x,List.mem_of_getElem? e,h⟩
theorem z9r (T:TF K mg "awake" z4r):Has P w K mg base 1 "awake" ["plan", "turn"] (z1Z K):=by
 refine T.has wg (fun _ _ _ _ _ _=>L2.bnd2 fun _ _=>rfl) (fun vs H Q E h=>?_) (fun f cdv A outer s H vs Q E hr h=>?_)
 ·refine pA fun Gr gO=>?_;obtain⟨a,t,xs,ws,rfl,_⟩:=h;refine gO ?_;rfl
 refine pA fun Gs gP=>?_;obtain⟨a,t,xs,ws,rfl,hS,hP,hw,q⟩:=h;refine gP ?_;refine⟨_,(zC (y6 PassesOwn.never rfl (yC (pv 0)) (kO rfl (zm (zQ (i:=2) wg.nd rfl (Or.inl rfl)) (zm (zQ (i:=3) wg.nd rfl (Or.inl rfl)) (zm (zQ (i:=4) wg.nd rfl (Or.inl rfl)) jT)))) (zE (zi (zN wa (zW yE (zW xD (pv 1) (pv 3)) (pv 2)) (pv 4) (zX _)) (zE (zK xC)) zM))) (zE (zK xC))),?_⟩;walk_at "wp";refine⟨⟨_,hS⟩,?_⟩;obtain⟨W,hW⟩:∃W:Nat->St->Hp->Prop,W=fun i σ H'=>∃o1 o2 o3:Option V,σ=[some (.ref a),some (.int t),o1,o2,o3]/\H'=H/\(ws.take i).any (fun w=>awk w t)=false:=⟨_,rfl⟩
 refine yR (xs:=xs) W ?_ (fun i σ H' _ z=>?_) (fun i x σ H' hx z=>?_) (fun σ H' z=>?_)
 ·rw[hW];exact⟨none,none,none,rfl,rfl,rfl⟩
 ·rw[hW] at z;refine pA fun Gu gQ=>?_;obtain⟨_,_,_,_,rfl,_⟩:=z;refine gQ ?_;exact hS
 ·rw[hW] at z;refine pA fun Gv gR=>?_;obtain⟨o1,o2,o3,rfl,rfl,ha⟩:=z;refine gR ?_;refine pA fun Gw gS=>?_;obtain⟨p,u,e1,rfl,e3⟩:=hP.at hx;refine gS ?_;refine⟨p,_,rfl,SqT.of e3,rfl,?_⟩;have u1:=hw u (List.mem_of_getElem? e1);walk_at "wp";refine⟨by omega,fun c=>?_,fun c=>?_⟩
  ·have e:zx ws t=true:=y2G e1 (decide_eq_true c);rw[e] at q;exact q
  ·rw[hW];exact⟨_,_,_,rfl,rfl,by rw[y2H e1,ha];exact decide_eq_false c⟩
 ·rw[hW] at z;refine pA fun Gx gU=>?_;obtain⟨o1,o2,o3,rfl,rfl,ha⟩:=z;refine gU ?_;rw[hP.1,List.take_length] at ha;walk_at "wp";have e:zx ws t=false:=ha;rw[e] at q;exact q
noncomputable def kG (K:PySem.W.Frag):Sp:=fun vs H Q _=>∃(a:Addr) (xs:List V) (ws:List T3),vs=[.ref a]/\SqL K H a xs/\Pl H xs ws/\(∀u∈ws,1<=u.1/\u.1<=2^1000)/\ws.length<=200/\∀H',Same H H'->Q (.int (yp (ws.map (·.1)))) H'
theorem z3g (T:TF K mg "plan_round" jb) (G_least_round:Has P w K mg base 2 "least_round" ["numbers"] (xi K)):Has P w K mg base 3 "plan_round" ["plan"] (kG K):=by
 refine T.has z1d (fun _ _ _ _ _ _=>L2.bnd1 fun _=>rfl) (fun vs H Q E h=>?_) (fun f cdv A outer s H vs Q E hr h=>?_)
 ·refine pA fun Gy gW=>?_;obtain⟨a,xs,ws,rfl,_⟩:=h;refine gW ?_;rfl
 refine pA fun Gz gX=>?_;obtain⟨a,xs,ws,rfl,hS,hP,hw,hlen,q⟩:=h;refine gX ?_;refine⟨_,(zE (zK (zL (G_least_round.mono (by first|decide|omega)) hr (zB (ya (CompSc.none (own:=["period", "first", "length"]) (by decide +kernel) (by decide +kernel) rfl (by decide +kernel)) rfl (yC (pv 0)) (fun _ _ _=>(show PG _ _ (y5w K 3 (z3n (jW 0) (z3n (jW 1) (z3n (jW 2) y5a)))) from kO (n:=3) rfl (zm (zQ (i:=0) (show (["period", "first", "length"]:List Str).Nodup from by decide +kernel) rfl (Or.inl rfl) (Or.inr rfl)) (zm (zQ (i:=1) (show (["period", "first", "length"]:List Str).Nodup from by decide +kernel) rfl (Or.inl rfl) (Or.inr rfl)) (zm (zQ (i:=2) (show (["period", "first", "length"]:List Str).Nodup from by decide +kernel) rfl (Or.inl rfl) (Or.inr rfl)) jT))))) (fun _ _ _=>yX) (fun _ _ _=>(pv 0))) zD)))),?_⟩;walk_at "wp";refine⟨⟨_,hS⟩,?_⟩;obtain⟨Sv,hSv⟩:∃Sv:St->Prop,Sv=fun σ=>∃o1 o2 o3,σ=[o1,o2,o3]:=⟨_,rfl⟩
 obtain⟨Pv,hPv⟩:∃Pv:Addr->Nat->List V->Hp->Prop,Pv=fun D i ys H2=>H D=none/\Same H H2/\ys=((ws.take i).map (·.1)).map V.int:=⟨_,rfl⟩
 refine yL (xs:=xs) Sv Pv (by rw[hSv];exact⟨none,none,none,rfl⟩) (fun D hD=>?_) (fun D i ys H2 hD h=>?_) (fun D i x ys σ H2 hx hi hs hD hy h=>?_) (fun D ys H2 hD h=>?_)
 ·rw[hPv];exact⟨hD,zJ hD _,rfl⟩
 ·rw[hPv] at h;exact h.2.1.seq hS
 ·rw[hSv] at hs;rw[hPv] at h;refine pA fun G0 gZ=>?_;obtain⟨o1,o2,o3,rfl⟩:=hs;refine gZ ?_;refine pA fun Ga hC=>?_;obtain⟨nD,g,rfl⟩:=h;refine hC ?_;refine pA fun Gb hJ=>?_;obtain⟨p,u,e1,rfl,e3⟩:=hP.at hx;refine hJ ?_;rw[hP.1] at hi;refine⟨p,_,rfl,SqT.of (g _ _ e3),rfl,?_⟩;walk_at "wp";refine CompP.mk hD hy (by rw[sizeLine_eq];omega) (by rw[hSv];exact⟨_,_,_,rfl⟩) (by
   rw[hPv];refine⟨nD,g.write nD _,?_⟩;rw[List.take_add_one,e1];simp)
 ·rw[hPv] at h;refine pA fun Gc hU=>?_;obtain⟨nD,g,rfl⟩:=h;refine hU ?_;rw[hP.1,List.take_length] at hD;walk_at "wp";refine⟨D,ws.map (·.1),rfl,SqL.of hD,by simpa using hlen,fun z hz=>?_,q _ g⟩;refine pA fun Ge hV=>?_;obtain⟨u,hu,rfl⟩:=List.mem_map.mp hz;refine hV ?_;exact hw u hu
theorem kB {ws:List T3} {L:Int} (h:∀u∈ws,u.1∣L) (t:Int):zx ws (t+L)=zx ws t:=by
 unfold zx;refine Bool.eq_iff_iff.mpr ?_;rw[List.any_eq_true,List.any_eq_true];have e:∀u∈ws,awk u (t+L)=awk u t:=fun u hu=>by
  obtain⟨k,hk⟩:=h u hu;have e1:t+L-u.2.1=(t-u.2.1)+u.1*k:=by omega
  unfold awk;rw[e1,Int.add_mul_emod_self_left]
 exact⟨fun⟨u,hu,z⟩=>⟨u,hu,by rw[e u hu] at z;exact z⟩,fun⟨u,hu,z⟩=>⟨u,hu,by rw[e u hu];exact z⟩⟩
noncomputable def x5 (ws:List T3) (n:Nat):Option Int:=((List.range n).find? fun i:Nat=>!zx ws (i:Int)).map fun i:Nat=>(i:Int)
theorem z7U {ws:List T3} {n i:Nat} (hi:i<n) (h:zx ws (i:Int)=false) (hb:∀j:Nat,j<i->zx ws (j:Int)=true):x5 ws n=some (i:Int):=by
 unfold x5;rw[List.find?_range_eq_some.mpr ⟨by simp [h],List.mem_range.mpr hi,fun j hj=>by simp [hb j hj]⟩];rfl
theorem z7V {ws:List T3} {n:Nat} (h:∀i:Nat,i<n->zx ws (i:Int)=true):x5 ws n=none:=by
 unfold x5;rw[List.find?_range_eq_none.mpr fun i hi=>by simp [h i hi]];rfl
theorem qK {ws:List T3} {n:Nat}:(∃i:Nat,x5 ws n=some (i:Int)/\i<n/\zx ws (i:Int)=false/\∀j:Nat,j<i->zx ws (j:Int)=true)∨(x5 ws n=none/\∀i:Nat,i<n->zx ws (i:Int)=true):=by
 cases e:(List.range n).find? fun i:Nat=>!zx ws (i:Int) with
 | none=>
  right;refine⟨by unfold x5;rw[e];rfl,fun i hi=>?_⟩;have:=List.find?_range_eq_none.mp e i hi;simpa using this
 | some i=>
  left;refine pA fun Gf gC=>?_;obtain⟨h1,h2,h3⟩:=List.find?_range_eq_some.mp e;refine gC ?_;refine⟨i,by unfold x5;rw[e];rfl,List.mem_range.mp h2,by simpa using h1,fun j hj=>by simpa using h3 j hj⟩
noncomputable def z4i (K:PySem.W.Frag):Sp:=fun vs H Q _=>∃(a:Addr) (xs:List V) (ws:List T3),vs=[.ref a]/\SqL K H a xs/\Pl H xs ws/\(∀u∈ws,1<=u.1/\u.1<=2^1000)/\ws.length<=200/\yp (ws.map (·.1))<=5000/\∀H',Same H H'->Q (oV (x5 ws (yp (ws.map (·.1))).toNat)) H'
theorem y5K (T:TF K mg "hole" z8a) (m_range:mg "range" = none) (c_LONGEST_ROUND:CI mg "LONGEST_ROUND" 5000) (G_plan_round:Has P w K mg base 3 "plan_round" ["plan"] (kG K)) (G_awake:Has P w K mg base 1 "awake" ["plan", "turn"] (z1Z K)):Has P w K mg base 4 "hole" ["plan"] (z4i K):=by
 refine T.has z4p (fun _ _ _ _ _ _=>L2.bnd1 fun _=>rfl) (fun vs H Q E h=>?_) (fun f cdv A outer s H vs Q E hr h=>?_)
 ·refine pA fun Gg gE=>?_;obtain⟨a,xs,ws,rfl,_⟩:=h;refine gE ?_;rfl
 refine pA fun Gh gF=>?_;obtain⟨a,xs,ws,rfl,hS,hP,hw,hlen,hL,q⟩:=h;refine gF ?_;refine⟨_,(zC (zR (i:=1) z4p.nd rfl (Or.inl rfl) (zL (G_plan_round.mono (by first|decide|omega)) hr (zB (pv 0) zD))) (zC (zi (zN z7M (pv 1) (z1m rfl c_LONGEST_ROUND) (zX _)) (zE yT) zM) (zC (y6 PassesOwn.never rfl (xX rfl m_range (zB (pv 1) zD)) (zQ (i:=2) z4p.nd rfl (Or.inl rfl)) (zE (zi (xc (yd (zL (G_awake.mono (by first|decide|omega)) hr (zB (pv 0) (zB (pv 2) zD))) (fun _=>rfl))) (zE (zK (pv 2))) zM))) (zE (zK jZ))))),?_⟩;walk_at "wp";refine⟨a,xs,ws,rfl,hS,hP,hw,hlen,fun H1 g1=>?_⟩;have L1:=xM (xs:=ws.map (·.1)) fun z hz=>by
  refine pA fun Gi gG=>?_;obtain⟨u,hu,rfl⟩:=List.mem_map.mp hz;refine gG ?_;exact (hw u hu).1
 generalize yp (ws.map (·.1))=L at hL L1 q;walk_at "wp";refine⟨fun c=>by omega,fun _=>⟨_,rfl,by omega,by omega,?_⟩⟩;obtain⟨W,hW⟩:∃W:Nat->St->Hp->Prop,W=fun i σ H'=>∃o:Option V,σ=[some (.ref a),some (.int L),o]/\H'=H1/\∀j:Nat,j<i->zx ws (j:Int)=true:=⟨_,rfl⟩
 refine xx W ?_ (fun i σ H' hi z=>?_) (fun σ H' z=>?_)
 ·rw[hW];exact⟨none,rfl,rfl,fun j hj=>absurd hj (Nat.not_lt_zero _)⟩
 ·rw[hW] at z;refine pA fun Gj gH=>?_;obtain⟨o,rfl,rfl,hj⟩:=z;refine gH ?_;have e0:(0:Int)+(i:Int)=i:=by omega
  walk_at "wp";rw[e0];refine⟨_,_,xs,ws,rfl,g1.seq hS,hP.same g1,fun u hu=>(hw u hu).1,?_⟩;cases c:zx ws (i:Int) with
  | true=>
   walk_at "wp";rw[hW];refine⟨_,rfl,rfl,fun j hj2=>?_⟩;rcases Nat.lt_succ_iff_lt_or_eq.mp hj2 with z|z
   ·exact hj j z
   ·rw[z];exact c
  | false=>
   walk_at "wp";have q1:=q H' g1;rw[z7U hi c hj] at q1;exact q1
 ·rw[hW] at z;refine pA fun Gk gI=>?_;obtain⟨o,rfl,rfl,hj⟩:=z;refine gI ?_;walk_at "wp";have q1:=q H' g1;rw[z7V hj] at q1;exact q1
noncomputable def y5g (s r:Int):HO:=.tup [.int s,.int r]
noncomputable def kg (K:PySem.W.Frag):Sp:=fun vs H Q _=>∃(p p2:Addr) (u:T3) (s r:Int),vs=[.ref p,.ref p2]/\H p=some (z4N u)/\SqT K H p2 [.int s,.int r]/\1<=u.1/\1<=s/\Q (.bl (qv u s r)) H
theorem z9l (T:TF K mg "lies_in" vS) (G_divisor:Has P w K mg base 1 "divisor" ["one", "other"] xO):Has P w K mg base 2 "lies_in" ["waking", "part"] (kg K):=by
 refine T.has qE (fun _ _ _ _ _ _=>L2.bnd2 fun _ _=>rfl) (fun vs H Q E h=>?_) (fun f cdv A outer s H vs Q E hr h=>?_)
 ·refine pA fun Gm gJ=>?_;obtain⟨p,p2,u,s,r,rfl,_⟩:=h;refine gJ ?_;rfl
 refine pA fun Gn gK=>?_;obtain⟨p,p2,u,st,r,rfl,hp,hp2,u1,s1,q⟩:=h;refine gK ?_;refine⟨_,(zC (zR (i:=2) qE.nd rfl (Or.inl rfl) (zU zZ (pv 0) zF (fun _ _=>rfl))) (zC (zR (i:=3) qE.nd rfl (Or.inl rfl) (zU zZ (pv 0) zF (fun _ _=>rfl))) (zC (zR (i:=4) qE.nd rfl (Or.inl rfl) (zL (G_divisor.mono (by first|decide|omega)) hr (zB (zU zZ (pv 1) zF (fun _ _=>rfl)) (zB (pv 2) zD)))) (zE (zK (jU y4q (zW yE (zW xD (zW xD (zU zZ (pv 1) zF (fun _ _=>rfl)) (zU zZ (pv 0) zF (fun _ _=>rfl))) (pv 3)) (pv 4)) (zW xD (pv 2) (pv 3)) (zX _))))))),?_⟩;have hT:SqT K H p [.int u.1,.int u.2.1,.int u.2.2]:=SqT.of hp;have hT2:SqT K H p2 [.int st,.int r]:=hp2;have gp:=yK (a:=st) (b:=u.1) (by omega);walk_at "wp";refine⟨_,_,_,.int u.1,rfl,rfl,hT,rfl,?_⟩;refine⟨_,_,_,.int u.2.2,rfl,rfl,hT,rfl,?_⟩;refine⟨_,_,_,.int st,rfl,rfl,hT2,rfl,?_⟩;walk_at "wp";refine⟨_,_,rfl,by omega,by omega,?_⟩;refine⟨_,_,_,.int r,rfl,rfl,hT2,rfl,?_⟩;refine⟨_,_,_,.int u.2.1,rfl,rfl,hT,rfl,?_⟩;walk_at "wp";refine⟨gp,?_⟩;exact q
theorem y2T (x:Int) {m:Int} (h:0<m):0<=x%m/\x%m<m:=⟨Int.emod_nonneg _ (by omega),Int.emod_lt_of_pos _ h⟩
theorem wq {Pz:Int->Prop} {zs:List Int} {i:Nat} (h:∀z∈zs,Pz z) (hi:i<zs.length):Pz (zs.getD i 0):=by
 rw[List.getD_eq_getElem?_getD,List.getElem?_eq_getElem hi];exact h _ (List.getElem_mem hi)
noncomputable def z8S (K:PySem.W.Frag):Sp:=fun vs H Q _=>∃(p p2:Addr) (u v:T3),vs=[.ref p,.ref p2]/\SqT K H p [.int u.1,.int u.2.1,.int u.2.2]/\SqT K H p2 [.int v.1,.int v.2.1,.int v.2.2]/\1<=u.1/\1<=v.1/\∀(t:Addr) (H':Hp),Same H H'->H t=none->H' t=some (z4N (sh2 u v))->Q (.ref t) H'
theorem vq (T:TF K mg "shifts_of_two" xS) (m_min:mg "min" = none) (G_divisor:Has P w K mg base 1 "divisor" ["one", "other"] xO):Has P w K mg base 2 "shifts_of_two" ["one", "other"] (z8S K):=by
 refine T.has xH (fun _ _ _ _ _ _=>L2.bnd2 fun _ _=>rfl) (fun vs H Q E h=>?_) (fun f cdv A outer s H vs Q E hr h=>?_)
 ·refine pA fun Go gL=>?_;obtain⟨p,p2,u,v,rfl,_⟩:=h;refine gL ?_;rfl
 refine pA fun Gp gM=>?_;obtain⟨p,p2,u,v,rfl,hT,hT2,u1,v1,q⟩:=h;refine gM ?_;refine⟨_,(zC (zR (i:=2) xH.nd rfl (Or.inl rfl) (zL (G_divisor.mono (by first|decide|omega)) hr (zB (zU zZ (pv 0) zF (fun _ _=>rfl)) (zB (zU zZ (pv 1) zF (fun _ _=>rfl)) zD)))) (zC (zR (i:=3) xH.nd rfl (Or.inl rfl) (zW yE (zW xD (zW xD (zU zZ (pv 0) zF (fun _ _=>rfl)) (zU zZ (pv 1) zF (fun _ _=>rfl))) (zW xD (zU zZ (pv 1) zF (fun _ _=>rfl)) zF)) (pv 2))) (zE (zK (xq (zB (pv 2) (zB (pv 3) (zB (zY (y0R rfl) rfl m_min (by decide +kernel) (zB (pv 2) (zB (zW xD (zW ye (zU zZ (pv 0) zF (fun _ _=>rfl)) (zU zZ (pv 1) zF (fun _ _=>rfl))) zF) zD))) zD)))))))),?_⟩;have gp:=yK (a:=u.1) (b:=v.1) (by omega);walk_at "wp";refine⟨_,_,_,.int u.1,rfl,rfl,hT,rfl,?_⟩;refine⟨_,_,_,.int v.1,rfl,rfl,hT2,rfl,?_⟩;refine⟨_,_,rfl,by omega,by omega,?_⟩;refine⟨_,_,_,.int u.2.1,rfl,rfl,hT,rfl,?_⟩;refine⟨_,_,_,.int v.2.1,rfl,rfl,hT2,rfl,?_⟩;walk_at "wp";refine⟨_,_,_,.int v.2.2,rfl,rfl,hT2,rfl,?_⟩;walk_at "wp";refine⟨gp,?_⟩;refine⟨_,_,_,.int u.2.2,rfl,rfl,hT,rfl,?_⟩;refine⟨_,_,_,.int v.2.2,rfl,rfl,hT2,rfl,?_⟩;walk_at "wp";refine⟨_,_,rfl,?_⟩;walk_at "wp";intro t nt;exact q t _ (zJ nt _) nt zH
noncomputable def shs (ws vs:List T3):List T3:=ws.flatMap fun u=>vs.map (sh2 u)
theorem z6E {ws vs:List T3} {i:Nat} {u:T3} (e:ws[i]?=some u):shs (ws.take (i+1)) vs=shs (ws.take i) vs++vs.map (sh2 u):=by
 unfold shs;rw[List.take_add_one,e,List.flatMap_append];simp
theorem jC:∀ws vs:List T3,(shs ws vs).length=ws.length*vs.length
 | [],vs=>by simp [shs]
 | u::ws,vs=>by
  have:=jC ws vs;unfold shs at *
  rw[List.flatMap_cons,List.length_append,this,List.length_map,List.length_cons,Nat.succ_mul];omega
theorem wD {ws vs:List T3} {x:T3}:x∈shs ws vs ↔ ∃u∈ws,∃v∈vs,sh2 u v=x:=by
 unfold shs;simp only [List.mem_flatMap,List.mem_map]
theorem z3B {ws vs:List T3} (hw:∀u∈ws,Wk u) (hv:∀v∈vs,Wk v):∀x∈shs ws vs,Wk x:=fun x hx=>by
 refine pA fun Gq gN=>?_;obtain⟨u,hu,v,hv2,rfl⟩:=wD.mp hx;refine gN ?_;exact y4Y (hw u hu) (hv v hv2)
noncomputable def kF (K:PySem.W.Frag):Sp:=fun vs H Q _=>∃(a b:Addr) (xs ys:List V) (ws us:List T3),vs=[.ref a,.ref b]/\SqL K H a xs/\Pl H xs ws/\SqL K H b ys/\Pl H ys us/\(∀u∈ws,1<=u.1)/\(∀u∈us,1<=u.1)/\ws.length<=100/\us.length<=100/\
 ∀(D:Addr) (zs:List V) (H':Hp),Same H H'->H D=none->H' D=some (.lst zs)->Pl H' zs (shs ws us)->Q (.ref D) H'
theorem y2F {K:PySem.W.Frag} {a b:Addr} {p:Addr} {u:T3} {ys:List V} {us:List T3} {nm:Str} {fr:List Nat} {σ:St} {H:Hp} {Q:VK} (hS:SqL K H b ys) (hP:Pl H ys us) (hu:∀v∈us,1<=v.1) (hl:us.length<=100) (hp:H p=some (z4N u)) (u1:1<=u.1) (hst:st0 [nm] fr σ=[none,some (.ref p)])
  (hq:∀(D:Addr) (zs:List V) (H':Hp),Same H H'->H D=none->H' D=some (.lst zs)->Pl H' zs (us.map (sh2 u))->Q (.ref D) H') :
  kC (Itl K b) (jW 0) z2m (z7A (z8S K) [] E0 (z6z (z5l 1) (z6z (z5l 0) y0j))) [nm] fr σ H Q:=by
 obtain⟨Sv,hSv⟩:∃Sv:St->Prop,Sv=fun σ=>∃o,σ=[o,some (.ref p)]:=⟨_,rfl⟩
 obtain⟨Pv,hPv⟩:∃Pv:Addr->Nat->List V->Hp->Prop,Pv=fun D i ys H2=>H D=none/\Same H H2/\Pl H2 ys ((us.take i).map (sh2 u)):=⟨_,rfl⟩
 refine yL (xs:=ys) Sv Pv (by rw[hSv,hst];exact⟨none,rfl⟩) (fun D hD=>?_) (fun D i ys H2 hD h=>?_) (fun D i x ys σ H2 hx hi hs hD hy h=>?_) (fun D ys H2 hD h=>?_)
 ·rw[hPv];exact⟨hD,zJ hD _,.nil⟩
 ·rw[hPv] at h;exact h.2.1.seq hS
 ·rw[hSv] at hs;rw[hPv] at h;obtain⟨o,rfl⟩:=hs;refine pA fun Gr gO=>?_;obtain⟨nD,g,hQ⟩:=h;refine gO ?_;refine pA fun Gs gP=>?_;obtain⟨p2,v,e1,rfl,e3⟩:=hP.at hx;refine gP ?_;have v1:=hu v (List.mem_of_getElem? e1);rw[hP.1] at hi;walk_at "wp";refine⟨p,p2,u,v,rfl,SqT.of (g _ _ hp),SqT.of (g _ _ e3),u1,v1,fun t H3 g3 nt ht=>?_⟩;have hD3:=g3 _ _ hD;refine CompP.mk hD3 hy (by rw[sizeLine_eq];omega) (by rw[hSv];exact⟨_,rfl⟩) (by
   rw[hPv];refine⟨nD,(g.trans g3).write nD _,?_⟩;rw[List.take_add_one,e1,List.map_append];exact ((hQ.same g3).snoc ht).upd hD3)
 ·rw[hPv] at h;refine pA fun Gu gQ=>?_;obtain⟨nD,g,hQ⟩:=h;refine gQ ?_;rw[hP.1,List.take_length] at hQ;exact hq D ys H2 g nD hD hQ
theorem y1l (T:TF K mg "shifts" z1h) (G_shifts_of_two:Has P w K mg base 2 "shifts_of_two" ["one", "other"] (z8S K)):Has P w K mg base 3 "shifts" ["one", "other"] (kF K):=by
 refine T.has vK (fun _ _ _ _ _ _=>L2.bnd2 fun _ _=>rfl) (fun vs H Q E h=>?_) (fun f cdv A outer s H vs Q E hr h=>?_)
 ·refine pA fun Gv gR=>?_;obtain⟨a,b,xs,ys,ws,us,rfl,_⟩:=h;refine gR ?_;rfl
 refine pA fun Gw gS=>?_;obtain⟨a,b,xs,ys,ws,us,rfl,hS,hP,hS2,hP2,hw,hu,lw,lu,q⟩:=h;refine gS ?_;refine⟨_,(zC (zR (i:=2) vK.nd rfl (Or.inl rfl) (yq zD)) (zC (y6 PassesOwn.never rfl (yC (pv 0)) (zQ (i:=3) vK.nd rfl (Or.inr rfl)) (zE (yt (xn PySem.F.plainAttrs_list PySem.F.slot_list_extend PySem.F.type_list_extend z3T (pv 2) (zB (ya (CompSc.capt (own:=["beside"]) (capt:=["waking"]) (fr:=[3]) rfl ⟨rfl,rfl,rfl,rfl,rfl,trivial⟩ (by decide +kernel) (by decide +kernel) rfl (by decide +kernel)) rfl (yC (pv 1)) (fun _ _ _=>(zQ (i:=0) (show (["beside", "waking"]:List Str).Nodup from by decide +kernel) rfl (Or.inl rfl) (Or.inr rfl))) (fun _ _ _=>yX) (fun _ _ _=>(zL (G_shifts_of_two.mono (by first|decide|omega)) hr (zB (pv 1) (zB (pv 0) zD))))) zD))))) (zE (zK (pv 2))))),?_⟩;walk_at "wp";intro L hL;have g0:=zJ hL (.lst []);refine⟨⟨_,g0.seq hS⟩,?_⟩;obtain⟨W,hW⟩:∃W:Nat->St->Hp->Prop,W=fun i σ H'=>∃(o:Option V) (zs:List V),σ=[some (.ref a),some (.ref b),some (.ref L),o]/\Same H H'/\H' L=some (.lst zs)/\Pl H' zs (shs (ws.take i) us):=⟨_,rfl⟩
 refine yR (xs:=xs) W ?_ (fun i σ H' _ z=>?_) (fun i x σ H' hx z=>?_) (fun σ H' z=>?_)
 ·rw[hW];exact⟨none,[],rfl,g0,zH,.nil⟩
 ·rw[hW] at z;refine pA fun Gx gU=>?_;obtain⟨_,_,_,g,_⟩:=z;refine gU ?_;exact g.seq hS
 ·rw[hW] at z;refine pA fun Gy gW=>?_;obtain⟨o,zs,rfl,g,hL2,hZ⟩:=z;refine gW ?_;refine pA fun Gz gX=>?_;obtain⟨p,u,e1,rfl,e3⟩:=hP.at hx;refine gX ?_;have u1:=hw u (List.mem_of_getElem? e1);have hi:=(List.getElem?_eq_some_iff.mp e1).1;walk_at "wp";refine⟨.inl ⟨rfl,_,SqL.of hL2⟩,⟨_,g.seq hS2⟩,?_⟩;refine y2F (a:=a) (g.seq hS2) (hP2.same g) hu lu (g _ _ e3) u1 rfl fun D ds H2 g2 nD hD hQ=>?_;have lz:=hZ.1;have ld:=hQ.1;rw[jC] at lz;rw[List.length_map] at ld;have lt:(ws.take i).length<=100:=by rw[List.length_take];omega
  have lm:=Nat.mul_le_mul lt lu;refine⟨L,D,zs,ds,rfl,rfl,g2 _ _ hL2,hD,by rw[sizeLine_eq];omega,?_⟩;rw[hW];refine⟨_,_,rfl,(g.trans g2).write hL _,zH,?_⟩;rw[z6E e1];exact ((hZ.same g2).append hQ).upd (g2 _ _ hL2)
 ·rw[hW] at z;refine pA fun G0 gZ=>?_;obtain⟨o,zs,rfl,g,hL2,hZ⟩:=z;refine gZ ?_;rw[hP.1,List.take_length] at hZ;walk_at "wp";exact q L zs _ g hL hL2 hZ
noncomputable def kf (K:PySem.W.Frag):Sp:=fun vs H Q _=>∃(p:Addr) (s r b n:Int),vs=[.ref p,.int b,.int n]/\SqT K H p [.int s,.int r]/\0<=b/\b<2^60/\0<=n/\n<2^60/\∀D:Addr,H D=none->Q (.ref D) (upd H D (y5g (s*b) (r+s*n)))
theorem z0R (T:TF K mg "part_of_part" xk):Has P w K mg base 1 "part_of_part" ["part", "by", "number"] (kf K):=by
 refine T.has vL (fun _ _ _ _ _ _=>L2.bnd3 fun _ _ _=>rfl) (fun vs H Q E h=>?_) (fun f cdv A outer s H vs Q E hr h=>?_)
 ·refine pA fun Ga hC=>?_;obtain⟨p,s,r,b,n,rfl,_⟩:=h;refine hC ?_;rfl
 refine pA fun Gb hJ=>?_;obtain⟨p,st,r,b,n,rfl,hp,b0,b1,n0,n1,q⟩:=h;refine hJ ?_;refine⟨_,(zE (zK (xq (zB (zW xY (zU zZ (pv 0) zF (fun _ _=>rfl)) (pv 1)) (zB (zW ye (zU zZ (pv 0) zF (fun _ _=>rfl)) (zW xY (zU zZ (pv 0) zF (fun _ _=>rfl)) (pv 2))) zD))))),?_⟩;walk_at "wp";refine⟨_,_,_,.int st,rfl,rfl,hp,rfl,?_⟩;walk_at "wp";refine⟨y4H (by omega) (by omega),?_⟩;refine⟨_,_,_,.int r,rfl,rfl,hp,rfl,?_⟩;refine⟨_,_,_,.int st,rfl,rfl,hp,rfl,?_⟩;walk_at "wp";exact⟨y4H (by omega) (by omega),fun D hD=>q D hD⟩
noncomputable def wN (K:PySem.W.Frag) (d:Nat):Sp:=fun vs H Q _=>∃(a pt:Addr) (v:V) (xs:List V) (ws:List T3) (s r:Int) (p:Pap),vs=[.ref a,.ref pt,v]/\SqL K H a xs/\Pl H xs ws/\(∀u∈ws,1<=u.1)/\SqT K H pt [.int s,.int r]/\1<=s/\PapIn K y0Y H v p/\p.dep<d/\∀H',Same H H'->Q (.bl (zh ws s r p)) H'
theorem z5L (T:TF K mg "right_for" qe) (m_len:mg "len" = none) (m_enumerate:mg "enumerate" = none) (G_lies_in:Has P w K mg base 2 "lies_in" ["waking", "part"] (kg K)) (G_part_of_part:Has P w K mg base 1 "part_of_part" ["part", "by", "number"] (kf K)) :
  ∀d:Nat,Has P w K mg base (d+3) "right_for" ["plan", "part", "paper"] (wN K d):=by
 intro d
 induction d with
 | zero=>
  refine T.has xA (fun _ _ _ _ _ _=>L2.bnd3 fun _ _ _=>rfl) (fun vs H Q E h=>?_) (fun f cdv A outer s H vs Q E hr h=>?_)
  ·refine pA fun Gc hU=>?_;obtain⟨_,_,_,_,_,_,_,_,_,_,_,_,_,_,_,h,_⟩:=h;refine hU ?_;exact absurd h (Nat.not_lt_zero _)
  ·refine pA fun Ge hV=>?_;obtain⟨_,_,_,_,_,_,_,_,_,_,_,_,_,_,_,h,_⟩:=h;refine hV ?_;exact absurd h (Nat.not_lt_zero _)
 | succ d ih=>
 have G_right_for:=ih;refine T.has xA (fun _ _ _ _ _ _=>L2.bnd3 fun _ _ _=>rfl) (fun vs H Q E h=>?_) (fun f cdv A outer s H vs Q E hr h=>?_)
 ·refine pA fun Gf gC=>?_;obtain⟨a,pt,v,xs,ws,s,r,p,rfl,_⟩:=h;refine gC ?_;rfl
 refine pA fun Gg gE=>?_;obtain⟨a,pt,v,xs,ws,st,r,p,rfl,hS,hP,hw,hpt,s1,hv,hd,q⟩:=h;refine gE ?_;refine⟨_,(zC (zi (zN xE (zU zZ (pv 2) zF (fun _ _=>rfl)) zS (zX _)) (zE (zK (kP (wn z1n wa zF (zU zZ (pv 2) zF (fun _ _=>rfl)) (zY zc rfl m_len PySem.boot_len (zB (pv 0) zD))) (wW (zL (G_lies_in.mono (by first|decide|omega)) hr (zB (zU zo (pv 0) (zU zZ (pv 2) zF (fun _ _=>rfl)) (fun _ _=>rfl)) (zB (pv 1) zD))))))) zM) (zC (zR (i:=3) xA.nd rfl (Or.inl rfl) (zU zZ (pv 2) zF (fun _ _=>rfl))) (zC (zi (PW.pt (z7K (zN wa (pv 3) zF (zX _)) (z3K (zN kQ (zY zc rfl m_len PySem.boot_len (zB (zU zZ (pv 2) zF (fun _ _=>rfl)) zD)) (pv 3) (zX _))))) (zE (zK xC)) zM) (zC (y6 PassesOwn.never rfl (y3M rfl m_enumerate (zU zZ (pv 2) zF (fun _ _=>rfl))) (kO rfl (zm (zQ (i:=4) xA.nd rfl (Or.inl rfl)) (zm (zQ (i:=5) xA.nd rfl (Or.inl rfl)) jT))) (zE (zi (xc (yd (zL (G_right_for.mono (by first|decide|omega)) hr (zB (pv 0) (zB (zL (G_part_of_part.mono (by first|decide|omega)) hr (zB (pv 1) (zB (pv 3) (zB (pv 4) zD)))) (zB (pv 5) zD)))) (fun _=>rfl))) (zE (zK xC)) zM))) (zE (zK xC)))))),?_⟩;cases hv with
 | @inn b k hb=>
  have hT:SqT K H b [.str "in",.int k]:=SqT.of hb;walk_at "wp";refine⟨_,_,_,.str "in",rfl,rfl,hT,rfl,rfl,?_⟩;walk_at "wp";refine⟨_,_,_,.int k,rfl,rfl,hT,rfl,?_⟩;walk_at "wp";have q1:=q H (Same.refl H);unfold zh at q1;refine⟨fun c1=>?_,fun c1=>?_⟩
  ·refine⟨_,_,rfl,.inl hS,?_⟩;rw[hP.1];walk_at "wp";refine⟨fun c2=>?_,fun c2=>?_⟩
   ·refine⟨_,_,_,.int k,rfl,rfl,hT,rfl,?_⟩;refine pA fun Gh gF=>?_;obtain⟨b2,u,e1,e2,e3,e4⟩:=hP.ix c1 c2;refine gF ?_;refine zf hS e1 ⟨b2,pt,u,st,r,rfl,e4,hpt,hw u e3,s1,?_⟩;have eg:ws.getD k.toNat (1,0,1)=u:=by rw[List.getD_eq_getElem?_getD,e2];rfl
    rw[decide_eq_true c1,decide_eq_true c2,eg] at q1;simpa using q1
   ·rw[decide_eq_false c2] at q1;simpa using q1
  ·rw[decide_eq_false c1] at q1;simpa using q1
 | @par b l bb ys ps hb hl _ lz hs=>
  have hT:SqT K H b [.str "parted",.int bb,.ref l]:=SqT.of hb;simp only [Pap.dep] at hd;walk_at "wp";refine⟨_,_,_,.str "parted",rfl,rfl,hT,rfl,rfl,?_⟩;walk_at "wp";refine⟨fun c=>absurd c (by decide),fun _=>?_⟩;refine⟨_,_,_,.int bb,rfl,rfl,hT,rfl,?_⟩;walk_at "wp";have hlen:=hs.len;refine⟨fun c1=>?_,fun c1=>?_⟩
  ·have q1:=q H (Same.refl H);unfold zh at q1;rw[decide_eq_false (show ¬2<=bb by omega),Bool.false_and] at q1;exact q1
  ·refine⟨_,_,_,.ref l,rfl,rfl,hT,rfl,?_⟩;refine⟨_,_,rfl,.inl (SqL.of hl),?_⟩;walk_at "wp";refine⟨fun c2=>?_,fun c2=>?_⟩
   ·have q1:=q H (Same.refl H);unfold zh at q1;rw[decide_eq_true (show 2<=bb by omega),decide_eq_false (show ¬(ps.length:Int)=bb by rw[←hlen];exact c2)] at q1;simpa using q1
   ·have c2':(ys.length:Int)=bb:=by omega
    refine⟨_,_,_,.ref l,rfl,rfl,hT,rfl,?_⟩;walk_at "wp";refine⟨_,_,rfl,SqL.of hl,?_⟩;obtain⟨W,hW⟩:∃W:Nat->St->Hp->Prop,W=fun i σ H'=>∃o1 o2:Option V,σ=[some (.ref a),some (.ref pt),some (.ref b),some (.int bb),o1,o2]/\Same H H'/\zn ws st r bb 0 (ps.take i)=true:=⟨_,rfl⟩
    refine z9w (xs:=ys) W ?_ (fun i σ H' z=>?_) (fun i x T2 σ H' hx nT z=>?_) (fun σ H' z=>?_)
    ·rw[hW];exact⟨none,none,rfl,Same.refl _,by simp [zn]⟩
    ·rw[hW] at z;refine pA fun Gi gG=>?_;obtain⟨_,_,_,g,_⟩:=z;refine gG ?_;exact SqL.of (g _ _ hl)
    ·rw[hW] at z;refine pA fun Gj gH=>?_;obtain⟨o1,o2,rfl,g,hr2⟩:=z;refine gH ?_;refine pA fun Gk gI=>?_;obtain⟨p,e1,hp⟩:=hs.at hx;refine gI ?_;have hi:=(List.getElem?_eq_some_iff.mp hx).1;have g1:=g.trans (zJ nT (.tup [.int i,x]));refine⟨T2,_,rfl,SqT.of zH,rfl,?_⟩;walk_at "wp";refine⟨pt,st,r,bb,_,rfl,Same.seqT g1 hpt,by omega,by omega,by omega,by omega,fun D hD=>?_⟩;have g2:=g1.trans (zJ hD (y5g (st*bb) (r+st*i)));have sp:1<=st*bb:=by
      have:=Int.mul_le_mul s1 (show 1<=bb by omega) (by decide) (by omega);omega
     refine⟨a,D,x,xs,ws,st*bb,r+st*i,p,rfl,g2.seq hS,hP.same g2,hw,SqT.of zH,sp,hp.mono g2,?_,fun H3 g3=>?_⟩
     ·have:=Pap.dep_mem (List.mem_of_getElem? e1);omega
     have gg:=g2.trans g3;cases c:zh ws (st*bb) (r+st*i) p with
     | true=>
      walk_at "wp";rw[hW];refine⟨_,_,rfl,gg,?_⟩;rw[xb e1,hr2,Nat.zero_add,c];rfl
     | false=>
      walk_at "wp";have q1:=q H3 gg;unfold zh at q1;rw[jR e1 (by rw[Nat.zero_add];exact c),Bool.and_false,Bool.and_false] at q1;exact q1
    ·rw[hW] at z;refine pA fun Gm gJ=>?_;obtain⟨o1,o2,rfl,g,hr2⟩:=z;refine gJ ?_;rw[hlen,List.take_length] at hr2;walk_at "wp";have q1:=q H' g;unfold zh at q1;rw[decide_eq_true (show 2<=bb by omega),decide_eq_true (show (ps.length:Int)=bb by omega),hr2] at q1;exact q1
noncomputable def z8T (K:PySem.W.Frag) (d:Nat):Sp:=fun vs H Q _=>∃(a:Addr) (v:V) (xs:List V) (ws:List T3) (p:Pap),vs=[.ref a,v]/\SqL K H a xs/\Pl H xs ws/\(∀u∈ws,1<=u.1)/\PapIn K y0Y H v p/\p.dep<d/\∀H',Same H H'->Q (.bl (zh ws 1 0 p)) H'
theorem z9m {d:Nat} (T:TF K mg "lets_by" vT) (C_ALL_TURNS:CT K mg "ALL_TURNS" [1,0]) (G_right_for:Has P w K mg base (d+3) "right_for" ["plan", "part", "paper"] (wN K d)):Has P w K mg base (d+4) "lets_by" ["plan", "paper"] (z8T K d):=by
 refine pA fun Gn gK=>?_;obtain⟨a_ALL_TURNS,e_ALL_TURNS,hAT⟩:=C_ALL_TURNS;refine gK ?_;refine T.has z7G (fun _ _ _ _ _ _=>L2.bnd2 fun _ _=>rfl) (fun vs H Q E h=>?_) (fun f cdv A outer s H vs Q E hr h=>?_)
 ·refine pA fun Go gL=>?_;obtain⟨a,v,xs,ws,p,rfl,_⟩:=h;refine gL ?_;rfl
 refine pA fun Gp gM=>?_;obtain⟨a,v,xs,ws,p,rfl,hS,hP,hw,hv,hd,q⟩:=h;refine gM ?_;refine⟨_,(zE (zK (zL (G_right_for.mono (by first|decide|omega)) hr (zB (pv 0) (zB (v6 (v:=.ref a_ALL_TURNS) rfl e_ALL_TURNS rfl) (zB (pv 1) zD)))))),?_⟩;walk_at "wp";exact⟨a,a_ALL_TURNS,v,xs,ws,1,0,p,rfl,hS,hP,hw,hAT H,by decide,hv,hd,q⟩
noncomputable def wP (K:PySem.W.Frag) (d:Nat):Sp:=fun vs H Q _=>∃(a b:Addr) (v:V) (xs ys:List V) (ws us:List T3) (p:Pap),vs=[.ref a,.ref b,v]/\SqL K H a xs/\Pl H xs ws/\SqL K H b ys/\Pl H ys us/\(∀u∈ws,Wk u)/\(∀u∈us,Wk u)/\ws.length<=100/\us.length<=100/\PapIn K y0Y H v p/\p.dep<d/\∀H',Same H H'->Q (.bl (zh (shs ws us) 1 0 p)) H'
theorem z5O {d:Nat} (T:TF K mg "lets_meet" qg) (G_shifts:Has P w K mg base 3 "shifts" ["one", "other"] (kF K)) (G_lets_by:Has P w K mg base (d+4) "lets_by" ["plan", "paper"] (z8T K d)):Has P w K mg base (d+5) "lets_meet" ["one", "other", "paper"] (wP K d):=by
 refine T.has z3D (fun _ _ _ _ _ _=>L2.bnd3 fun _ _ _=>rfl) (fun vs H Q E h=>?_) (fun f cdv A outer s H vs Q E hr h=>?_)
 ·refine pA fun Gq gN=>?_;obtain⟨a,b,v,xs,ys,ws,us,p,rfl,_⟩:=h;refine gN ?_;rfl
 refine pA fun Gr gO=>?_;obtain⟨a,b,v,xs,ys,ws,us,p,rfl,hS,hP,hS2,hP2,hw,hu,lw,lu,hv,hd,q⟩:=h;refine gO ?_;refine⟨_,(zE (zK (zL (G_lets_by.mono (by first|decide|omega)) hr (zB (zL (G_shifts.mono (by first|decide|omega)) hr (zB (pv 0) (zB (pv 1) zD))) (zB (pv 2) zD))))),?_⟩;walk_at "wp";refine⟨a,b,xs,ys,ws,us,rfl,hS,hP,hS2,hP2,fun u h=>(hw u h).1,fun u h=>(hu u h).1,lw,lu,fun D zs H1 g1 nD hD hZ=>?_⟩;exact⟨D,v,zs,_,p,rfl,SqL.of hD,hZ,fun u h=>(z3B hw hu u h).1,hv.mono g1,hd,fun H' g'=>q H' (g1.trans g')⟩
noncomputable def z5v (K:PySem.W.Frag):Sp:=fun vs H Q _=>∃(p p2:Addr) (u:T3) (s r:Int),vs=[.ref p,.ref p2]/\H p=some (z4N u)/\SqT K H p2 [.int s,.int r]/\1<=u.1/\1<=s/\Q (.bl (kT u s r)) H
theorem y3j (T:TF K mg "meets" z4q) (G_divisor:Has P w K mg base 1 "divisor" ["one", "other"] xO):Has P w K mg base 2 "meets" ["waking", "part"] (z5v K):=by
 refine T.has y0t (fun _ _ _ _ _ _=>L2.bnd2 fun _ _=>rfl) (fun vs H Q E h=>?_) (fun f cdv A outer s H vs Q E hr h=>?_)
 ·refine pA fun Gs gP=>?_;obtain⟨p,p2,u,s,r,rfl,_⟩:=h;refine gP ?_;rfl
 refine pA fun Gu gQ=>?_;obtain⟨p,p2,u,st,r,rfl,hp,hp2,u1,s1,q⟩:=h;refine gQ ?_;refine⟨_,(zE (zK (jU wa (zW yE (zW xD (zU zZ (pv 1) zF (fun _ _=>rfl)) (zU zZ (pv 0) zF (fun _ _=>rfl))) (zL (G_divisor.mono (by first|decide|omega)) hr (zB (zU zZ (pv 1) zF (fun _ _=>rfl)) (zB (zU zZ (pv 0) zF (fun _ _=>rfl)) zD)))) (zU zZ (pv 0) zF (fun _ _=>rfl)) (zX _)))),?_⟩;have hT:SqT K H p [.int u.1,.int u.2.1,.int u.2.2]:=SqT.of hp;have gp:=yK (a:=st) (b:=u.1) (by omega);walk_at "wp";refine⟨_,_,_,.int r,rfl,rfl,hp2,rfl,?_⟩;refine⟨_,_,_,.int u.2.1,rfl,rfl,hT,rfl,?_⟩;walk_at "wp";refine⟨_,_,_,.int st,rfl,rfl,hp2,rfl,?_⟩;refine⟨_,_,_,.int u.1,rfl,rfl,hT,rfl,?_⟩;refine⟨_,_,rfl,by omega,by omega,?_⟩;walk_at "wp";refine⟨gp,?_⟩;refine⟨_,_,_,.int u.2.2,rfl,rfl,hT,rfl,?_⟩;walk_at "wp";exact q
noncomputable def z0c (K:PySem.W.Frag):Sp:=fun vs H Q _=>∃(p p2:Addr) (u:T3) (s r:Int),vs=[.ref p,.ref p2]/\H p=some (z4N u)/\SqT K H p2 [.int s,.int r]/\1<=u.1/\u.1<=5000/\1<=s/\2<=u.1/zg s u.1/\∀d H',IsPart (u.1/zg s u.1) d->Same H H'->Q (.int d) H'
theorem z9j (T:TF K mg "parting" vQ) (G_divisor:Has P w K mg base 1 "divisor" ["one", "other"] xO) (G_least_part:Has P w K mg base 1 "least_part" ["number"] kK):Has P w K mg base 2 "parting" ["waking", "part"] (z0c K):=by
 refine T.has z7E (fun _ _ _ _ _ _=>L2.bnd2 fun _ _=>rfl) (fun vs H Q E h=>?_) (fun f cdv A outer s H vs Q E hr h=>?_)
 ·refine pA fun Gv gR=>?_;obtain⟨p,p2,u,s,r,rfl,_⟩:=h;refine gR ?_;rfl
 refine pA fun Gw gS=>?_;obtain⟨p,p2,u,st,r,rfl,hp,hp2,u1,u2,s1,n2,q⟩:=h;refine gS ?_;refine⟨_,(zE (zK (zL (G_least_part.mono (by first|decide|omega)) hr (zB (zW yz (zU zZ (pv 0) zF (fun _ _=>rfl)) (zL (G_divisor.mono (by first|decide|omega)) hr (zB (zU zZ (pv 1) zF (fun _ _=>rfl)) (zB (zU zZ (pv 0) zF (fun _ _=>rfl)) zD)))) zD)))),?_⟩;have hT:SqT K H p [.int u.1,.int u.2.1,.int u.2.2]:=SqT.of hp;have gp:=yK (a:=st) (b:=u.1) (by omega);have gr:zg st u.1<=u.1:=by rw[z0B];exact yM _ (by omega)
 have dl:u.1/zg st u.1<=u.1:=Int.ediv_le_self _ (by omega);walk_at "wp";refine⟨_,_,_,.int u.1,rfl,rfl,hT,rfl,?_⟩;refine⟨_,_,_,.int st,rfl,rfl,hp2,rfl,?_⟩;refine⟨_,_,_,.int u.1,rfl,rfl,hT,rfl,?_⟩;refine⟨_,_,rfl,by omega,by omega,?_⟩;walk_at "wp";refine⟨y0b 20 (by omega) (by omega) (by decide),?_⟩;exact⟨_,rfl,n2,by omega,q⟩
theorem y3z {K:PySem.W.Frag} {n:Addr} {cs:List Int} {tt:TT} {own:List Str} {fr:List Nat} {σ:St} {H:Hp} {Q:VK} {rest:St} (f:Int->Bool) (hst:st0 own fr σ=none::rest) (hS:SqL K H n (cs.map V.int)) (hl:cs.length<=1000)
  (htt:∀(c:Int) (H2:Hp) (R:Bool->Hp->Prop),c∈cs->Same H H2->R (f c) H2->tt (some (.int c)::rest) H2 R)
  (hq:∀(D:Addr) (H':Hp),Same H H'->H D=none->H' D=some (IL (cs.filter f))->Q (.ref D) H') :
  kC (Itl K n) (jW 0) tt (z5l 0) own fr σ H Q:=by
 obtain⟨Sv,hSv⟩:∃Sv:St->Prop,Sv=fun σ=>∃o1,σ=o1::rest:=⟨_,rfl⟩
 obtain⟨Pv,hPv⟩:∃Pv:Addr->Nat->List V->Hp->Prop,Pv=fun D i ys H2=>H D=none/\Same H H2/\ys=((cs.take i).filter f).map V.int:=⟨_,rfl⟩
 refine yL (xs:=cs.map V.int) Sv Pv (by rw[hSv,hst];exact⟨none,rfl⟩) (fun D hD=>?_) (fun D i ys H2 hD h=>?_) (fun D i x ys σ H2 hx hi hs hD hy h=>?_) (fun D ys H2 hD h=>?_)
 ·rw[hPv];exact⟨hD,zJ hD _,rfl⟩
 ·rw[hPv] at h;exact h.2.1.seq hS
 ·rw[hSv] at hs;rw[hPv] at h;obtain⟨o1,rfl⟩:=hs;refine pA fun Gx gU=>?_;obtain⟨nD,g,rfl⟩:=h;refine gU ?_;rw[List.getElem?_map] at hx;refine pA fun Gy gW=>?_;obtain⟨c,hc,rfl⟩:=Option.map_eq_some_iff.mp hx;refine gW ?_;rw[List.length_map] at hi;walk_at "wp";refine htt c H2 _ (List.mem_of_getElem? hc) g ?_;cases e:f c with
  | true=>
   refine⟨fun _=>?_,fun c=>absurd rfl c⟩;refine CompP.mk hD hy (by rw[sizeLine_eq];omega) (by rw[hSv];exact⟨_,rfl⟩) (by
    rw[hPv];refine⟨nD,g.write nD _,?_⟩;rw[List.take_add_one,hc,List.filter_append];simp [e])
  | false=>
   refine⟨fun c=>(nomatch c),fun _=>?_⟩;refine⟨by rw[hSv];exact⟨_,rfl⟩,_,hD,by omega,?_⟩;rw[hPv];refine⟨nD,g,?_⟩;rw[List.take_add_one,hc,List.filter_append];simp [e]
 ·rw[hPv] at h;refine pA fun Gz gX=>?_;obtain⟨nD,g,rfl⟩:=h;refine gX ?_;rw[List.length_map,List.take_length] at hD;exact hq D H2 g nD hD
theorem z6i {d:Nat}:∀ {ps:List Pap},(∀p∈ps,p.dep<=d)->Pap.deps ps<=d
 | [],_=>Nat.zero_le _
 | q::ps,h=>by
  have h1:=h q (by simp);have h2:=z6i (ps:=ps) fun p hp=>h p (by simp [hp]);simp only [Pap.deps];omega
noncomputable def PTop (K:PySem.W.Frag) (H H':Hp) (v:V) (p:Pap):Prop:=(∃(a:Addr) (k:Int),p=.inn k/\v=.ref a/\H' a=some (.tup [.str "in",.int k]))∨∃(a l:Addr) (b:Int) (ys:List V) (ps:List Pap),p=.par b ps/\v=.ref a/\H' a=some (.tup [.str "parted",.int b,.ref l])/\H' l=some (.lst ys)/\H l=none/\ys.length<2^60/\PapsIn K (fun x=>H x=none/\x≠l) H' ys ps
theorem PTop.pap {K:PySem.W.Frag} {H H':Hp} {v:V} {p:Pap} (h:PTop K H H' v p):PapIn K (fun l=>H l=none) H' v p:=by
 rcases h with⟨a,k,rfl,rfl,h⟩|⟨a,l,b,ys,ps,rfl,rfl,h1,h2,h3,h4,h5⟩
 ·exact .inn h
 ·exact .par h1 h2 h3 h4 (h5.imp fun x hx=>hx.1)
theorem PTop.older {K:PySem.W.Frag} {H0 H H':Hp} {v:V} {p:Pap} (g:Same H0 H) (h:PTop K H H' v p):PTop K H0 H' v p:=by
 have f:∀l,H l=none->H0 l=none:=fun l hl=>by
  cases e:H0 l with
  | none=>rfl
  | some o=>
   rw[g _ _ e] at hl;cases hl
 rcases h with h|⟨a,l,b,ys,ps,e1,e2,h1,h2,h3,h4,h5⟩
 ·exact .inl h
 ·exact .inr ⟨a,l,b,ys,ps,e1,e2,h1,h2,f l h3,h4,h5.imp fun x hx=>⟨f x hx.1,hx.2⟩⟩
noncomputable abbrev wAt (ws:List T3) (k:Int):T3:=ws.getD k.toNat (1,0,1)
theorem z6a:∀(ps:List Pap) (p:Pap),Pap.kns (ps++[p])=Pap.kns ps+p.kn
 | [],p=>by simp [Pap.kns]
 | q::ps,p=>by
  show q.kn+Pap.kns (ps++[p])=q.kn+Pap.kns ps+p.kn;rw[z6a ps p];omega
inductive PopR (ws:List T3):Int->Int->List Int->Pap->Prop
 | inn {s r:Int} {ks ms:List Int} {k:Int} {i:Nat}:ks.filter (fun k=>kT (wAt ws k) s r)=ms->ms[i]?=some k->(∀j∈ms.take i,qv (wAt ws j) s r=false)->qv (wAt ws k) s r=true->PopR ws s r ks (.inn k)
 | par {s r:Int} {ks ms:List Int} {m0 b:Int} {ps:List Pap}:ks.filter (fun k=>kT (wAt ws k) s r)=ms->(∀j∈ms,qv (wAt ws j) s r=false)->ms[0]?=some m0->IsPart ((wAt ws m0).1/zg s (wAt ws m0).1) b->(ps.length:Int)=b->(∀(i:Nat) (p:Pap),ps[i]?=some p->PopR ws (s*b) (r+s*(i:Int)) ms p)->PopR ws s r ks (.par b ps)
theorem PopR.uniq {ws:List T3} {s r:Int} {ks:List Int} {p:Pap} (h:PopR ws s r ks p):∀ {q:Pap},PopR ws s r ks q->p=q:=by
 induction h with
 | @inn s r ks ms k i e1 e2 e3 e4=>
  intro q g;cases g with
  | @inn _ _ _ ms' k' i' f1 f2 f3 f4=>
   rw[e1] at f1;subst f1;have lt:∀ {a b:Nat} {x y:Int},ms[a]?=some x->qv (wAt ws x) s r=true->(∀j∈ms.take b,qv (wAt ws j) s r=false)->¬a<b:=fun {a b x y} h1 h2 h3 hl=>by
    have m:x∈ms.take b:=List.mem_of_getElem? (i:=a) (by rw[List.getElem?_take_of_lt hl];exact h1);rw[h3 x m] at h2;cases h2
   have ei:i=i':=Nat.le_antisymm (Nat.not_lt.mp (lt (y:=0) f2 f4 e3)) (Nat.not_lt.mp (lt (y:=0) e2 e4 f3));subst ei;rw[e2] at f2;cases f2;rfl
  | @par _ _ _ ms' m0 b ps f1 f2 _ _ _ _=>
   rw[e1] at f1;subst f1;rw[f2 k (List.mem_of_getElem? e2)] at e4;cases e4
 | @par s r ks ms m0 b ps e1 e2 e3 e4 e5 e6 ih=>
  intro q g;cases g with
  | @inn _ _ _ ms' k' i' f1 f2 f3 f4=>
   rw[e1] at f1;subst f1;rw[e2 k' (List.mem_of_getElem? f2)] at f4;cases f4
  | @par _ _ _ ms' m0' b' ps' f1 f2 f3 f4 f5 f6=>
   rw[e1] at f1;subst f1;rw[e3] at f3;cases f3;have eb:b=b':=e4.uniq f4;subst eb;have ep:ps=ps':=by
    apply List.ext_getElem?;intro i;cases c:ps[i]? with
    | none=>
     rw[List.getElem?_eq_none_iff] at c;exact (List.getElem?_eq_none_iff.mpr (by omega)).symm
    | some p=>
     have hi:=(List.getElem?_eq_some_iff.mp c).1;have c2:=List.getElem?_eq_getElem (l:=ps') (i:=i) (by omega);rw[c2,ih i p c (f6 i _ c2)]
   rw[ep]
noncomputable def y2L (K:PySem.W.Frag) (d:Nat):Sp:=fun vs H Q _=>∃(a pt n:Addr) (xs:List V) (ws:List T3) (s r L:Int) (ks:List Int),vs=[.ref a,.ref pt,.ref n]/\SqL K H a xs/\Pl H xs ws/\(∀u∈ws,Wk u)/\(∀u∈ws,u.1∣L)/\1<=L/\L<=5000/\SqT K H pt [.int s,.int r]/\1<=s/\s∣L/\L<s*2^d/\SqL K H n (ks.map V.int)/\ks.length<=1000/\(∀k∈ks,0<=k/\k<ws.length)/\Cov (ks.map (wAt ws)) s r/\
 ∀(v:V) (p:Pap) (H':Hp),Same H H'->PTop K H H' v p->p.dep<=d->zh ws s r p=true->PopR ws s r ks p->((p.kn:Int)+1)*s<=2*L->Q v H'
theorem vt (T:TF K mg "paper_of_part" xT) (m_range:mg "range" = none) (G_meets:Has P w K mg base 2 "meets" ["waking", "part"] (z5v K)) (G_lies_in:Has P w K mg base 2 "lies_in" ["waking", "part"] (kg K)) (G_parting:Has P w K mg base 2 "parting" ["waking", "part"] (z0c K)) (G_part_of_part:Has P w K mg base 1 "part_of_part" ["part", "by", "number"] (kf K)) :
  ∀d:Nat,Has P w K mg base (d+3) "paper_of_part" ["plan", "part", "near"] (y2L K d):=by
 intro d
 induction d with
 | zero=>
  have no:∀ {s L:Int},1<=L->s∣L->L<s*2^0->False:=fun {s L} l1 h1 h2=>by
   have:=Int.le_of_dvd (show 0<L by omega) h1;omega
  refine T.has yF (fun _ _ _ _ _ _=>L2.bnd3 fun _ _ _=>rfl) (fun vs H Q E h=>?_) (fun f cdv A outer s H vs Q E hr h=>?_)
  ·refine pA fun G0 gZ=>?_;obtain⟨_,_,_,_,_,_,_,_,_,_,_,_,_,_,l1,_,_,_,h1,h2,_⟩:=h;refine gZ ?_;exact (no l1 h1 h2).elim
  ·refine pA fun Ga hC=>?_;obtain⟨_,_,_,_,_,_,_,_,_,_,_,_,_,_,l1,_,_,_,h1,h2,_⟩:=h;refine hC ?_;exact (no l1 h1 h2).elim
 | succ d ih=>
 have G_paper_of_part:=ih;refine T.has yF (fun _ _ _ _ _ _=>L2.bnd3 fun _ _ _=>rfl) (fun vs H Q E h=>?_) (fun f cdv A outer s H vs Q E hr h=>?_)
 ·refine pA fun Gb hJ=>?_;obtain⟨a,pt,n,xs,ws,s,r,L,ks,rfl,_⟩:=h;refine hJ ?_;rfl
 refine pA fun Gc hU=>?_;obtain⟨a,pt,n,xs,ws,st,r,L,ks,rfl,hS,hP,hw,hwL,L1,L5,hpt,s0,sL,sd,hn,nl,hk,cov,q⟩:=h;refine hU ?_;refine⟨_,(zC (zR (i:=4) yF.nd rfl (Or.inr rfl) (ya (CompSc.capt (own:=["k"]) (capt:=["plan", "part"]) (fr:=[0,1]) rfl ⟨rfl,rfl,rfl,rfl,rfl,⟨rfl,rfl,rfl,rfl,rfl,trivial⟩⟩ (by decide +kernel) (by decide +kernel) rfl (by decide +kernel)) rfl (yC (pv 2)) (fun _ _ _=>(zQ (i:=0) (show (["k", "plan", "part"]:List Str).Nodup from by decide +kernel) rfl (Or.inl rfl) (Or.inr rfl))) (fun _ _ _=>z4w (yd (zL (G_meets.mono (by first|decide|omega)) hr (zB (zU (kU (K:=K) rfl) (pv 1) (pv 0) (fun _ _=>rfl)) (zB (pv 2) zD))) (fun _=>rfl))) (fun _ _ _=>(pv 0)))) (zC (y6 PassesOwn.never rfl (yC (pv 4)) (zQ (i:=3) yF.nd rfl (Or.inl rfl)) (zE (zi (yd (zL (G_lies_in.mono (by first|decide|omega)) hr (zB (zU zo (pv 0) (pv 3) (fun _ _=>rfl)) (zB (pv 1) zD))) (fun _=>rfl)) (zE (zK (xq (zB zS (zB (pv 3) zD))))) zM))) (zC (zR (i:=5) yF.nd rfl (Or.inr rfl) (zL (G_parting.mono (by first|decide|omega)) hr (zB (zU zo (pv 0) (zU zo (pv 4) zF (fun _ _=>rfl)) (fun _ _=>rfl)) (zB (pv 1) zD)))) (zC (qH (i:=6) yF.nd rfl (Or.inl rfl) (CompSc.capt (own:=["number"]) (capt:=["plan", "part", "met", "by"]) (fr:=[0,1,4,5]) rfl ⟨rfl,rfl,rfl,rfl,rfl,⟨rfl,rfl,rfl,rfl,rfl,⟨rfl,rfl,rfl,rfl,rfl,⟨rfl,rfl,rfl,rfl,rfl,trivial⟩⟩⟩⟩ (by decide +kernel) (by decide +kernel) rfl (by decide +kernel)) rfl (xX rfl m_range (zB (pv 5) zD)) (fun _ _ _=>(zQ (i:=0) (show (["number", "plan", "part", "met", "by"]:List Str).Nodup from by decide +kernel) rfl (Or.inl rfl) (Or.inr rfl))) (fun _ _ _=>yX) (fun _ _ _=>(zL (G_paper_of_part.mono (by first|decide|omega)) hr (zB (pv 1) (zB (zL (G_part_of_part.mono (by first|decide|omega)) hr (zB (pv 2) (zB (pv 4) (zB (pv 0) zD)))) (zB (pv 3) zD)))))) (zE (zK (xq (zB zS (zB (pv 5) (zB (pv 6) zD)))))))))),?_⟩;walk_at "wp";refine⟨⟨_,hn⟩,?_⟩;have wk:∀k∈ks,Wk (wAt ws k):=fun k hk2=>by
  obtain⟨k0,k1⟩:=hk k hk2;have:k.toNat<ws.length:=by omega
  show Wk (ws.getD k.toNat (1,0,1));rw[List.getD_eq_getElem?_getD,List.getElem?_eq_getElem this];exact hw _ (List.getElem_mem this)
 refine y3z (rest:=[some (.ref a),some (.ref pt)]) (fun k=>kT (wAt ws k) st r) rfl hn nl (fun c H2 R hc g hR=>?_) fun D H1 g1 nD hD=>?_
 ·refine pA fun Ge hV=>?_;obtain⟨p,u,e1,e2,mu,e3⟩:=(hP.same g).ix (hk c hc).1 (hk c hc).2;refine hV ?_;have eu:wAt ws c=u:=by
   show ws.getD c.toNat (1,0,1)=u;rw[List.getD_eq_getElem?_getD,e2];rfl
  walk_at "wp";refine zf (g.seq hS) e1 ?_;refine⟨p,pt,u,st,r,rfl,e3,Same.seqT g hpt,(hw u mu).1,s0,?_⟩;refine⟨_,rfl,?_⟩;rw[←eu];exact hR
 generalize hms:ks.filter (fun k=>kT (wAt ws k) st r)=ms at hD;have msub:∀k∈ms,k∈ks/\kT (wAt ws k) st r=true:=fun k h=>by
  rw[←hms] at h;exact List.mem_filter.mp h
 have ml:ms.length<=1000:=by rw[←hms];exact Nat.le_trans (List.length_filter_le _ _) nl
 have mcov:Cov (ms.map (wAt ws)) st r:=by
  have c:=Cov.met (fun u hu=>by obtain⟨k,hk2,rfl⟩:=List.mem_map.mp hu;exact wk k hk2) s0 cov;rw[List.filter_map] at c;rw[←hms];exact c
 have hS1:=g1.seq hS;have hP1:=hP.same g1;have hpt1:=Same.seqT g1 hpt;walk_at "wp";refine⟨⟨_,SqL.of hD⟩,?_⟩;obtain⟨W,hW⟩:∃W:Nat->St->Hp->Prop,W=fun i σ H'=>∃o:Option V,σ=[some (.ref a),some (.ref pt),some (.ref n),o,some (.ref D),none,none]/\H'=H1/\∀k∈ms.take i,qv (wAt ws k) st r=false:=⟨_,rfl⟩
 refine yR (xs:=ms.map V.int) W ?_ (fun i σ H' _ z=>?_) (fun i x σ H' hx z=>?_) (fun σ H' z=>?_)
 ·rw[hW];exact⟨_,rfl,rfl,fun k h=>by simp at h⟩
 ·rw[hW] at z;refine pA fun Gf gC=>?_;obtain⟨_,_,rfl,_⟩:=z;refine gC ?_;exact SqL.of hD
 ·rw[hW] at z;refine pA fun Gg gE=>?_;obtain⟨o,rfl,rfl,hz⟩:=z;refine gE ?_;rw[List.getElem?_map] at hx;refine pA fun Gh gF=>?_;obtain⟨k,hk2,rfl⟩:=Option.map_eq_some_iff.mp hx;refine gF ?_;obtain⟨mk,mm⟩:=msub k (List.mem_of_getElem? hk2);obtain⟨k0,k1⟩:=hk k mk;refine pA fun Gi gG=>?_;obtain⟨p,u,e1,e2,mu,e3⟩:=hP1.ix k0 k1;refine gG ?_;have eu:wAt ws k=u:=by
   show ws.getD k.toNat (1,0,1)=u;rw[List.getD_eq_getElem?_getD,e2];rfl
  walk_at "wp";refine zf hS1 e1 ?_;refine⟨p,pt,u,st,r,rfl,e3,hpt1,(hw u mu).1,s0,?_⟩;refine⟨_,rfl,fun c=>?_,fun c=>?_⟩
  ·intro q1 nq;refine q (.ref q1) (.inn k) _ (g1.trans (zJ nq _)) (.inl ⟨q1,k,rfl,rfl,zH⟩) (Nat.zero_le _) ?_ (.inn hms hk2 hz (by rw[eu];exact c)) (by have:=Int.le_of_dvd (show 0<L by omega) sL;show (1+1)*st<=2*L;omega);unfold zh;rw[decide_eq_true k0,decide_eq_true k1];show (true && (true && qv (wAt ws k) st r))=true;rw[eu,c];rfl
  ·rw[hW];refine⟨_,rfl,rfl,fun j hj=>?_⟩;rw[List.take_add_one,hk2] at hj;rcases List.mem_append.mp hj with z|z
   ·exact hz j z
   ·have:j=k:=by simpa using z
    rw[this,eu];simpa using c
 ·rw[hW] at z;refine pA fun Gj gH=>?_;obtain⟨o,rfl,rfl,hz⟩:=z;refine gH ?_;rw[List.length_map,List.take_length] at hz;have mne:ms≠[]:=fun e=>Cov.some mcov (by rw[e];rfl);refine pA fun Gk gI=>?_;obtain⟨m0,mt,em⟩:=List.exists_cons_of_ne_nil mne;refine gI ?_;have m0m:m0∈ms:=by rw[em];simp
  obtain⟨mk,mm⟩:=msub m0 m0m;obtain⟨k0,k1⟩:=hk m0 mk;refine pA fun Gm gJ=>?_;obtain⟨p,u,e1,e2,mu,e3⟩:=hP1.ix k0 k1;refine gJ ?_;have eu:wAt ws m0=u:=by
   show ws.getD m0.toNat (1,0,1)=u;rw[List.getD_eq_getElem?_getD,e2];rfl
  have two:=y1G (hw u mu) s0 (eu▸mm) (eu▸hz m0 m0m);have uL:=Int.le_of_dvd (show 0<L by omega) (hwL u mu);have u1:=(hw u mu).1;walk_at "wp";refine zf (SqL.of hD) (v:=.int m0) (by rw[em];exact xg (zs:=m0::mt) (i:=0) (by decide) (by simp only [List.length_cons];omega)) ?_;refine zf hS1 e1 ?_;refine⟨p,pt,u,st,r,rfl,e3,hpt1,u1,by omega,s0,two,fun b H3 hb g3=>?_⟩;have b2:=hb.two;have g0:1<=zg st u.1:=j7 (u:=(st,0,0)) (v:=u) s0;have bl:b<=5000:=by
   have h1:=Int.le_of_dvd (show 0<u.1/zg st u.1 by omega) hb.dvd;have h2:u.1/zg st u.1<=u.1:=Int.ediv_le_self _ (by omega);omega
  have sbL:st*b∣L:=y1H s0 u1 sL (hwL u mu) hb.dvd;have sb1:1<=st*b:=by
   have:=Int.mul_pos (show 0<st by omega) (show 0<b by omega);omega
  have sbd:L<st*b*2^d:=by
   have e:st*2^(d+1)=st*2*2^d:=by rw[Int.pow_succ,Int.mul_comm (2^d) 2,Int.mul_assoc]
   have h1:=Int.mul_le_mul_of_nonneg_left b2 (show 0<=st by omega);have h2:=Int.mul_le_mul_of_nonneg_right h1 (show 0<=(2:Int)^d from Int.le_of_lt (Int.pow_pos (by decide)));rw[e] at sd;omega
  have g13:=g1.trans g3;walk_at "wp";refine⟨_,rfl,by omega,by omega,?_⟩;obtain⟨Sv,hSv⟩:∃Sv:St->Prop,Sv=fun σ=>∃o1,σ=[o1,some (.ref a),some (.ref pt),some (.ref D),some (.int b)]:=⟨_,rfl⟩
  obtain⟨Pv,hPv⟩:∃Pv:Addr->Nat->List V->Hp->Prop,Pv=fun B i ys H2=>H3 B=none/\Same H3 H2/\∃ps,PapsIn K (fun l=>H l=none/\l≠B) H2 ys ps/\ps.length=i/\(∀p∈ps,p.dep<=d)/\zn ws st r b 0 ps=true/\(∀(i:Nat) (p:Pap),ps[i]?=some p->PopR ws (st*b) (r+st*(i:Int)) ms p)/\((Pap.kns ps:Int)+ps.length)*(st*b)<=2*L*ps.length:=⟨_,rfl⟩
  refine qz Sv Pv (by rw[hSv];exact⟨none,rfl⟩) (fun B hB=>?_) (fun B j ys σ H2 hj hs hB hy h=>?_) (fun B ys H2 hB h=>?_)
  ·rw[hPv];exact⟨hB,zJ hB _,[],.nil,rfl,(fun p hp=>nomatch hp),by unfold zn;rfl,(fun i p h=>by simp at h),by simp [Pap.kns]⟩
  ·rw[hSv] at hs;rw[hPv] at h;obtain⟨o1,rfl⟩:=hs;refine pA fun Gn gK=>?_;obtain⟨nB,g4,ps,hps,pl,pd,rb,pop,knb⟩:=h;refine gK ?_;have g14:=g13.trans g4;have e0:(0:Int)+(j:Int)=j:=by omega
   walk_at "wp";rw[e0];refine⟨pt,st,r,b,_,rfl,Same.seqT g14 hpt,by omega,by omega,by omega,by omega,fun P1 nP1=>?_⟩;have g5:=zJ nP1 (y5g (st*b) (r+st*(j:Int)));have g15:=g14.trans g5;refine⟨a,P1,D,xs,ws,st*b,r+st*(j:Int),L,ms,rfl,g15.seq hS,hP.same g15,hw,hwL,L1,L5,SqT.of zH,sb1,sbL,sbd,SqL.of (g5 _ _ (g4 _ _ (g3 _ _ hD))),ml,fun k h=>hk k (msub k h).1,mcov.parted b j,fun v p1 H5 g6 hp1 d1 r1 po1 kn1=>?_⟩;have hB5:=g6 _ _ (g5 _ _ hB);have g56:=g5.trans g6;refine CompP.mk hB5 hy (by rw[sizeLine_eq];omega) (by rw[hSv];exact⟨_,rfl⟩) (by
    rw[hPv];refine⟨nB,(g4.trans g56).write nB _,ps++[p1],?_,by simp [pl],fun p hp=>?_,z3I rb (by rw[pl];exact r1),fun i p hp=>?_,?_⟩
    ·refine PapsIn.write hB5 (fun l h=>h.2) ((hps.mono g56).snoc (hp1.pap.imp fun l hl=>⟨?_,fun e=>?_⟩))
     ·cases e:H l with
      | none=>rfl
      | some o=>
       rw[g15 _ _ e] at hl;cases hl
     ·rw[e,g5 _ _ hB] at hl;cases hl
    ·rcases List.mem_append.mp hp with z|z
     ·exact pd p z
     ·rw[List.mem_singleton.mp z];exact d1
    ·by_cases hi:i<ps.length
     ·rw[List.getElem?_append_left hi] at hp;exact pop i p hp
     ·rw[List.getElem?_append_right (by omega)] at hp;have e0:i-ps.length=0:=by
       cases e:i-ps.length with
       | zero=>rfl
       | succ n=>rw[e] at hp;simp at hp
      rw[e0] at hp;cases hp;have ei:(i:Int)=(j:Int):=by omega
      rw[ei];exact po1
    ·have ek:Pap.kns (ps++[p1])=Pap.kns ps+p1.kn:=z6a ps p1;rw[ek,List.length_append];have e1:(((Pap.kns ps+p1.kn:Nat):Int)+((ps.length + [p1].length:Nat):Int))*(st*b)=((Pap.kns ps:Int)+ps.length)*(st*b)+((p1.kn:Int)+1)*(st*b):=by
      rw[←Int.add_mul];congr 1;simp;omega
     have e2:2*L*((ps.length + [p1].length:Nat):Int)=2*L*ps.length+2*L:=by
      rw[show ((ps.length + [p1].length:Nat):Int)=(ps.length:Int)+1 by simp,Int.mul_add,Int.mul_one]
     rw[e1,e2];omega)
  ·rw[hPv] at h;refine pA fun Go gL=>?_;obtain⟨nB,g4,ps,hps,pl,pd,rb,pop,knb⟩:=h;refine gL ?_;walk_at "wp";intro q1 nq;have gq:=zJ nq (.tup [V.str "parted",.int b,.ref B]);have nB':H B=none:=by
    cases e:H B with
    | none=>rfl
    | some o=>
     rw[g13 _ _ e] at nB;cases nB
   have lys:=hps.len;refine q (.ref q1) (.par b ps) _ ((g13.trans g4).trans gq) (.inr ⟨q1,B,b,ys,ps,rfl,rfl,zH,gq _ _ hB,nB',by omega,hps.mono gq⟩) ?_ ?_ (.par hms hz (by rw[em];rfl) (by rw[eu];exact hb) (by omega) pop) ?_
   ·have:=z6i pd;show Pap.deps ps+1<=d+1;omega
   ·unfold zh;rw[decide_eq_true b2,decide_eq_true (show (ps.length:Int)=b by omega),rb];rfl
   ·have lb:(ps.length:Int)=b:=by omega
    rw[lb] at knb;have h1:(((Pap.kns ps:Int)+b)*st)*b<=(2*L)*b:=by rw[Int.mul_assoc];exact knb
    have h2:=Int.le_of_mul_le_mul_right h1 (show 0<b by omega);have h3:((((Pap.par b ps).kn:Nat):Int)+1)*st<=((Pap.kns ps:Int)+b)*st:=Int.mul_le_mul_of_nonneg_right (by show ((Pap.kns ps+1:Nat):Int)+1<=_;omega) (by omega);omega
theorem y2k {ws:List T3} {u:T3} (h:u∈ws):u∈(z2j ws.length).map (wAt ws):=by
 refine pA fun Gp gM=>?_;obtain⟨i,hi,e⟩:=List.getElem_of_mem h;refine gM ?_;refine List.mem_map.mpr ⟨(i:Int),List.mem_map.mpr ⟨i,List.mem_range.mpr hi,rfl⟩,?_⟩;show ws.getD ((i:Int)).toNat (1,0,1)=u;rw[Int.toNat_natCast,List.getD_eq_getElem?_getD,List.getElem?_eq_getElem hi,e];rfl
theorem y3u {ws:List T3} (hw:∀u∈ws,1<=u.1) (h:x5 ws (yp (ws.map (·.1))).toNat=none):Cov ((z2j ws.length).map (wAt ws)) 1 0:=fun x=>by
 have L1:=xM (xs:=ws.map (·.1)) fun z hz=>by
  refine pA fun Gq gN=>?_;obtain⟨u,hu,rfl⟩:=List.mem_map.mp hz;refine gN ?_;exact hw u hu
 have dv:∀u∈ws,u.1∣yp (ws.map (·.1)):=fun u hu=>qM (fun z hz=>by
  refine pA fun Gr gO=>?_;obtain⟨u,hu,rfl⟩:=List.mem_map.mp hz;refine gO ?_;exact hw u hu) u.1 (List.mem_map.mpr ⟨u,hu,rfl⟩)
 generalize yp (ws.map (·.1))=L at *
 have m:=xv x L1;obtain⟨k,hk⟩:=yi x L;rcases qK (ws:=ws) (n:=L.toNat) with⟨i,e,_⟩|⟨_,all⟩
 ·rw[h] at e;cases e
 ·have a:=all (x%L).toNat (by omega);have e1:(((x%L).toNat:Nat):Int)=x%L:=by omega
  have e2:0+1*x=x%L+L*k:=by omega
  rw[e1,←kB (L:=L*k) (fun u hu=>Int.dvd_trans (dv u hu) ⟨k,rfl⟩)] at a;unfold zx at a;refine pA fun Gs gP=>?_;obtain⟨u,mu,hu⟩:=List.any_eq_true.mp a;refine gP ?_;refine⟨u,y2k mu,?_⟩;rw[e2];have hu':(x%L+L*k-u.2.1)%u.1<u.2.2:=of_decide_eq_true hu;exact hu'
noncomputable def z6B (K:PySem.W.Frag):Sp:=fun vs H Q _=>∃(a:Addr) (xs:List V) (ws:List T3),vs=[.ref a]/\SqL K H a xs/\Pl H xs ws/\(∀u∈ws,Wk u)/\ws.length<=200/\yp (ws.map (·.1))<=5000/\
 (x5 ws (yp (ws.map (·.1))).toNat≠none->∀H',Same H H'->Q .non H')/\(x5 ws (yp (ws.map (·.1))).toNat=none->∀(v:V) (p:Pap) (H':Hp),Same H H'->PTop K H H' v p->p.dep<=13->zh ws 1 0 p=true->PopR ws 1 0 (z2j ws.length) p->(p.kn:Int)+1<=2*yp (ws.map (·.1))->Q v H')
theorem z2R (T:TF K mg "cover_paper" jQ) (m_len:mg "len" = none) (m_range:mg "range" = none) (m_list:mg "list" = none) (C_ALL_TURNS:CT K mg "ALL_TURNS" [1,0]) (G_hole:Has P w K mg base 4 "hole" ["plan"] (z4i K)) (G_paper_of_part:Has P w K mg base 16 "paper_of_part" ["plan", "part", "near"] (y2L K 13)):Has P w K mg base 17 "cover_paper" ["plan"] (z6B K):=by
 refine pA fun Gu gQ=>?_;obtain⟨a_ALL_TURNS,e_ALL_TURNS,hAT⟩:=C_ALL_TURNS;refine gQ ?_;refine T.has z0N (fun _ _ _ _ _ _=>L2.bnd1 fun _=>rfl) (fun vs H Q E h=>?_) (fun f cdv A outer s H vs Q E hr h=>?_)
 ·refine pA fun Gv gR=>?_;obtain⟨a,xs,ws,rfl,_⟩:=h;refine gR ?_;rfl
 refine pA fun Gw gS=>?_;obtain⟨a,xs,ws,rfl,hS,hP,hw,hl,hL,q1,q2⟩:=h;refine gS ?_;refine⟨_,(zC (zi (zN z8v (zL (G_hole.mono (by first|decide|omega)) hr (zB (pv 0) zD)) jZ (zX _)) (zE (zK jZ)) zM) (zE (zK (zL (G_paper_of_part.mono (by first|decide|omega)) hr (zB (pv 0) (zB (v6 (v:=.ref a_ALL_TURNS) rfl e_ALL_TURNS rfl) (zB (yA (z2Z rfl) rfl m_list (by decide +kernel) (zB (z8o rfl m_range (zB (zY zc rfl m_len PySem.boot_len (zB (pv 0) zD)) zD)) zD)) zD))))))),?_⟩;have w1:∀u∈ws,1<=u.1:=fun u h=>(hw u h).1;have mp:∀z∈ws.map (·.1),1<=z:=fun z hz=>by
  refine pA fun Gx gU=>?_;obtain⟨u,hu,rfl⟩:=List.mem_map.mp hz;refine gU ?_;exact w1 u hu
 have L1:=xM mp;have dv:∀u∈ws,u.1∣yp (ws.map (·.1)):=fun u hu=>qM mp u.1 (List.mem_map.mpr ⟨u,hu,rfl⟩);have w2:∀u∈ws,1<=u.1/\u.1<=2^1000:=fun u hu=>⟨w1 u hu,by
  have h1:=Int.le_of_dvd (by omega) (dv u hu);exact Int.le_trans (Int.le_trans h1 hL) (by decide)⟩
 walk_at "wp";refine⟨a,xs,ws,rfl,hS,hP,w2,hl,hL,fun H1 g1=>?_⟩;cases e:x5 ws (yp (ws.map (·.1))).toNat with
 | some x=>
  walk_at "wp";exact q1 (by rw[e];exact fun z=>nomatch z) H1 g1
 | none=>
  walk_at "wp";refine⟨_,_,rfl,.inl (g1.seq hS),_,rfl,fun p1 z1=>?_⟩;have g2:=zJ z1 (.rng 0 (xs.length:Int));refine⟨p1,_,rfl,zH,by omega,by rw[hP.1];omega,fun l z2=>?_⟩;have z2':=z2;rw[hP.1] at g2 z2' ⊢;rw[Int.toNat_natCast];have g3:=zJ z2' (IL (z2j ws.length));have g4:=(g1.trans g2).trans g3;refine⟨a,a_ALL_TURNS,l,xs,ws,1,0,yp (ws.map (·.1)),z2j ws.length,rfl,g4.seq hS,hP.same g4,hw,dv,L1,hL,hAT _,by decide,⟨_,(Int.one_mul _).symm⟩,by omega,SqL.of zH,by unfold z2j;simp;omega,fun k hk=>?_,y3u w1 e,fun v p H' g5 hp hd hr2 po kb=>?_⟩
  ·refine pA fun Gy gW=>?_;obtain⟨i,hi,rfl⟩:=List.mem_map.mp hk;refine gW ?_;have:=List.mem_range.mp hi;omega
  ·exact q2 e v p H' (g4.trans g5) (hp.older g4) hd hr2 po (by rw[Int.mul_one] at kb;exact kb)
noncomputable def z2v (K:PySem.W.Frag):Sp:=fun vs H Q _=>∃(a b:Addr) (xs ys:List V) (ws us:List T3),vs=[.ref a,.ref b]/\SqL K H a xs/\Pl H xs ws/\SqL K H b ys/\Pl H ys us/\(∀u∈ws,Wk u)/\(∀u∈us,Wk u)/\(∀u∈ws,u.1<=2^1000)/\ws.length<=14/\us.length<=14/\yp ((shs ws us).map (·.1))<=5000/\
 ∀H',Same H H'->Q (oV (x5 (shs ws us) (yp ((shs ws us).map (·.1))).toNat)) H'
theorem y2x {ws us:List T3} {B:Int} (hw:∀u∈ws,Wk u) (hB:∀u∈ws,u.1<=B):∀x∈shs ws us,1<=x.1/\x.1<=B:=fun x hx=>by
 refine pA fun Gz gX=>?_;obtain⟨u,mu,v,mv,rfl⟩:=wD.mp hx;refine gX ?_;have h1:=j7 (v:=v) (hw u mu).1;have h2:zg u.1 v.1<=u.1:=yM _ (by have:=(hw u mu).1;omega);exact⟨h1,Int.le_trans h2 (hB u mu)⟩
theorem z0S (T:TF K mg "lonely_shift" xl) (G_shifts:Has P w K mg base 3 "shifts" ["one", "other"] (kF K)) (G_hole:Has P w K mg base 4 "hole" ["plan"] (z4i K)):Has P w K mg base 5 "lonely_shift" ["one", "other"] (z2v K):=by
 refine T.has vM (fun _ _ _ _ _ _=>L2.bnd2 fun _ _=>rfl) (fun vs H Q E h=>?_) (fun f cdv A outer s H vs Q E hr h=>?_)
 ·refine pA fun G0 gZ=>?_;obtain⟨a,b,xs,ys,ws,us,rfl,_⟩:=h;refine gZ ?_;rfl
 refine pA fun Ga hC=>?_;obtain⟨a,b,xs,ys,ws,us,rfl,hS,hP,hS2,hP2,hw,hu,wB,lw,lu,hL,q⟩:=h;refine hC ?_;refine⟨_,(zE (zK (zL (G_hole.mono (by first|decide|omega)) hr (zB (zL (G_shifts.mono (by first|decide|omega)) hr (zB (pv 0) (zB (pv 1) zD))) zD)))),?_⟩;walk_at "wp";refine⟨a,b,xs,ys,ws,us,rfl,hS,hP,hS2,hP2,fun u h=>(hw u h).1,fun u h=>(hu u h).1,by omega,by omega,fun D zs H1 g1 nD hD hZ=>?_⟩;have lm:=Nat.mul_le_mul lw lu;exact⟨D,zs,_,rfl,SqL.of hD,hZ,y2x hw wB,by rw[jC];omega,hL,fun H' g'=>q H' (g1.trans g')⟩
noncomputable def z0e (K:PySem.W.Frag):Sp:=fun vs H Q _=>∃(a b:Addr) (xs ys:List V) (ws us:List T3),vs=[.ref a,.ref b]/\SqL K H a xs/\Pl H xs ws/\SqL K H b ys/\Pl H ys us/\(∀u∈ws,Wk u)/\(∀u∈us,Wk u)/\ws.length<=14/\us.length<=14/\yp ((shs ws us).map (·.1))<=5000/\
 (x5 (shs ws us) (yp ((shs ws us).map (·.1))).toNat≠none->∀H',Same H H'->Q .non H')/\(x5 (shs ws us) (yp ((shs ws us).map (·.1))).toNat=none->∀(v:V) (p:Pap) (H':Hp),Same H H'->PTop K H H' v p->p.dep<=13->zh (shs ws us) 1 0 p=true->PopR (shs ws us) 1 0 (z2j (shs ws us).length) p->(p.kn:Int)+1<=2*yp ((shs ws us).map (·.1))->Q v H')
theorem vx (T:TF K mg "meeting_paper" xV) (G_shifts:Has P w K mg base 3 "shifts" ["one", "other"] (kF K)) (G_cover_paper:Has P w K mg base 17 "cover_paper" ["plan"] (z6B K)):Has P w K mg base 18 "meeting_paper" ["one", "other"] (z0e K):=by
 refine T.has w5 (fun _ _ _ _ _ _=>L2.bnd2 fun _ _=>rfl) (fun vs H Q E h=>?_) (fun f cdv A outer s H vs Q E hr h=>?_)
 ·refine pA fun Gb hJ=>?_;obtain⟨a,b,xs,ys,ws,us,rfl,_⟩:=h;refine hJ ?_;rfl
 refine pA fun Gc hU=>?_;obtain⟨a,b,xs,ys,ws,us,rfl,hS,hP,hS2,hP2,hw,hu,lw,lu,hL,q1,q2⟩:=h;refine hU ?_;refine⟨_,(zE (zK (zL (G_cover_paper.mono (by first|decide|omega)) hr (zB (zL (G_shifts.mono (by first|decide|omega)) hr (zB (pv 0) (zB (pv 1) zD))) zD)))),?_⟩;walk_at "wp";refine⟨a,b,xs,ys,ws,us,rfl,hS,hP,hS2,hP2,fun u h=>(hw u h).1,fun u h=>(hu u h).1,by omega,by omega,fun D zs H1 g1 nD hD hZ=>?_⟩;have lm:=Nat.mul_le_mul lw lu;exact⟨D,zs,_,rfl,SqL.of hD,hZ,z3B hw hu,by rw[jC];omega,hL,fun hn H' g'=>q1 hn H' (g1.trans g'),fun hn v p H' g' hp hd hr2 po kb=>q2 hn v p H' (g1.trans g') (hp.older g1) hd hr2 po kb⟩
noncomputable def z5u (K:PySem.W.Frag) (d:Nat):Sp:=fun vs H Q _=>∃(v:V) (p:Pap),vs=[v]/\PapIn K y0Y H v p/\p.dep<d/\p.kn<=2^20/\∀(D:Addr) (H':Hp),Same H H'->H D=none->H' D=some (IL p.nm)->Q (.ref D) H'
theorem z2K (T:TF K mg "paper_names" jM):∀d:Nat,Has P w K mg base (d+1) "paper_names" ["paper"] (z5u K d):=by
 intro d
 induction d with
 | zero=>
  refine T.has yx (fun _ _ _ _ _ _=>L2.bnd1 fun _=>rfl) (fun vs H Q E h=>?_) (fun f cdv A outer s H vs Q E hr h=>?_)
  ·refine pA fun Ge hV=>?_;obtain⟨_,_,_,_,h,_⟩:=h;refine hV ?_;exact absurd h (Nat.not_lt_zero _)
  ·refine pA fun Gf gC=>?_;obtain⟨_,_,_,_,h,_⟩:=h;refine gC ?_;exact absurd h (Nat.not_lt_zero _)
 | succ d ih=>
 have G_paper_names:=ih;refine T.has yx (fun _ _ _ _ _ _=>L2.bnd1 fun _=>rfl) (fun vs H Q E h=>?_) (fun f cdv A outer s H vs Q E hr h=>?_)
 ·refine pA fun Gg gE=>?_;obtain⟨v,p,rfl,_⟩:=h;refine gE ?_;rfl
 refine pA fun Gh gF=>?_;obtain⟨v,p,rfl,hv,hd,hk,q⟩:=h;refine gF ?_;refine⟨_,(zC (zi (zN xE (zU zZ (pv 0) zF (fun _ _=>rfl)) zS (zX _)) (zE (zK (yq (zB (zU zZ (pv 0) zF (fun _ _=>rfl)) zD)))) zM) (zC (zR (i:=1) yx.nd rfl (Or.inl rfl) (yq zD)) (zC (y6 PassesOwn.never rfl (yC (zU zZ (pv 0) zF (fun _ _=>rfl))) (zQ (i:=2) yx.nd rfl (Or.inl rfl)) (zE (yt (xn PySem.F.plainAttrs_list PySem.F.slot_list_extend PySem.F.type_list_extend z3T (pv 1) (zB (zL (G_paper_names.mono (by first|decide|omega)) hr (zB (pv 2) zD)) zD))))) (zE (zK (pv 1)))))),?_⟩;cases hv with
 | @inn b k hb=>
  have hT:SqT K H b [.str "in",.int k]:=SqT.of hb;walk_at "wp";refine⟨_,_,_,.str "in",rfl,rfl,hT,rfl,rfl,?_⟩;walk_at "wp";refine⟨_,_,_,.int k,rfl,rfl,hT,rfl,fun D hD=>?_⟩;exact q D _ (zJ hD _) hD zH
 | @par b l bb ys ps hb hl _ lz hs=>
  have hT:SqT K H b [.str "parted",.int bb,.ref l]:=SqT.of hb;simp only [Pap.dep] at hd;simp only [Pap.kn] at hk;have hlen:=hs.len;walk_at "wp";refine⟨_,_,_,.str "parted",rfl,rfl,hT,rfl,rfl,?_⟩;walk_at "wp";refine⟨fun c=>absurd c (by decide),fun _ D hD=>?_⟩;have g0:=zJ hD (.lst []);refine⟨_,_,_,.ref l,rfl,rfl,Same.seqT g0 hT,rfl,?_⟩;refine⟨_,rfl,⟨_,SqL.of (g0 _ _ hl)⟩,?_⟩;obtain⟨W,hW⟩:∃W:Nat->St->Hp->Prop,W=fun i σ H'=>∃o:Option V,σ=[some (.ref b),some (.ref D),o]/\Same H H'/\H' D=some (IL (Pap.nms (ps.take i))):=⟨_,rfl⟩
  refine yR (xs:=ys) W ?_ (fun i σ H' _ z=>?_) (fun i x σ H' hx z=>?_) (fun σ H' z=>?_)
  ·rw[hW];exact⟨none,rfl,g0,zH⟩
  ·rw[hW] at z;refine pA fun Gi gG=>?_;obtain⟨_,_,g,_⟩:=z;refine gG ?_;exact SqL.of (g _ _ hl)
  ·rw[hW] at z;refine pA fun Gj gH=>?_;obtain⟨o,rfl,g,hD2⟩:=z;refine gH ?_;refine pA fun Gk gI=>?_;obtain⟨p,e1,hp⟩:=hs.at hx;refine gI ?_;have m1:=Pap.dep_mem (List.mem_of_getElem? e1);have m2:=Pap.kn_mem (List.mem_of_getElem? e1);walk_at "wp";refine⟨.inl ⟨rfl,_,SqL.of hD2⟩,x,p,rfl,hp.mono g,by omega,by omega,fun E2 H3 g3 nE hE=>?_⟩;have hD3:=g3 _ _ hD2;have l1:=Pap.nms_len (ps.take i);have l2:=p.nm_len;have l3:=Pap.kns_take e1;have l4:Pap.kns (ps.take (i+1))<=Pap.kns ps:=by
    have:=Pap.kns_append (ps.take (i+1)) (ps.drop (i+1));rw[List.take_append_drop] at this;omega
   refine⟨_,_,_,_,rfl,rfl,hD3,hE,by rw[List.length_map,List.length_map,sizeLine_eq];omega,?_⟩;rw[hW];refine⟨_,rfl,(g.trans g3).write hD _,?_⟩;rw[zH,Pap.nms_take e1];simp
  ·rw[hW] at z;refine pA fun Gm gJ=>?_;obtain⟨o,rfl,g,hD2⟩:=z;refine gJ ?_;rw[hlen,List.take_length] at hD2;walk_at "wp";exact q D H' g hD hD2
noncomputable def prd (ws us:List T3) (k:Int):Int:=yp [(ws.getD (k/(us.length:Int)).toNat (1,0,1)).1,(us.getD (k%(us.length:Int)).toNat (1,0,1)).1]
noncomputable def IsMx (f:Int->Int) (ns:List Int) (M:Int):Prop:=(∃k∈ns,M=f k)/\∀k∈ns,f k<=M
theorem IsMx.uniq {f:Int->Int} {ns:List Int} {M N:Int} (h:IsMx f ns M) (k:IsMx f ns N):M=N:=by
 refine pA fun Gn gK=>?_;obtain⟨⟨a,ha,rfl⟩,h2⟩:=h;refine gK ?_;refine pA fun Go gL=>?_;obtain⟨⟨b,hb,rfl⟩,k2⟩:=k;refine gL ?_;have:=h2 b hb;have:=k2 a ha;omega
mutual
theorem vZ {ws:List T3}:∀ {s r:Int} {p:Pap},zh ws s r p=true->(∀k∈p.nm,0<=k/\k<ws.length)/\p.nm≠[]
 | s,r,.inn k,h=>by
  simp only [zh,Bool.and_eq_true,decide_eq_true_eq] at h;refine⟨fun j hj=>?_,by simp [Pap.nm]⟩;rw[show j=k from List.mem_singleton.mp hj];exact⟨h.1,h.2.1⟩
 | s,r,.par b ps,h=>by
  simp only [zh,Bool.and_eq_true,decide_eq_true_eq] at h;exact z0o h.2.2 (fun e=>by rw[e] at h;simp at h;omega)
theorem z0o {ws:List T3}:∀ {s r b:Int} {c:Nat} {ps:List Pap},zn ws s r b c ps=true->ps≠[]->(∀k∈Pap.nms ps,0<=k/\k<ws.length)/\Pap.nms ps≠[]
 | s,r,b,c,[],h,ne=>absurd rfl ne
 | s,r,b,c,p::ps,h,ne=>by
  simp only [zn,Bool.and_eq_true] at h;have h1:=vZ h.1;refine⟨fun k hk=>?_,by simp [Pap.nms,h1.2]⟩;rcases List.mem_append.mp hk with z|z
  ·exact h1.1 k z
  ·by_cases e:ps=[]
   ·rw[e] at z;exact nomatch z
   ·exact (z0o h.2 e).1 k z
end
noncomputable def z0d (K:PySem.W.Frag):Sp:=fun vs H Q _=>∃(v:V) (b:Addr) (ys:List V) (k:Int),vs=[v,.ref b,.int k]/\SqL K H b ys/\0<ys.length/\ys.length<=1000/\∀D,H D=none->Q (.ref D) (upd H D (.tup [.int (k/ys.length),.int (k%ys.length)]))
theorem z9k (T:TF K mg "pair_of" vR) (m_len:mg "len" = none):Has P w K mg base 1 "pair_of" ["one", "other", "k"] (z0d K):=by
 refine T.has z7F (fun _ _ _ _ _ _=>L2.bnd3 fun _ _ _=>rfl) (fun vs H Q E h=>?_) (fun f cdv A outer s H vs Q E hr h=>?_)
 ·refine pA fun Gp gM=>?_;obtain⟨v,b,ys,k,rfl,_⟩:=h;refine gM ?_;rfl
 refine pA fun Gq gN=>?_;obtain⟨v,b,ys,k,rfl,hS,l0,l1,q⟩:=h;refine gN ?_;refine⟨_,(zE (zK (xq (zB (zW yz (pv 2) (zY zc rfl m_len PySem.boot_len (zB (pv 1) zD))) (zB (zW yE (pv 2) (zY zc rfl m_len PySem.boot_len (zB (pv 1) zD))) zD))))),?_⟩;walk_at "wp";refine⟨_,_,rfl,.inl hS,y0b 20 (by omega) (by omega) (by decide),_,_,rfl,.inl hS,by omega,q⟩
noncomputable def kI (K:PySem.W.Frag):Sp:=fun vs H Q _=>∃(a b:Addr) (xs ys:List V) (ws us:List T3) (k:Int),vs=[.ref a,.ref b,.int k]/\SqL K H a xs/\Pl H xs ws/\SqL K H b ys/\Pl H ys us/\(∀u∈ws,1<=u.1/\u.1<=2^1000)/\(∀u∈us,1<=u.1/\u.1<=2^1000)/\us.length<=1000/\0<=k/\k<ws.length*us.length/\∀H',Same H H'->Q (.int (prd ws us k)) H'
theorem z3i (T:TF K mg "pair_round" jd) (G_pair_of:Has P w K mg base 1 "pair_of" ["one", "other", "k"] (z0d K)) (G_least_round:Has P w K mg base 2 "least_round" ["numbers"] (xi K)):Has P w K mg base 3 "pair_round" ["one", "other", "k"] (kI K):=by
 refine T.has kL (fun _ _ _ _ _ _=>L2.bnd3 fun _ _ _=>rfl) (fun vs H Q E h=>?_) (fun f cdv A outer s H vs Q E hr h=>?_)
 ·refine pA fun Gr gO=>?_;obtain⟨a,b,xs,ys,ws,us,k,rfl,_⟩:=h;refine gO ?_;rfl
 refine pA fun Gs gP=>?_;obtain⟨a,b,xs,ys,ws,us,k,rfl,hS,hP,hS2,hP2,hw,hu,lu,k0,k1,q⟩:=h;refine gP ?_;refine⟨_,(zC (zR (i:=3) kL.nd rfl (Or.inl rfl) (zL (G_pair_of.mono (by first|decide|omega)) hr (zB (pv 0) (zB (pv 1) (zB (pv 2) zD))))) (zE (zK (zL (G_least_round.mono (by first|decide|omega)) hr (zB (yq (zB (zU zZ (zU zo (pv 0) (zU zZ (pv 3) zF (fun _ _=>rfl)) (fun _ _=>rfl)) zF (fun _ _=>rfl)) (zB (zU zZ (zU zo (pv 1) (zU zZ (pv 3) zF (fun _ _=>rfl)) (fun _ _=>rfl)) zF (fun _ _=>rfl)) zD))) zD))))),?_⟩;have ul:0<us.length:=by
  rcases Nat.eq_zero_or_pos us.length with z|z
  ·rw[z] at k1;simp at k1;omega
  ·exact z
 walk_at "wp";have ly:=hP2.1;refine⟨_,b,ys,k,rfl,hS2,by omega,by omega,fun D nD=>?_⟩;rw[ly];have g1:=zJ nD (.tup [.int (k/us.length),.int (k%us.length)]);have hD:=zH (H:=H) (a:=D) (o:=.tup [.int (k/us.length),.int (k%us.length)]);generalize upd H D (.tup [.int (k/us.length),.int (k%us.length)])=H1 at g1 hD ⊢;have q0:0<=k/(us.length:Int):=Int.ediv_nonneg k0 (by omega);have q1:k/(us.length:Int)<ws.length:=Int.ediv_lt_of_lt_mul (by omega) k1;have r0:=Int.emod_nonneg k (show (us.length:Int)≠0 by omega);have r1:=Int.emod_lt_of_pos k (show (0:Int)<us.length by omega);refine pA fun Gu gQ=>?_;obtain⟨p1,t1,e1,f1,m1,z1⟩:=(hP.same g1).ix q0 q1;refine gQ ?_;refine pA fun Gv gR=>?_;obtain⟨p2,t2,e2,f2,m2,z2⟩:=(hP2.same g1).ix r0 r1;refine gR ?_;refine⟨D,_,_,_,rfl,rfl,SqT.of hD,zj (j:=0) rfl,zf (g1.seq hS) e1 ⟨p1,_,_,_,rfl,rfl,SqT.of z1,zj (j:=0) rfl,D,_,_,_,rfl,rfl,SqT.of hD,zj (j:=1) rfl,zf (g1.seq hS2) e2 ⟨p2,_,_,_,rfl,rfl,SqT.of z2,zj (j:=0) rfl,fun L nL=>?_⟩⟩⟩;refine⟨L,[t1.1,t2.1],rfl,SqL.of zH,by simp,fun z hz=>?_,?_⟩
 ·simp only [List.mem_cons,List.not_mem_nil,or_false] at hz;rcases hz with rfl|rfl
  ·exact hw t1 m1
  ·exact hu t2 m2
 ·have:=q _ (g1.trans (zJ nL (.lst [.int t1.1,.int t2.1])));unfold prd at this;rw[List.getD_eq_getElem?_getD,f1,List.getD_eq_getElem?_getD,f2] at this;exact this
noncomputable def kH (K:PySem.W.Frag) (d:Nat):Sp:=fun vs H Q _=>∃(a b:Addr) (v:V) (xs ys:List V) (ws us:List T3) (p:Pap),vs=[.ref a,.ref b,v]/\SqL K H a xs/\Pl H xs ws/\SqL K H b ys/\Pl H ys us/\(∀u∈ws,Wk u/\u.1<=2^1000)/\(∀u∈us,Wk u/\u.1<=2^1000)/\ws.length<=100/\us.length<=100/\PapIn K y0Y H v p/\p.dep<d/\p.kn<64/\zh (shs ws us) 1 0 p=true/\∀M H',Same H H'->IsMx (prd ws us) p.nm M->Q (.int M) H'
theorem z3h {d:Nat} (T:TF K mg "paper_wait" jc) (m_max:mg "max" = none) (m_set:mg "set" = none) (m_sorted:mg "sorted" = none) (G_lets_meet:Has P w K mg base (d+5) "lets_meet" ["one", "other", "paper"] (wP K d)) (G_paper_names:Has P w K mg base (d+1) "paper_names" ["paper"] (z5u K d)) (G_pair_round:Has P w K mg base 3 "pair_round" ["one", "other", "k"] (kI K)):Has P w K mg base (d+6) "paper_wait" ["one", "other", "paper"] (kH K d):=by
 refine T.has z1e (fun _ _ _ _ _ _=>L2.bnd3 fun _ _ _=>rfl) (fun vs H Q E h=>?_) (fun f cdv A outer s H vs Q E hr h=>?_)
 ·refine pA fun Gw gS=>?_;obtain⟨a,b,v,xs,ys,ws,us,p,rfl,_⟩:=h;refine gS ?_;rfl
 refine pA fun Gx gU=>?_;obtain⟨a,b,v,xs,ys,ws,us,p,rfl,hS,hP,hS2,hP2,hw,hu,lw,lu,hv,hd,hk,hr2,q⟩:=h;refine gU ?_;refine⟨_,(zC (zi (xc (yd (zL (G_lets_meet.mono (by first|decide|omega)) hr (zB (pv 0) (zB (pv 1) (zB (pv 2) zD)))) (fun _=>rfl))) (zE yT) zM) (zE (zK (zY (z3z rfl) rfl m_max (by decide +kernel) (zB (ya (CompSc.capt (own:=["k"]) (capt:=["other", "one"]) (fr:=[1,0]) rfl ⟨rfl,rfl,rfl,rfl,rfl,⟨rfl,rfl,rfl,rfl,rfl,trivial⟩⟩ (by decide +kernel) (by decide +kernel) rfl (by decide +kernel)) rfl (yC (zY (z3x rfl) rfl m_sorted (by decide +kernel) (zB (yA (y0P rfl) rfl m_set (by decide +kernel) (zB (zL (G_paper_names.mono (by first|decide|omega)) hr (zB (pv 2) zD)) zD)) zD))) (fun _ _ _=>(zQ (i:=0) (show (["k", "other", "one"]:List Str).Nodup from by decide +kernel) rfl (Or.inl rfl) (Or.inr rfl))) (fun _ _ _=>yX) (fun _ _ _=>(zL (G_pair_round.mono (by first|decide|omega)) hr (zB (pv 2) (zB (pv 1) (zB (pv 0) zD)))))) zD))))),?_⟩;walk_at "wp";refine⟨a,b,v,xs,ys,ws,us,p,rfl,hS,hP,hS2,hP2,fun u h=>(hw u h).1,fun u h=>(hu u h).1,lw,lu,hv,hd,fun H1 g1=>?_⟩;rw[hr2];walk_at "wp";refine⟨v,p,rfl,hv.mono g1,hd,by omega,fun L H2 g2 nL hL=>?_⟩;have nl:=p.nm_len;have G2:=g1.trans g2;refine⟨L,p.nm,rfl,SqL.of hL,by omega,fun S f1 n nS hn hf=>?_⟩;generalize (z0J CX0 P w K mg base _ _ _ f cdv A outer s H E).prog=Pr;generalize (z0J CX0 P w K mg base _ _ _ f cdv A outer s H E).w=Wo;refine⟨S,f1,n,rfl,zH,by omega,fun D ns nD hl hm _=>?_⟩;have G3:=(G2.trans (zJ nS (y4F Pr Wo S f1 n))).trans (zJ nD (.lst (ns.map V.int)));have hD:=zH (H:=upd H2 S (y4F Pr Wo S f1 n)) (a:=D) (o:=.lst (ns.map V.int));generalize upd (upd H2 S (y4F Pr Wo S f1 n)) D (.lst (ns.map V.int))=H3 at G3 hD ⊢;have rn:=vZ hr2;rw[jC] at rn;have hns:∀k,k∈ns ↔ k∈p.nm:=fun k=>(hm k).symm.trans (hf k);have nsl:ns.length<=64:=by omega
 refine⟨⟨_,SqL.of hD⟩,?_⟩;obtain⟨Sv,hSv⟩:∃Sv:St->Prop,Sv=fun σ=>∃o1,σ=[o1,some (.ref b),some (.ref a)]:=⟨_,rfl⟩
 obtain⟨Pv,hPv⟩:∃Pv:Addr->Nat->List V->Hp->Prop,Pv=fun D2 i ys H4=>H3 D2=none/\Same H3 H4/\ys=((ns.take i).map (prd ws us)).map V.int:=⟨_,rfl⟩
 refine yL (xs:=ns.map V.int) Sv Pv (by rw[hSv];exact⟨none,rfl⟩) (fun D2 hD2=>?_) (fun D2 i ys H4 hD2 h=>?_) (fun D2 i x ys σ H4 hx hi hs hD2 hy h=>?_) (fun D2 ys H4 hD2 h=>?_)
 ·rw[hPv];exact⟨hD2,zJ hD2 _,rfl⟩
 ·rw[hPv] at h;exact SqL.of (h.2.1 _ _ hD)
 ·rw[hSv] at hs;rw[hPv] at h;obtain⟨o1,rfl⟩:=hs;refine pA fun Gy gW=>?_;obtain⟨nD2,g,rfl⟩:=h;refine gW ?_;rw[List.getElem?_map] at hx;refine pA fun Gz gX=>?_;obtain⟨k,hn,rfl⟩:=Option.map_eq_some_iff.mp hx;refine gX ?_;rw[List.length_map] at hi;have kb:=rn.1 k ((hns k).mp (List.mem_of_getElem? hn));have G:=G3.trans g;walk_at "wp";refine⟨a,b,xs,_,ws,us,k,rfl,G.seq hS,hP.same G,G.seq hS2,hP2.same G,fun u h=>⟨(hw u h).1.1,(hw u h).2⟩,fun u h=>⟨(hu u h).1.1,(hu u h).2⟩,by omega,kb.1,by rw[←Int.natCast_mul];exact kb.2,fun H5 g5=>?_⟩;have hD3:=g5 _ _ hD2;refine CompP.mk hD3 hy (by rw[sizeLine_eq];omega) (by rw[hSv];exact⟨_,rfl⟩) (by
   rw[hPv];refine⟨nD2,(g.trans g5).write nD2 _,?_⟩;rw[List.take_add_one,hn];simp)
 ·rw[hPv] at h;refine pA fun G0 gZ=>?_;obtain⟨nD2,g,rfl⟩:=h;refine gZ ?_;rw[List.length_map,List.take_length] at hD2;have nne:ns≠[]:=fun e=>by
   obtain⟨k,hk⟩:=List.exists_mem_of_ne_nil _ rn.2;have:=(hns k).mpr hk;rw[e] at this;exact nomatch this
  refine⟨D2,ns.map (prd ws us),rfl,SqL.of hD2,by simpa using nne,fun M hM1 hM2=>q M _ (G3.trans g) ⟨?_,fun k hk=>hM2 _ (List.mem_map.mpr ⟨k,(hns k).mpr hk,rfl⟩)⟩⟩;refine pA fun Ga hC=>?_;obtain⟨k,hk,rfl⟩:=List.mem_map.mp hM1;refine hC ?_;exact⟨k,(hns k).mp hk,rfl⟩
theorem y2P:∀ {ws us:List T3} {k:Nat},k<ws.length*us.length->(shs ws us).getD k (1,0,1)=sh2 (ws.getD (k/us.length) (1,0,1)) (us.getD (k%us.length) (1,0,1))
 | [],us,k,h=>by simp at h
 | u::ws,us,k,h=>by
  have e:shs (u::ws) us=us.map (sh2 u)++shs ws us:=by simp [shs]
  rw[List.length_cons,Nat.succ_mul] at h;have n0:0<us.length:=by
   rcases Nat.eq_zero_or_pos us.length with z|z
   ·rw[z] at h;simp at h
   ·exact z
  rw[e,List.getD_eq_getElem?_getD];by_cases hk:k<us.length
  ·rw[List.getElem?_append_left (by simpa using hk),Nat.div_eq_of_lt hk,Nat.mod_eq_of_lt hk,List.getElem?_map,List.getElem?_eq_getElem hk];simp [List.getD_eq_getElem?_getD,List.getElem?_eq_getElem hk]
  ·have ih:=y2P (ws:=ws) (us:=us) (k:=k-us.length) (by omega);rw[List.getElem?_append_right (by simp;omega),List.length_map];rw[List.getD_eq_getElem?_getD] at ih;rw[ih];have ek:k=(k-us.length)+us.length:=by omega
   have e1:k/us.length=(k-us.length)/us.length+1:=by
    conv=>lhs;rw[ek]
    rw[Nat.add_div_right _ n0]
   have e2:k%us.length=(k-us.length)%us.length:=by
    conv=>lhs;rw[ek]
    rw[Nat.add_mod_right]
   rw[e1,e2,List.getD_cons_succ]
theorem z1q:∀ {ps:List Pap} {k:Int},k∈Pap.nms ps ↔ ∃p∈ps,k∈p.nm
 | [],k=>by simp [Pap.nms]
 | p::ps,k=>by
  have:=z1q (ps:=ps) (k:=k);simp [Pap.nms,this]
theorem y4h {a b:Int} (ha:1<=a) (hb:1<=b):a/zg a b*b=yp [a,b]:=by
 have e:yp [a,b]=vh a b:=by
  unfold yp;simp only [List.foldl];have:vh 1 a=a:=by
   unfold vh;rw[y1o,Int.ediv_one,Int.one_mul]
  rw[this]
 rw[e,←y1b,Int.mul_comm a b,Int.mul_ediv_assoc b (zt a b),Int.mul_comm]
theorem y1f {f:Int->Int} {ps:List Pap} {Ms:List Int} {M:Int} (hl:Ms.length=ps.length) (h:∀(j:Nat) (m:Int) (p:Pap),Ms[j]?=some m->ps[j]?=some p->IsMx f p.nm m) (hM:M∈Ms) (hz:∀z∈Ms,z<=M):IsMx f (Pap.nms ps) M:=by
 refine⟨?_,fun k hk=>?_⟩
 ·obtain⟨j,hj⟩:=List.getElem?_of_mem hM;have lj:=(List.getElem?_eq_some_iff.mp hj).1;refine pA fun Gb hJ=>?_;obtain⟨⟨k,hk,e⟩,_⟩:=h j M _ hj (List.getElem?_eq_getElem (by omega:j<ps.length));refine hJ ?_;exact⟨k,z1q.mpr ⟨_,List.getElem_mem _,hk⟩,e⟩
 ·refine pA fun Gc hU=>?_;obtain⟨p,hp,hk2⟩:=z1q.mp hk;refine hU ?_;obtain⟨j,hj⟩:=List.getElem?_of_mem hp;have lj:=(List.getElem?_eq_some_iff.mp hj).1;have e:Ms[j]?=some (Ms[j]'(by omega)):=List.getElem?_eq_getElem (by omega);exact Int.le_trans ((h j _ p e hj).2 k hk2) (hz _ (List.getElem_mem _))
theorem z4k {ws us:List T3} {m n:Int} (hw:∀u∈ws,u.1∣m) (hu:∀u∈us,u.1∣n):∀x∈shs ws us,x.1∣zg m n:=fun x hx=>by
 refine pA fun Ge hV=>?_;obtain⟨u,mu,v,mv,rfl⟩:=wD.mp hx;refine hV ?_;exact y1y (Int.dvd_trans (zt _ _) (hw u mu)) (Int.dvd_trans (zr _ _) (hu v mv))
theorem y1Z {ws us:List T3} {m n:Int} (hw1:∀u∈ws,Wk u) (hw:∀u∈ws,u.1∣m) (hu:∀u∈us,u.1∣n) (m0:1<=m):1<=yp ((shs ws us).map (·.1))/\yp ((shs ws us).map (·.1))∣zg m n/\yp ((shs ws us).map (·.1))<=m/\∀x∈shs ws us,x.1∣yp ((shs ws us).map (·.1)):=by
 have h1:∀x∈(shs ws us).map (·.1),1<=x:=fun x hx=>by
  refine pA fun Gf gC=>?_;obtain⟨y,hy,rfl⟩:=List.mem_map.mp hx;refine gC ?_;refine pA fun Gg gE=>?_;obtain⟨u,mu,v,mv,rfl⟩:=wD.mp hy;refine gE ?_;exact j7 (hw1 u mu).1
 have h2:yp ((shs ws us).map (·.1))∣zg m n:=(xf h1).mpr fun x hx=>by
  refine pA fun Gh gF=>?_;obtain⟨y,hy,rfl⟩:=List.mem_map.mp hx;refine gF ?_;exact z4k hw hu y hy
 have gp:=yK (a:=m) (b:=n) (by omega);have h3:=Int.le_of_dvd gp h2;have h4:=yM n (show 0<m by omega);exact⟨xM h1,h2,by omega,fun x hx=>qM h1 _ (List.mem_map_of_mem hx)⟩
noncomputable def shW (by_:Int) (u:T3):T3:=(u.1,(u.2.1+by_)%u.1,u.2.2)
noncomputable def z0Z (K:PySem.W.Frag):Sp:=fun vs H Q _=>∃(a:Addr) (b:Int) (xs:List V) (ws:List T3),vs=[.ref a,.int b]/\SqL K H a xs/\Pl H xs ws/\(∀u∈ws,1<=u.1)/\ws.length<=1000/\∀(D:Addr) (ys:List V) (H':Hp),Same H H'->H D=none->H' D=some (.lst ys)->Pl H' ys (ws.map (shW b))->Q (.ref D) H'
theorem z9g (T:TF K mg "shifted" vO):Has P w K mg base 1 "shifted" ["plan", "by"] (z0Z K):=by
 refine T.has z7D (fun _ _ _ _ _ _=>L2.bnd2 fun _ _=>rfl) (fun vs H Q E h=>?_) (fun f cdv A outer s H vs Q E hr h=>?_)
 ·refine pA fun Gi gG=>?_;obtain⟨a,b,xs,ws,rfl,_⟩:=h;refine gG ?_;rfl
 refine pA fun Gj gH=>?_;obtain⟨a,b,xs,ws,rfl,hS,hP,hw,hlen,q⟩:=h;refine gH ?_;refine⟨_,(zE (zK (ya (CompSc.capt (own:=["period", "first", "length"]) (capt:=["by"]) (fr:=[1]) rfl ⟨rfl,rfl,rfl,rfl,rfl,trivial⟩ (by decide +kernel) (by decide +kernel) rfl (by decide +kernel)) rfl (yC (pv 0)) (fun _ _ _=>(show PG _ _ (y5w K 3 (z3n (jW 0) (z3n (jW 1) (z3n (jW 2) y5a)))) from kO (n:=3) rfl (zm (zQ (i:=0) (show (["period", "first", "length", "by"]:List Str).Nodup from by decide +kernel) rfl (Or.inl rfl) (Or.inr rfl)) (zm (zQ (i:=1) (show (["period", "first", "length", "by"]:List Str).Nodup from by decide +kernel) rfl (Or.inl rfl) (Or.inr rfl)) (zm (zQ (i:=2) (show (["period", "first", "length", "by"]:List Str).Nodup from by decide +kernel) rfl (Or.inl rfl) (Or.inr rfl)) jT))))) (fun _ _ _=>yX) (fun _ _ _=>(xq (zB (pv 0) (zB (zW yE (zW ye (pv 1) (pv 3)) (pv 0)) (zB (pv 2) zD)))))))),?_⟩;walk_at "wp";refine⟨⟨_,hS⟩,?_⟩;obtain⟨Sv,hSv⟩:∃Sv:St->Prop,Sv=fun σ=>∃o1 o2 o3,σ=[o1,o2,o3,some (.int b)]:=⟨_,rfl⟩
 obtain⟨Pv,hPv⟩:∃Pv:Addr->Nat->List V->Hp->Prop,Pv=fun D i ys H2=>H D=none/\Same H H2/\Pl H2 ys ((ws.take i).map (shW b)):=⟨_,rfl⟩
 refine yL (xs:=xs) Sv Pv (by rw[hSv];exact⟨none,none,none,rfl⟩) (fun D hD=>?_) (fun D i ys H2 hD h=>?_) (fun D i x ys σ H2 hx hi hs hD hy h=>?_) (fun D ys H2 hD h=>?_)
 ·rw[hPv];exact⟨hD,zJ hD _,.nil⟩
 ·rw[hPv] at h;exact h.2.1.seq hS
 ·rw[hSv] at hs;rw[hPv] at h;refine pA fun Gk gI=>?_;obtain⟨o1,o2,o3,rfl⟩:=hs;refine gI ?_;refine pA fun Gm gJ=>?_;obtain⟨nD,g,hQ⟩:=h;refine gJ ?_;refine pA fun Gn gK=>?_;obtain⟨p,u,e1,rfl,e3⟩:=hP.at hx;refine gK ?_;have u1:=hw u (List.mem_of_getElem? e1);rw[hP.1] at hi;refine⟨p,_,rfl,SqT.of (g _ _ e3),rfl,?_⟩;walk_at "wp";refine⟨by omega,fun t ht=>?_⟩;have gt:=zJ ht (z4N (shW b u));have hD3:=gt _ _ hD;refine CompP.mk hD3 hy (by rw[sizeLine_eq];omega) (by rw[hSv];exact⟨_,_,_,rfl⟩) (by
   rw[hPv];refine⟨nD,(g.trans gt).write nD _,?_⟩;rw[List.take_add_one,e1,List.map_append];exact ((hQ.same gt).snoc zH).upd hD3)
 ·rw[hPv] at h;refine pA fun Go gL=>?_;obtain⟨nD,g,hQ⟩:=h;refine gL ?_;rw[hP.1,List.take_length] at hQ;exact q D ys H2 g nD hD hQ
noncomputable def jB:Sp:=fun vs H Q _=>∃n b:Int,vs=[.int n,.int b]/\0<b/\b<2^1000/\Q (.int (jv n b)) H
theorem z3m (T:TF K mg "divided_up" jm):Has P w K mg base 1 "divided_up" ["number", "by"] jB:=by
 refine T.has z1g (fun _ _ _ _ _ _=>L2.bnd2 fun _ _=>rfl) (fun vs H Q E h=>?_) (fun f cdv A outer s H vs Q E hr h=>?_)
 ·refine pA fun Gp gM=>?_;obtain⟨a,b,rfl,_⟩:=h;refine gM ?_;rfl
 refine pA fun Gq gN=>?_;obtain⟨a,b,rfl,hb,hb2,q⟩:=h;refine gN ?_;refine⟨_,(zE (zK (z7L z0V (zW yz (z7L z0V (pv 0)) (pv 1))))),?_⟩;walk_at "wp";exact⟨y0b 1000 hb (by omega) (by decide),q⟩
noncomputable def Tups (H:Hp) (xs:List V) (lv:List T3):Prop:=xs.length=lv.length/\∀(i:Nat) t,lv[i]?=some t->∃p,xs[i]?=some (.ref p)/\H p=some (.tup [.int t.1,.int t.2.1,.int t.2.2])
noncomputable def z0i (K:PySem.W.Frag):Sp:=fun vs H Q _=>∃(L:Addr) (xs:List V) (lv:List T3) (h:Int),vs=[.ref L,.int h]/\SqL K H L xs/\Tups H xs lv/\(∀t∈lv,0<t.2.1/\t.2.1<2^1000/\0<=t.1/\t.1<2^1000)/\
 (∀i:Nat,0<=z0U (lv.drop i) h/\z0U (lv.drop i) h<2^1000)/\Q (.int (z0U lv h)) H
theorem z9q (T:TF K mg "climbed" vX) (m_reversed:mg "reversed" = none) (G_divided_up:Has P w K mg base 1 "divided_up" ["number", "by"] jB):Has P w K mg base 2 "climbed" ["levels", "hit"] (z0i K):=by
 refine T.has xp (fun _ _ _ _ _ _=>L2.bnd2 fun _ _=>rfl) (fun vs H Q E h=>?_) (fun f cdv A outer s H vs Q E hr h=>?_)
 ·refine pA fun Gr gO=>?_;obtain⟨a,xs,lv,b,rfl,_⟩:=h;refine gO ?_;rfl
 refine pA fun Gs gP=>?_;obtain⟨L,xs,lv,h,rfl,hS,⟨hl,ht⟩,hb,hc,q⟩:=h;refine gP ?_;refine⟨_,(zC (y6 PassesOwn.never rfl (y4k rfl m_reversed (pv 0)) (kO rfl (zm (zQ (i:=2) xp.nd rfl (Or.inl rfl)) (zm (zQ (i:=3) xp.nd rfl (Or.inl rfl)) (zm (zQ (i:=4) xp.nd rfl (Or.inl rfl)) jT)))) (zE (zR (i:=1) xp.nd rfl (Or.inl rfl) (zL (G_divided_up.mono (by first|decide|omega)) hr (zB (zW ye (zW xY (pv 2) (pv 1)) (pv 4)) (zB (pv 3) zD)))))) (zE (zK (pv 1)))),?_⟩;walk_at "wp";refine⟨L,xs,rfl,hS,?_⟩;obtain⟨W,hW⟩:∃W:Nat->St->Hp->Prop,W=fun i σ H'=>∃o1 o2 o3:Option V,σ=[some (.ref L),some (.int (z0U (lv.drop (lv.length-i)) h)),o1,o2,o3]/\H'=H:=⟨_,rfl⟩
 refine y1s W ?_ (fun i σ H' _ z=>?_) (fun i x σ H' hi hx z=>?_) (fun σ H' z=>?_)
 ·rw[hW];exact⟨none,none,none,by rw[Nat.sub_zero,List.drop_length];rfl,rfl⟩
 ·rw[hW] at z;refine pA fun Gu gQ=>?_;obtain⟨_,_,_,_,rfl⟩:=z;refine gQ ?_;exact hS
 ·rw[hW] at z;refine pA fun Gv gR=>?_;obtain⟨o1,o2,o3,rfl,rfl⟩:=z;refine gR ?_;rw[hl] at hi hx;have hk:lv.length-1-i<lv.length:=by omega
  refine pA fun Gw gS=>?_;obtain⟨p,hp,hT⟩:=ht (lv.length-1-i) lv[lv.length-1-i] (List.getElem?_eq_getElem hk);refine gS ?_;rw[hx] at hp;cases hp;have ed:lv.drop (lv.length-(i+1))=lv[lv.length-1-i]::lv.drop (lv.length-i):=by
   have e1:lv.length-(i+1)=lv.length-1-i:=by omega
   have e2:lv.length-i=lv.length-1-i+1:=by omega
   rw[e1,e2];exact List.drop_eq_getElem_cons hk
  have bt:=hb _ (List.getElem_mem hk);have bc:=hc (lv.length-i);generalize lv[lv.length-1-i]=t at hT ed bt;refine⟨p,_,rfl,SqT.of hT,rfl,?_⟩;walk_at "wp";refine⟨mok 1000 1000 (by omega) (by omega) (by decide),_,_,rfl,bt.1,bt.2.1,?_⟩;rw[hW];exact⟨_,_,_,by rw[ed];rfl,rfl⟩
 ·rw[hW] at z;refine pA fun Gx gU=>?_;obtain⟨o1,o2,o3,rfl,rfl⟩:=z;refine gU ?_;walk_at "wp";rw[hl,Nat.sub_self,List.drop_zero];exact q
theorem Tups.same {H H':Hp} {xs:List V} {lv:List T3} (g:Same H H') (h:Tups H xs lv):Tups H' xs lv:=⟨h.1,fun i t e=>let ⟨p,e1,e2⟩:=h.2 i t e;⟨p,e1,g _ _ e2⟩⟩
theorem Tups.snoc {H:Hp} {xs:List V} {lv:List T3} {L p:Addr} {ys:List V} {t:T3} (h:Tups H xs lv) (hL:H L=some (.lst ys)) (hp:H p=none) (zs:List V) :
  Tups (upd (upd H p (.tup [.int t.1,.int t.2.1,.int t.2.2])) L (.lst zs)) (xs++[.ref p]) (lv++[t]):=by
 have pL:p≠L:=fun e=>by rw[e,hL] at hp;cases hp
 refine⟨by simp [h.1],fun i u e=>?_⟩;by_cases c:i<lv.length
 ·rw[List.getElem?_append_left c] at e;refine pA fun Gy gW=>?_;obtain⟨b,e1,e2⟩:=h.2 i u e;refine gW ?_;have bL:b≠L:=wC e2 hL (by intro z;cases z);have bp:b≠p:=zV e2 hp;refine⟨b,by rw[List.getElem?_append_left (by rw[h.1];exact c)];exact e1,?_⟩;rw[za bL,za bp];exact e2
 ·rw[List.getElem?_append_right (by omega)] at e;have:i-lv.length=0:=by
   rcases Nat.eq_zero_or_pos (i-lv.length) with z|z
   ·exact z
   ·rw[List.getElem?_eq_none (by simp;omega)] at e;cases e
  rw[this] at e;cases e;refine⟨p,by rw[List.getElem?_append_right (by rw[h.1];omega),h.1,this];rfl,?_⟩;rw[za pL,zH]
noncomputable def wR:Sp:=fun vs H Q _=>∃st sp w n:Int,vs=[.int st,.int sp,.int w,.int n]/\0<w/\w<2^1000/\1<=n/\∀H',Same H H'->Q (oV (yV st sp w n)) H'
theorem z5V (T:TF K mg "first_hit" qo) (G_divided_up:Has P w K mg base 1 "divided_up" ["number", "by"] jB) (G_climbed:Has P w K mg base 2 "climbed" ["levels", "hit"] (z0i K)) :
  Has P w K mg base 3 "first_hit" ["start", "step", "whole", "many"] wR:=by
 refine T.has yD (fun _ _ _ _ _ _=>L2.bnd4 fun _ _ _ _=>rfl) (fun vs H Q E h=>?_) (fun f cdv A outer s H vs Q E hr h=>?_)
 ·refine pA fun Gz gX=>?_;obtain⟨a,b,c,d,rfl,_⟩:=h;refine gX ?_;rfl
 refine pA fun G0 gZ=>?_;obtain⟨st,sp,w,n,rfl,hw,hw2,hn,q⟩:=h;refine gZ ?_;refine⟨_,(zC (zi (zN wa (zW yE (pv 0) (pv 2)) (pv 3) (zX _)) (zE (zK zF)) zM) (zC (zR (i:=1) yD.nd rfl (Or.inl rfl) (zW yE (pv 1) (pv 2))) (zC (zR (i:=4) yD.nd rfl (Or.inl rfl) (zW yE (z7L z0V (pv 0)) (pv 2))) (zC (zR (i:=5) yD.nd rfl (Or.inl rfl) (yq zD)) (zC (qG PassesOwn.never (zN kQ (pv 1) zF (zX _)) (zC (zR (i:=6) yD.nd rfl (Or.inl rfl) (zW xD (zW ye (pv 4) (pv 3)) zF)) (zC (zR (i:=7) yD.nd rfl (Or.inl rfl) (zL (G_divided_up.mono (by first|decide|omega)) hr (zB (pv 4) (zB (pv 1) zD)))) (zC (zi (zN z1n (zW xY (pv 1) (pv 7)) (pv 6) (zX _)) (zE (zK (zL (G_climbed.mono (by first|decide|omega)) hr (zB (pv 5) (zB (pv 7) zD))))) zM) (zC (yt (xn PySem.F.plainAttrs_list PySem.F.slot_list_append PySem.F.type_list_append yn (pv 5) (zB (xq (zB (pv 2) (zB (pv 1) (zB (pv 4) zD)))) zD))) (zC (zR (i:=4) yD.nd rfl (Or.inl rfl) (zW yE (z7L z0V (pv 6)) (pv 1))) (zC (zR (i:=8) yD.nd rfl (Or.inl rfl) (zW yE (pv 2) (pv 1))) (zC (zR (i:=2) yD.nd rfl (Or.inl rfl) (pv 1)) (zE (zR (i:=1) yD.nd rfl (Or.inl rfl) (pv 8))))))))))) (zE (zK jZ))))))),?_⟩;walk_at "wp";refine⟨hw,fun c=>?_,fun c=>?_⟩
 ·have e:yV st sp w n=some 0:=by unfold yV;rw[if_pos c]
  have:=q H (Same.refl H);rw[e] at this;exact this
 have L0:=y6U (sp:=sp) hw hn c;have ef:yV st sp w n=z2F w (sp%w) ((-st)%w) n:=by unfold yV;rw[if_neg c]
 rw[ef] at q;refine⟨hw,hw,fun L hL=>?_⟩;obtain⟨W,hW⟩:∃W:Nat->St->Hp->Prop,W=fun m σ H'=>∃(lv:List T3) (w' a lo:Int) (xs:List V) (o1 o2 o3:Option V),σ=[some (.int st),some (.int a),some (.int w'),some (.int n),some (.int lo),some (.ref L),o1,o2,o3]/\Same H H'/\H' L=some (.lst xs)/\Tups H' xs lv/\
  Down n w (sp%w) ((-st)%w) lv w' a lo/\m=a.toNat:=⟨_,rfl⟩
 refine⟨W,⟨(sp%w).toNat,by rw[hW];exact⟨[],w,sp%w,(-st)%w,[],none,none,none,rfl,zJ hL _,zH,⟨rfl,fun i t e=>by simp at e⟩,.top,rfl⟩⟩,fun m σ H' z=>?_⟩;rw[hW] at z;refine pA fun Ga hC=>?_;obtain⟨lv,w',a,lo,xs,o1,o2,o3,rfl,g,hx,ht,dn,rfl⟩:=z;refine hC ?_;refine pA fun Gb hJ=>?_;obtain⟨lv1,b1,b2⟩:=dn.lvl L0;refine hJ ?_;have aw:=lv1.aw;have a0:=lv1.a0;walk_at "wp";refine⟨fun c1=>?_,fun c1=>?_⟩
 ·have ap:0<a:=by omega
  have sh:=dn.short L0 1000 (by omega) ap;have c2:=xz (n:=lo) ap;have l1:=lv1.l1;have l2:=lv1.l2;have c0:=kA (n:=lo) ap (by omega);have cl:jv lo a<=lo:=z0D ap (by
   have:=Int.mul_le_mul_of_nonneg_right (show 1<=a by omega) (show 0<=lo by omega);omega)
  refine⟨_,fun _ _ h=>h,?_⟩;walk_at "wp";refine⟨_,_,rfl,ap,by omega,?_⟩;walk_at "wp";refine⟨mok 1000 1000 (by omega) (by omega) (by decide),fun c3=>?_,fun c3=>?_⟩
  ·have eh:=z3d (w:=w') ap (n:=n) (by omega);obtain⟨e1,e2⟩:=dn.hit L0 eh;refine⟨L,xs,lv,_,rfl,SqL.of hx,ht,fun t htm=>?_,fun i=>?_,?_⟩
   ·refine pA fun Gc hU=>?_;obtain⟨t1,t2,t3,t4,t5⟩:=b2 t htm;refine hU ?_;exact⟨t1,by omega,by omega,by omega⟩
   ·have:=e2 i;omega
   ·have:=q H' g;rw[e1] at this;exact this
  ·refine⟨.inl ⟨rfl,_,SqL.of hx⟩,fun p hp=>?_⟩;have pL:L≠p:=zV hx hp;refine⟨_,_,_,rfl,rfl,by rw[za pL];exact hx,by rw[ht.1,sizeLine_eq];omega,?_⟩;walk_at "wp";have c3':¬a*jv lo a<=lo+n-1:=by omega
   have r0:=Int.emod_nonneg w' (show a≠0 by omega);have r1:=Int.emod_lt_of_pos w' ap;refine⟨ap,ap,(w'%a).toNat,by omega,?_⟩;rw[hW];refine⟨lv++[(w',a,lo)],a,w'%a,_,_,_,_,_,rfl,?_,zH,ht.snoc hx hp _,dn.go ap c3',rfl⟩;exact fun b u e=>by
    have b1:b≠L:=zV e hL;have b2:b≠p:=zV (g b u e) hp;rw[za b1,za b2];exact g b u e
 ·have a00:a=0:=by omega
  have e1:=dn.nohit (z3c (by omega));have:=q H' g;rw[e1] at this;exact this
theorem z1B {ws:List T3} {t:Int}:zx ws t=true ↔ ∃u∈ws,awP u t:=by
 unfold zx;rw[List.any_eq_true];refine⟨fun⟨u,h,e⟩=>⟨u,h,by unfold awk at e;exact (of_decide_eq_true e:(t-u.2.1)%u.1<u.2.2)⟩,fun⟨u,h,e⟩=>⟨u,h,by unfold awk;exact decide_eq_true (show (t-u.2.1)%u.1<u.2.2 from e)⟩⟩
noncomputable def y5X (ws us:List T3) (d t:Int):Bool:=zx ws t && zx us (t-d)
theorem z5k {ws us:List T3} {d t:Int}:y5X ws us d t=true ↔ ka ws us d t:=by
 unfold y5X ka;rw[Bool.and_eq_true,z1B,z1B]
noncomputable def vF (K:PySem.W.Frag):Sp:=fun vs H Q _=>∃(a b:Addr) (xs ys:List V) (ws us:List T3) (d t:Int),vs=[.ref a,.ref b,.int d,.int t]/\SqL K H a xs/\Pl H xs ws/\SqL K H b ys/\Pl H ys us/\(∀u∈ws,1<=u.1)/\(∀u∈us,1<=u.1)/\Q (.bl (y5X ws us d t)) H
theorem z7X (T:TF K mg "together" ki) (G_awake:Has P w K mg base 1 "awake" ["plan", "turn"] (z1Z K)):Has P w K mg base 2 "together" ["one", "other", "shift", "turn"] (vF K):=by
 refine T.has z4m (fun _ _ _ _ _ _=>L2.bnd4 fun _ _ _ _=>rfl) (fun vs H Q E h=>?_) (fun f cdv A outer s H vs Q E hr h=>?_)
 ·refine pA fun Ge hV=>?_;obtain⟨a,b,xs,ys,ws,us,d,t,rfl,_⟩:=h;refine hV ?_;rfl
 refine pA fun Gf gC=>?_;obtain⟨a,b,xs,ys,ws,us,d,t,rfl,hS,hP,hS2,hP2,hw,hu,q⟩:=h;refine gC ?_;refine⟨_,(zE (zK (kP (zL (G_awake.mono (by first|decide|omega)) hr (zB (pv 0) (zB (pv 3) zD))) (wW (zL (G_awake.mono (by first|decide|omega)) hr (zB (pv 1) (zB (zW xD (pv 3) (pv 2)) zD))))))),?_⟩;unfold y5X at q;walk_at "wp";refine⟨_,_,xs,ws,rfl,hS,hP,hw,?_⟩;walk_at "wp";refine⟨fun c=>?_,fun c=>?_⟩
 ·rw[c,Bool.true_and] at q;exact⟨_,_,ys,us,rfl,hS2,hP2,hu,q⟩
 ·rw[Bool.not_eq_true] at c;rw[c,Bool.false_and] at q;exact q
noncomputable def kJ (K:PySem.W.Frag):Sp:=fun vs H Q _=>∃(p p2:Addr) (u v:T3) (t:Int),vs=[.ref p,.ref p2,.int t]/\H p=some (z4N u)/\H p2=some (z4N v)/\Wk u/\Wk v/\u.1<2^900/\v.1<2^900/\∀H',Same H H'->Q (oV (nbI u v t)) H'
theorem z3k (T:TF K mg "next_begin" je) (G_first_hit:Has P w K mg base 3 "first_hit" ["start", "step", "whole", "many"] wR):Has P w K mg base 4 "next_begin" ["waking", "beside", "turn"] (kJ K):=by
 refine T.has jE (fun _ _ _ _ _ _=>L2.bnd3 fun _ _ _=>rfl) (fun vs H Q E h=>?_) (fun f cdv A outer s H vs Q E hr h=>?_)
 ·refine pA fun Gg gE=>?_;obtain⟨p,p2,u,v,t,rfl,_⟩:=h;refine gE ?_;rfl
 refine pA fun Gh gF=>?_;obtain⟨p,p2,u,v,t,rfl,hp,hp2,hu,hv,u9,v9,q⟩:=h;refine gF ?_;refine⟨_,(zC (zR (i:=3) jE.nd rfl (Or.inl rfl) (zW ye (pv 2) (zW yE (zW xD (zU zZ (pv 0) zF (fun _ _=>rfl)) (pv 2)) (zU zZ (pv 0) zF (fun _ _=>rfl))))) (zC (zR (i:=4) jE.nd rfl (Or.inl rfl) (zL (G_first_hit.mono (by first|decide|omega)) hr (zB (zW xD (pv 3) (zU zZ (pv 1) zF (fun _ _=>rfl))) (zB (zU zZ (pv 0) zF (fun _ _=>rfl)) (zB (zU zZ (pv 1) zF (fun _ _=>rfl)) (zB (zU zZ (pv 1) zF (fun _ _=>rfl)) zD)))))) (zC (zi (zN z6P (pv 4) jZ (zX _)) (zE (zK jZ)) zM) (zE (zK (zW ye (pv 3) (zW xY (zU zZ (pv 0) zF (fun _ _=>rfl)) (pv 4)))))))),?_⟩;have hT:SqT K H p [.int u.1,.int u.2.1,.int u.2.2]:=SqT.of hp;have hT2:SqT K H p2 [.int v.1,.int v.2.1,.int v.2.2]:=SqT.of hp2;have u0:=hu.1;have v0:=hv.1;walk_at "wp";refine⟨_,_,_,.int u.2.1,rfl,rfl,hT,rfl,?_⟩;walk_at "wp";refine⟨_,_,_,.int u.1,rfl,rfl,hT,rfl,?_⟩;walk_at "wp";refine⟨by omega,?_⟩;refine⟨_,_,_,.int v.2.1,rfl,rfl,hT2,rfl,?_⟩;walk_at "wp";refine⟨_,_,_,.int u.1,rfl,rfl,hT,rfl,?_⟩;refine⟨_,_,_,.int v.1,rfl,rfl,hT2,rfl,?_⟩;refine⟨_,_,_,.int v.2.2,rfl,rfl,hT2,rfl,?_⟩;refine⟨_,_,_,_,rfl,by omega,by omega,hv.2.2.2.1,fun H' g=>?_⟩;have q2:=q H' g;unfold nbI z4H at q2;have L:=yJ (st:=t+(u.2.1-t)%u.1-v.2.1) (sp:=u.1) (w:=v.1) (n:=v.2.2) (by omega) hv.2.2.2.1;cases e:yV (t+(u.2.1-t)%u.1-v.2.1) u.1 v.1 v.2.2 with
 | none=>
  rw[e] at q2;walk_at "wp";exact q2
 | some i=>
  rw[e] at q2 L;have lt:=ju (by omega) hv.2.2.2.1 e;have le:v.1/zg v.1 (u.1%v.1)<=v.1:=Int.ediv_le_self _ (by omega);have i0:=L.1;walk_at "wp";refine⟨_,_,_,.int u.1,rfl,rfl,SqT.of (g _ _ hp),rfl,?_⟩;walk_at "wp";refine⟨mok 1000 1000 (by omega) (by omega) (by decide),?_⟩;exact q2
noncomputable def vH (K:PySem.W.Frag):Sp:=fun vs H Q _=>∃(a b:Addr) (xs ys:List V) (ws us:List T3) (d t:Int),vs=[.ref a,.ref b,.int d,.int t]/\SqL K H a xs/\Pl H xs ws/\SqL K H b ys/\Pl H ys us/\(∀u∈ws,Wk u)/\(∀u∈us,Wk u)/\(∀u∈ws,u.1<2^900)/\(∀u∈us,u.1<2^900)/\ws.length<=50/\us.length<=50/\
 ∀(r:Option Int) (H':Hp),Same H H'->NextOf (ka ws us d) t r->Q (oV r) H'
theorem z7i {ws vs:List T3} {t:Int} {i:Nat} {u:T3} (e:ws[i]?=some u):jw (ws.take (i+1)) vs t=jw (ws.take i) vs t++vs.flatMap fun v=>[nbI u v t,nbI v u t]:=by
 unfold jw;rw[List.take_add_one,e,List.flatMap_append];simp
noncomputable def z0E (u:T3) (vs:List T3) (t:Int):List (Option Int):=vs.flatMap fun v=>[nbI u v t,nbI v u t]
theorem z7j {u:T3} {vs:List T3} {t:Int} {i:Nat} {v:T3} (e:vs[i]?=some v):z0E u (vs.take (i+1)) t=z0E u (vs.take i) t++[nbI u v t,nbI v u t]:=by
 unfold z0E;rw[List.take_add_one,e,List.flatMap_append];simp
theorem z3w (u:T3) (vs:List T3) (t:Int):(z0E u vs t).length=2*vs.length:=by
 unfold z0E
 induction vs with
 | nil=>rfl
 | cons v vs ih=>rw[List.flatMap_cons,List.length_append,ih];simp;omega
theorem z3v (ws vs:List T3) (t:Int):(jw ws vs t).length=ws.length*(2*vs.length):=by
 induction ws with
 | nil=>unfold jw;simp
 | cons u ws ih=>
  have:=z3w u vs t;unfold jw at *
  unfold z0E at this;rw[List.flatMap_cons,List.length_append,ih,this,List.length_cons,Nat.add_mul];omega
theorem z3X {os:List (Option Int)} (h:os.filterMap id=[]):z5h os none:=fun y hy=>by
 have:y∈os.filterMap id:=List.mem_filterMap.mpr ⟨some y,hy,rfl⟩;rw[h] at this;cases this
theorem z3W {os:List (Option Int)} {M:Int} (h:M∈os.filterMap id) (hz:∀z∈os.filterMap id,M<=z):z5h os (some M):=by
 refine pA fun Gi gG=>?_;obtain⟨o,ho,e⟩:=List.mem_filterMap.mp h;refine gG ?_;have e':o=some M:=e;refine⟨e'▸ho,fun y hy=>hz y (List.mem_filterMap.mpr ⟨some y,hy,rfl⟩)⟩
theorem z7h {K:PySem.W.Frag} {L:Addr} {os:List (Option Int)} {nm:Str} {fr:List Nat} {σ:St} {H:Hp} {Q:VK} {rest:St} (hst:st0 [nm] fr σ=none::rest) (hL:H L=some (.lst (os.map oV))) (hlen:os.length<=10000)
  (hq:∀(D:Addr) (H':Hp),Same H H'->H' D=some (IL (os.filterMap id))->Q (.ref D) H') :
  kC (Itl K L) (jW 0) (y0i (tOp (fun x y H Q=>y=.non/\Q (.bl (!decide (x=.non))) H) (z5l 0) (tC .non))) (z5l 0) [nm] fr σ H Q:=by
 obtain⟨Sv,hSv⟩:∃Sv:St->Prop,Sv=fun σ=>∃o,σ=o::rest:=⟨_,rfl⟩
 obtain⟨Pv,hPv⟩:∃Pv:Addr->Nat->List V->Hp->Prop,Pv=fun D i ys H2=>H D=none/\Same H H2/\ys=((os.take i).filterMap id).map V.int:=⟨_,rfl⟩
 refine yL (xs:=os.map oV) Sv Pv (by rw[hSv,hst];exact⟨none,rfl⟩) (fun D hD=>?_) (fun D i ys H2 hD h=>?_) (fun D i x ys σ H2 hx hi hs hD hy h=>?_) (fun D ys H2 hD h=>?_)
 ·rw[hPv];exact⟨hD,zJ hD _,rfl⟩
 ·rw[hPv] at h;exact SqL.of (h.2.1 _ _ hL)
 ·rw[hSv] at hs;rw[hPv] at h;obtain⟨o,rfl⟩:=hs;refine pA fun Gj gH=>?_;obtain⟨nD,g,rfl⟩:=h;refine gH ?_;rw[List.getElem?_map] at hx;refine pA fun Gk gI=>?_;obtain⟨c,hc,rfl⟩:=Option.map_eq_some_iff.mp hx;refine gI ?_;rw[List.length_map] at hi;cases c with
  | none=>
   walk_at "wp";refine⟨by rw[hSv];exact⟨_,rfl⟩,_,hD,by omega,?_⟩;rw[hPv];refine⟨nD,g,?_⟩;rw[List.take_add_one,hc,List.filterMap_append];simp
  | some c=>
   walk_at "wp";refine CompP.mk hD hy (by rw[sizeLine_eq];omega) (by rw[hSv];exact⟨_,rfl⟩) (by
    rw[hPv];refine⟨nD,g.write nD _,?_⟩;rw[List.take_add_one,hc,List.filterMap_append];simp)
 ·rw[hPv] at h;refine pA fun Gm gJ=>?_;obtain⟨nD,g,rfl⟩:=h;refine gJ ?_;rw[List.length_map,List.take_length] at hD;exact hq D H2 g hD
theorem vw (T:TF K mg "next_together" xU) (m_min:mg "min" = none) (G_together:Has P w K mg base 2 "together" ["one", "other", "shift", "turn"] (vF K)) (G_shifted:Has P w K mg base 1 "shifted" ["plan", "by"] (z0Z K)) (G_next_begin:Has P w K mg base 4 "next_begin" ["waking", "beside", "turn"] (kJ K)) :
  Has P w K mg base 5 "next_together" ["one", "other", "shift", "turn"] (vH K):=by
 refine T.has yf (fun _ _ _ _ _ _=>L2.bnd4 fun _ _ _ _=>rfl) (fun vs H Q E h=>?_) (fun f cdv A outer s H vs Q E hr h=>?_)
 ·refine pA fun Gn gK=>?_;obtain⟨a,b,xs,ys,ws,us,d,t,rfl,_⟩:=h;refine gK ?_;rfl
 refine pA fun Go gL=>?_;obtain⟨a,b,xs,ys,ws,us,d,t,rfl,hS,hP,hS2,hP2,hw,hu,w9,u9,lw,lu,q⟩:=h;refine gL ?_;refine⟨_,(zC (zi (yd (zL (G_together.mono (by first|decide|omega)) hr (zB (pv 0) (zB (pv 1) (zB (pv 2) (zB (pv 3) zD))))) (fun _=>rfl)) (zE (zK (pv 3))) zM) (zC (zR (i:=4) yf.nd rfl (Or.inl rfl) (yq zD)) (zC (y6 PassesOwn.never rfl (yC (pv 0)) (zQ (i:=5) yf.nd rfl (Or.inl rfl)) (zE (y6 PassesOwn.never rfl (yC (zL (G_shifted.mono (by first|decide|omega)) hr (zB (pv 1) (zB (pv 2) zD)))) (zQ (i:=6) yf.nd rfl (Or.inl rfl)) (zC (yt (xn PySem.F.plainAttrs_list PySem.F.slot_list_append PySem.F.type_list_append yn (pv 4) (zB (zL (G_next_begin.mono (by first|decide|omega)) hr (zB (pv 5) (zB (pv 6) (zB (pv 3) zD)))) zD))) (zE (yt (xn PySem.F.plainAttrs_list PySem.F.slot_list_append PySem.F.type_list_append yn (pv 4) (zB (zL (G_next_begin.mono (by first|decide|omega)) hr (zB (pv 6) (zB (pv 5) (zB (pv 3) zD)))) zD)))))))) (zE (zK (y3P rfl rfl m_min (ya (CompSc.none (own:=["found"]) (by decide +kernel) (by decide +kernel) rfl (by decide +kernel)) rfl (yC (pv 4)) (fun _ _ _=>(zQ (i:=0) (show (["found"]:List Str).Nodup from by decide +kernel) rfl (Or.inl rfl) (Or.inr rfl))) (fun _ _ _=>z4w (zN z8v (pv 0) jZ (zX _))) (fun _ _ _=>(pv 0))) jZ)))))),?_⟩;have w1:∀u∈ws,1<=u.1:=fun u h=>(hw u h).1;have u1:∀u∈us,1<=u.1:=fun u h=>(hu u h).1;walk_at "wp";refine⟨_,_,xs,ys,ws,us,d,t,rfl,hS,hP,hS2,hP2,w1,u1,?_⟩;walk_at "wp";refine⟨fun c=>q (some t) H (Same.refl H) (z9B (z5k.mp c)),fun c=>?_⟩;have nt:¬ka ws us d t:=fun z=>c (z5k.mpr z);intro L hL;have g0:=zJ hL (.lst []);refine⟨⟨_,g0.seq hS⟩,?_⟩;obtain⟨W,hW⟩:∃W:Nat->St->Hp->Prop,W=fun i σ H'=>∃(o1 o2:Option V),σ=[some (.ref a),some (.ref b),some (.int d),some (.int t),some (.ref L),o1,o2]/\Same H H'/\H' L=some (.lst ((jw (ws.take i) (us.map (shT d)) t).map oV)):=⟨_,rfl⟩
 refine yR (xs:=xs) W ?_ (fun i σ H' _ z=>?_) (fun i x σ H' hx z=>?_) (fun σ H' z=>?_)
 ·rw[hW];exact⟨none,none,rfl,g0,zH⟩
 ·rw[hW] at z;refine pA fun Gp gM=>?_;obtain⟨_,_,_,g,_⟩:=z;refine gM ?_;exact g.seq hS
 ·rw[hW] at z;refine pA fun Gq gN=>?_;obtain⟨o1,o2,rfl,g,hL2⟩:=z;refine gN ?_;refine pA fun Gr gO=>?_;obtain⟨p,u,e1,rfl,e3⟩:=hP.at hx;refine gO ?_;have mu:=List.mem_of_getElem? e1;walk_at "wp";refine⟨_,_,ys,us,rfl,g.seq hS2,hP2.same g,u1,by omega,fun D zs H2 g2 nD hD hZ=>?_⟩;have nLD:L≠D:=fun e=>by rw[e] at hL2;rw[hL2] at nD;cases nD
  refine⟨D,rfl,⟨_,SqL.of hD⟩,?_⟩;obtain⟨Z,hZz⟩:∃Z:Nat->St->Hp->Prop,Z=fun j σ H'=>∃(o2:Option V),σ=[some (.ref a),some (.ref b),some (.int d),some (.int t),some (.ref L),some (.ref p),o2]/\Same H H'/\Pl H' zs (us.map (shT d))/\H' D=some (.lst zs)/\H' L=some (.lst ((jw (ws.take i) (us.map (shT d)) t++z0E u ((us.map (shT d)).take j) t).map oV)):=⟨_,rfl⟩
  refine yR (xs:=zs) Z ?_ (fun j σ H' _ z=>?_) (fun j x σ H' hx z=>?_) (fun σ H' z=>?_)
  ·rw[hZz];exact⟨_,rfl,g.trans g2,hZ,hD,by simpa [z0E] using g2 _ _ hL2⟩
  ·rw[hZz] at z;refine pA fun Gs gP=>?_;obtain⟨_,_,_,_,hD,_⟩:=z;refine gP ?_;exact SqL.of hD
  ·rw[hZz] at z;refine pA fun Gu gQ=>?_;obtain⟨o2,rfl,gz,hZ3,hD3,hL3⟩:=z;refine gQ ?_;refine pA fun Gv gR=>?_;obtain⟨p2,v,f1,rfl,f3⟩:=hZ3.at hx;refine gR ?_;have mv:=List.mem_of_getElem? f1;refine pA fun Gw gS=>?_;obtain⟨v0,mv0,ev⟩:=List.mem_map.mp mv;refine gS ?_;have hv:Wk v:=ev▸z0k d (hu v0 mv0);have v9:v.1<2^900:=by rw[←ev];exact u9 v0 mv0
   have hj:=(List.getElem?_eq_some_iff.mp f1).1;rw[List.length_map] at hj;have hi:=(List.getElem?_eq_some_iff.mp e1).1;have lc:(jw (ws.take i) (us.map (shT d)) t++z0E u ((us.map (shT d)).take j) t).length<=5000:=by
    rw[List.length_append,z3v,z3w,List.length_take,List.length_take,List.length_map];have:=Nat.mul_le_mul (show min i ws.length<=49 by omega) (show 2*us.length<=100 by omega);omega
   walk_at "wp";refine⟨.inl ⟨rfl,_,SqL.of hL3⟩,p,p2,u,v,t,rfl,gz _ _ e3,f3,hw u mu,hv,w9 u mu,v9,fun H4 g4=>?_⟩;refine⟨L,_,_,rfl,rfl,g4 _ _ hL3,by rw[sizeLine_eq,List.length_map];omega,?_⟩;have f3':=z1C (D:=L) (o:=.lst ((jw (ws.take i) (us.map (shT d)) t++z0E u ((us.map (shT d)).take j) t).map oV++[oV (nbI u v t)])) (g4 _ _ hL3) (g4 _ _ f3);have e3':=z1C (D:=L) (o:=.lst ((jw (ws.take i) (us.map (shT d)) t++z0E u ((us.map (shT d)).take j) t).map oV++[oV (nbI u v t)])) (g4 _ _ hL3) ((gz.trans g4) _ _ e3);refine⟨.inl ⟨rfl,_,SqL.of zH⟩,p2,p,v,u,t,rfl,f3',e3',hv,hw u mu,v9,w9 u mu,fun H5 g5=>?_⟩;refine⟨L,_,_,rfl,rfl,g5 _ _ zH,by rw[sizeLine_eq,List.length_append,List.length_map,List.length_singleton];omega,?_⟩;rw[hZz];refine⟨_,rfl,(((gz.trans g4).write hL _).trans g5).write hL _,?_,?_,?_⟩
   ·exact (((hZ3.same g4).upd (g4 _ _ hL3)).same g5).upd (g5 _ _ zH)
   ·rw[za (Ne.symm nLD)];exact g5 _ _ ((za (Ne.symm nLD)).trans (g4 _ _ hD3))
   ·rw[zH,z7j f1];simp
  ·rw[hZz] at z;refine pA fun Gx gU=>?_;obtain⟨o2,rfl,gz,hZ3,hD3,hL3⟩:=z;refine gU ?_;rw[hZ3.1,List.take_length] at hL3;rw[hW];refine⟨_,_,rfl,gz,?_⟩;rw[z7i e1];exact hL3
 ·rw[hW] at z;refine pA fun Gy gW=>?_;obtain⟨o1,o2,rfl,g,hL2⟩:=z;refine gW ?_;rw[hP.1,List.take_length] at hL2;have lc:(jw ws (us.map (shT d)) t).length<=5000:=by
   rw[z3v,List.length_map];have:=Nat.mul_le_mul lw (show 2*us.length<=100 by omega);omega
  walk_at "wp";refine⟨⟨_,SqL.of hL2⟩,z7h (rest:=[]) rfl hL2 (by omega) fun D H2 g2 hD=>?_⟩;walk_at "wp";refine⟨D,_,rfl,SqL.of hD,fun e=>q none _ (g.trans g2) (kS hw hu nt (z3X e)),fun M hM hz=>q (some M) _ (g.trans g2) (kS hw hu nt (z3W hM hz))⟩
theorem y0V {u:T3} {x k:Int}:awP u (x+u.1*k) ↔ awP u x:=by
 unfold awP;rw[xu (x:=x+u.1*k-u.2.1) (y:=x-u.2.1) ⟨k,by omega⟩]
theorem z7u {ws us:List T3} {d x:Int} (hw:∀u∈ws,1<=u.1) (hu:∀u∈us,1<=u.1) (h:ka ws us d x) (t:Int):∃y,t<=y/\ka ws us d y:=by
 refine pA fun Gz gX=>?_;obtain⟨⟨u,mu,au⟩,v,mv,av⟩:=h;refine gX ?_;have m:=Int.mul_pos (show 0<u.1 by have:=hw u mu;omega) (show 0<v.1 by have:=hu v mv;omega);refine⟨x+u.1*v.1*(t-x).natAbs,?_,⟨u,mu,?_⟩,v,mv,?_⟩
 ·have:1*((t-x).natAbs:Int)<=u.1*v.1*(t-x).natAbs:=Int.mul_le_mul_of_nonneg_right (by omega) (by omega);omega
 ·rw[Int.mul_assoc];exact y0V.mpr au
 ·have:x+u.1*v.1*((t-x).natAbs:Int)-d=x-d+v.1*(u.1*(t-x).natAbs):=by
   rw[←Int.mul_assoc,Int.mul_comm v.1 u.1];omega
  rw[this];exact y0V.mpr av
theorem z8z {ws us:List T3} {d t:Int} (hw:∀u∈ws,Wk u) (hu:∀u∈us,Wk u) {r:Option Int} (h:NextOf (ka ws us d) t r):r=none ↔ ¬ ∃x,ka ws us d x:=by
 constructor
 ·rintro rfl ⟨x,hx⟩;refine pA fun G0 gZ=>?_;obtain⟨y,y1,y2⟩:=z7u (fun u h=>(hw u h).1) (fun u h=>(hu u h).1) hx t;refine gZ ?_;exact h y y1 y2
 ·intro n;cases r with
  | none=>rfl
  | some x=>exact absurd ⟨x,h.2.1⟩ n
noncomputable def qC (K:PySem.W.Frag):Sp:=fun vs H Q _=>∃(a:Addr) (ns:List Int) (k:Int),vs=[.ref a,.int k]/\SqL K H a (ns.map V.int)/\0<=k/\Q (.int (ns.getD k.toNat 0)) H
theorem z2P (T:TF K mg "_law_cell_at" jP) (m_len:mg "len" = none):Has P w K mg base 1 "_law_cell_at" ["script", "k"] (qC K):=by
 refine T.has z0M (fun _ _ _ _ _ _=>L2.bnd2 fun _ _=>rfl) (fun vs H Q E h=>?_) (fun f cdv A outer s H vs Q E hr h=>?_)
 ·refine pA fun Ga hC=>?_;obtain⟨a,ns,k,rfl,_⟩:=h;refine hC ?_;rfl
 refine pA fun Gb hJ=>?_;obtain⟨a,ns,k,rfl,hS,hk,q⟩:=h;refine hJ ?_;refine⟨_,(zC (zi (zN wa (pv 1) (zY zc rfl m_len PySem.boot_len (zB (pv 0) zD)) (zX _)) (zE (zK (zU zo (pv 0) (pv 1) (fun _ _=>rfl)))) zM) (zE (zK zF))),?_⟩;walk_at "wp";refine⟨a,_,rfl,.inl hS,?_⟩;walk_at "wp";refine⟨fun c=>?_,fun c=>?_⟩
 ·rw[List.length_map] at c;exact zf hS (xg hk c) q
 ·rw[List.length_map] at c;have e:ns.getD k.toNat 0=0:=by
   rw[List.getD_eq_getElem?_getD,List.getElem?_eq_none (by omega)];rfl
  rw[e] at q;exact q
noncomputable def dg (n:Int):List Nat:=(Str.ofString (toString n)).cps.toList
theorem xI (n:Int):Str.ofString (toString n)=tx (dg n):=(x6 _).symm
structure DgOk (n:Int):Prop where
 all:PySem.NumText.AllDigits (dg n)
 ne:dg n≠[]
 val:((PySem.NumText.digitsVal (dg n):Nat):Int)=n
 zero:(dg n)[0]?=some 48->(dg n).length=1
 len:(dg n).length<=100
 sz:n.natAbs.log2<1920
theorem zd (l:List Nat):(tx l).cps.toList=l:=by simp [tx]
theorem zP (l:List Nat):(tx l).length=l.length:=by simp [tx,Str.length]
theorem z7f {n:Int} (h0:0<=n) (h1:n<10^100):DgOk n:=by
 refine pA fun Gc hU=>?_;obtain⟨l,e,a,b,c,d,f⟩:=z6S h0;refine hU ?_;have el:dg n=l:=by
  unfold dg;rw[e,zd]
 exact⟨el▸a,el▸b,el▸c,el▸d,by rw[el];exact f 99 h1,by
  by_cases z:n.natAbs=0
  ·rw[z];decide
  ·refine (Nat.log2_lt z).mpr (Nat.lt_of_lt_of_le (m:=10^100) (by omega) (by decide +kernel))⟩
theorem xZ {l:List Nat} (h:PySem.NumText.AllDigits l) {c:Nat} (hc:c<48∨57<c):c∉l:=fun m=>by
 have:=h c m;omega
theorem y4A:Str.ofString ":" = ⟨#[58]⟩:=by decide +kernel
theorem z6l:Str.ofString " " = ⟨#[32]⟩:=by decide +kernel
theorem z0X {l:List Nat} {ps:List (List Nat)} {c:Nat} (hc:c<256) (e:l=glu c ps) (ne:ps≠[]) (h:∀p∈ps,c∉p):Txt.split (tx l) ⟨#[c]⟩=ps.map tx:=by
 rw[z8N _ _ hc,zd,e,z8O ne h]
noncomputable def z9D:List Nat:=(Str.ofString "never").cps.toList
theorem y1O:tx z9D=Str.ofString "never" :=x6 _
theorem wH {c M:Nat}:∀ {ps:List (List Nat)},(∀p∈ps,p.length<=M)->(glu c ps).length<=ps.length*(M+1)
 | [],_=>Nat.zero_le _
 | [p],h=>by
  have:=h p (by simp);simp only [glu,List.length_singleton];omega
 | p::q::r,h=>by
  have ih:=wH (c:=c) (ps:=q::r) fun x hx=>h x (by simp [hx]);have:=h p (by simp);have e:(p::q::r).length*(M+1)=(M+1)+(q::r).length*(M+1):=by rw[List.length_cons,Nat.add_mul];omega
  rw[e];simp only [glu,List.length_append,List.length_cons] at ih ⊢;omega
theorem z3Y {sep:Str} {M:Nat}:∀ {ys:List Str} (k:Nat),(∀y∈ys,y.length+sep.length<=M)->ys.foldl (· + ·.length+sep.length) k<=k+ys.length*M
 | [],k,_=>by simp
 | y::ys,k,h=>by
  have ih:=z3Y (ys:=ys) (k+y.length+sep.length) fun x hx=>h x (by simp [hx]);have:=h y (by simp);rw[List.foldl_cons,List.length_cons,Nat.add_mul];omega
theorem z6d {c:Nat} {ps:List (List Nat)}:Builtin.Str.glued ⟨#[c]⟩ (ps.map tx)=tx (glu c ps):=by
 apply vC;rw[z9s,zd,List.map_map];congr 1;exact (List.map_congr_left fun p _=>zd p).trans (List.map_id _)
theorem y3d {c M:Nat} {ps:List (List Nat)} (h:∀p∈ps,p.length<=M) (l:ps.length*(M+1)<=16777216):(ps.map tx).toArray.foldl (· + ·.length+(⟨#[c]⟩:Str).length) 0<=sizeLine/\(Builtin.Str.glued ⟨#[c]⟩ (ps.map tx)).length<=sizeLine:=by
 rw[sizeLine_eq];constructor
 ·rw[List.foldl_toArray];have:=z3Y (sep:=⟨#[c]⟩) (M:=M+1) (ys:=ps.map tx) 0 fun y hy=>by
   refine pA fun Ge hV=>?_;obtain⟨p,hp,rfl⟩:=List.mem_map.mp hy;refine hV ?_;rw[zP];exact Nat.add_le_add_right (h p hp) 1
  rw[List.length_map] at this;omega
 ·rw[z6d,zP];exact Nat.le_trans (wH h) l
theorem z9R {K:PySem.W.Frag} {c M:Nat} {ps:List (List Nat)} {H:Hp} {D:Addr} {Q:VK} {z:Str} (ez:z=⟨#[c]⟩) (hD:H D=some (.lst ((ps.map tx).map V.str))) (h:∀p∈ps,p.length<=M) (l:ps.length*(M+1)<=16777216) (q:Q (.str (tx (glu c ps))) H):∃sep a ys,V.str z=V.str sep/\[V.ref D]=[V.ref a]/\SqL K H a (List.map V.str ys)/\Array.foldl (fun x1 x2=>x1+x2.length+sep.length) 0 ys.toArray<=16777216/\(Builtin.Str.glued sep ys).length<=16777216/\Q (V.str (Builtin.Str.glued sep ys)) H:=by
 subst ez;have jo:=y3d (c:=c) h l;rw[sizeLine_eq] at jo;exact⟨_,D,_,rfl,rfl,SqL.of hD,jo.1,jo.2,by rw[z6d];exact q⟩
theorem vz {c:Nat} {Pz:Nat->Prop} (hc:Pz c):∀ {ps:List (List Nat)},(∀p∈ps,∀x∈p,Pz x)->∀x∈glu c ps,Pz x
 | [],_,x,hx=>nomatch hx
 | [p],h,x,hx=>h p (by simp) x hx
 | p::q::r,h,x,hx=>by
  rcases List.mem_append.mp (show x∈p++c::glu c (q::r) from hx) with z|z
  ·exact h p (by simp) x z
  ·rcases List.mem_cons.mp z with rfl|z
   ·exact hc
   ·exact vz hc (fun y hy=>h y (by simp [hy])) x z
noncomputable def y1w (c:Nat):Bool:=decide (48<=c/\c<=57)
noncomputable def z7d (l:List Nat):Bool:=decide (1<=l.length) && (decide (l.length<=100) && (!(decide (l[0]?=some 48) && decide (1<l.length)) && l.all y1w))
theorem y1v {l:List Nat}:z7d l=true ↔ 1<=l.length/\l.length<=100/\¬(l[0]?=some 48/\1<l.length)/\∀c∈l,48<=c/\c<=57:=by
 unfold z7d y1w;simp only [Bool.and_eq_true,decide_eq_true_eq,Bool.not_eq_true',Bool.and_eq_false_iff,decide_eq_false_iff_not,List.all_eq_true];constructor
 ·rintro⟨a,b,c,d⟩;exact⟨a,b,fun z=>c.elim (fun k=>k z.1) fun k=>k z.2,d⟩
 ·rintro⟨a,b,c,d⟩;refine⟨a,b,?_,d⟩;by_cases e:l[0]?=some 48
  ·exact .inr fun k=>c ⟨e,k⟩
  ·exact .inl e
noncomputable def isW (u:T3):Bool:=decide (1<=u.1/\(0<=u.2.1/\u.2.1<u.1)/\1<=u.2.2/\u.2.2<=u.1)
noncomputable def wQ:Sp:=fun vs H Q _=>∃u:T3,vs=[.int u.1,.int u.2.1,.int u.2.2]/\Q (.bl (isW u)) H
theorem z5U (T:TF K mg "is_waking" qm):Has P w K mg base 1 "is_waking" ["period", "first", "length"] wQ:=by
 refine T.has z3F (fun _ _ _ _ _ _=>L2.bnd3 fun _ _ _=>rfl) (fun vs H Q E h=>?_) (fun f cdv A outer s H vs Q E hr h=>?_)
 ·refine pA fun Gf gC=>?_;obtain⟨u,rfl,_⟩:=h;refine gC ?_;rfl
 refine pA fun Gg gE=>?_;obtain⟨u,rfl,q⟩:=h;refine gE ?_;refine⟨_,(zE (zK (kP (jU y4q (pv 0) zF (zX _)) (kP (wn z1n wa zF (pv 1) (pv 0)) (wW (wn z1n z1n zF (pv 2) (pv 0))))))),?_⟩;unfold isW at q;walk_at "wp";refine⟨fun c1=>⟨fun c2=>⟨fun c3=>⟨fun c4=>?_,fun c4=>?_⟩,fun c3=>?_⟩,fun c2=>?_⟩,fun c1=>?_⟩
 ·by_cases c5:u.2.2<=u.1
  ·rw[decide_eq_true ⟨c1,⟨c2,c3⟩,c4,c5⟩] at q;rw[decide_eq_true c5];exact q
  ·rw[decide_eq_false fun z=>c5 z.2.2.2] at q;rw[decide_eq_false c5];exact q
 ·rw[decide_eq_false fun z=>c4 z.2.2.1] at q;exact q
 ·rw[decide_eq_false fun z=>c3 z.2.1.2] at q;exact q
 ·rw[decide_eq_false fun z=>c2 z.2.1.1] at q;exact q
 ·rw[decide_eq_false fun z=>c1 z.1] at q;exact q
noncomputable def z0a (K:PySem.W.Frag):Sp:=fun vs H Q _=>∃(a:Addr) (xs:List V) (ws:List T3),vs=[.ref a]/\SqL K H a xs/\Pl H xs ws/\(∀u∈ws,isW u=true)/\∀D:Addr,H D=none->Q (.ref D) (upd H D (.lst xs))
theorem z9h (T:TF K mg "plan_of" vP) (m_list:mg "list" = none) (G_is_waking:Has P w K mg base 1 "is_waking" ["period", "first", "length"] wQ):Has P w K mg base 2 "plan_of" ["rows"] (z0a K):=by
 refine T.has qD (fun _ _ _ _ _ _=>L2.bnd1 fun _=>rfl) (fun vs H Q E h=>?_) (fun f cdv A outer s H vs Q E hr h=>?_)
 ·refine pA fun Gh gF=>?_;obtain⟨a,xs,ws,rfl,_⟩:=h;refine gF ?_;rfl
 refine pA fun Gi gG=>?_;obtain⟨a,xs,ws,rfl,hS,hP,hw,q⟩:=h;refine gG ?_;refine⟨_,(zC (y6 PassesOwn.never rfl (yC (pv 0)) (kO rfl (zm (zQ (i:=1) qD.nd rfl (Or.inl rfl)) (zm (zQ (i:=2) qD.nd rfl (Or.inl rfl)) (zm (zQ (i:=3) qD.nd rfl (Or.inl rfl)) jT)))) (zE (zi (xc (yd (zL (G_is_waking.mono (by first|decide|omega)) hr (zB (pv 1) (zB (pv 2) (zB (pv 3) zD)))) (fun _=>rfl))) (zE yT) zM))) (zE (zK (yA z4A rfl m_list (by decide +kernel) (zB (pv 0) zD))))),?_⟩;walk_at "wp";refine⟨⟨_,hS⟩,?_⟩;obtain⟨W,hW⟩:∃W:Nat->St->Hp->Prop,W=fun i σ H'=>∃o1 o2 o3:Option V,σ=[some (.ref a),o1,o2,o3]/\H'=H:=⟨_,rfl⟩
 refine yR (xs:=xs) W ?_ (fun i σ H' _ z=>?_) (fun i x σ H' hx z=>?_) (fun σ H' z=>?_)
 ·rw[hW];exact⟨none,none,none,rfl,rfl⟩
 ·rw[hW] at z;refine pA fun Gj gH=>?_;obtain⟨_,_,_,_,rfl⟩:=z;refine gH ?_;exact hS
 ·rw[hW] at z;refine pA fun Gk gI=>?_;obtain⟨o1,o2,o3,rfl,rfl⟩:=z;refine gI ?_;refine pA fun Gm gJ=>?_;obtain⟨p,u,e1,rfl,e3⟩:=hP.at hx;refine gJ ?_;refine⟨p,_,rfl,SqT.of e3,rfl,?_⟩;walk_at "wp";refine⟨u,rfl,?_⟩;rw[hw u (List.mem_of_getElem? e1)];walk_at "wp";rw[hW];exact⟨_,_,_,rfl,rfl⟩
 ·rw[hW] at z;refine pA fun Gn gK=>?_;obtain⟨o1,o2,o3,rfl,rfl⟩:=z;refine gK ?_;walk_at "wp";exact⟨_,_,rfl,.inl hS,q⟩
noncomputable def TxOk (l:List Nat):Prop:=l.length<=100000/\∀c∈l,c<128
theorem TxOk.asc {l:List Nat} (h:TxOk l):Asc (tx l):=y5T.mpr h.2
theorem y2a (c:Nat):(!(Builtin.Str.occurrences (Str.ofString "0123456789") ⟨#[c]⟩ 0 (Str.ofString "0123456789").length 1).isEmpty)=y1w c:=by
 rw[StrLaws.found_one];have el:(Str.ofString "0123456789").cps.toList=[48,49,50,51,52,53,54,55,56,57]:=by decide +kernel
 rw[el];unfold y1w;rw[decide_eq_decide];simp;omega
theorem z7p:Str.ofString "0" = ⟨#[48]⟩:=by decide +kernel
theorem y2v {c d:Nat}:(⟨#[c]⟩:Str)=⟨#[d]⟩ ↔ c=d:=by
 constructor
 ·intro h;injection h with h;injection h with h;simpa using h
 ·rintro rfl;rfl
noncomputable def y0a (m:Nat) (l:List Nat):Bool:=decide (1<=l.length) && (decide (l.length<=m) && (!(decide (l[0]?=some 48) && decide (1<l.length)) && l.all y1w))
noncomputable def jz:Sp:=fun vs H Q _=>∃(l:List Nat) (m:Nat),vs=[.str (tx l),.int (m:Int)]/\TxOk l/\∀H',Same H H'->Q (.bl (y0a m l)) H'
theorem z2Q (T:TF K mg "is_figures" ji) (m_len:mg "len" = none) (m_all:mg "all" = none) (c_FIGURES:CS mg "FIGURES" "0123456789"):Has P w K mg base 1 "is_figures" ["text", "most"] jz:=by
 refine T.has z1f (fun _ _ _ _ _ _=>L2.bnd2 fun _ _=>rfl) (fun vs H Q E h=>?_) (fun f cdv A outer s H vs Q E hr h=>?_)
 ·refine pA fun Go gL=>?_;obtain⟨l,m,rfl,_⟩:=h;refine gL ?_;rfl
 refine pA fun Gp gM=>?_;obtain⟨l,m,rfl,hl,q⟩:=h;refine gM ?_;refine⟨_,(zC (yU (zi (PW.pt (z7K (zN wa (zY yO rfl m_len PySem.boot_len (zB (pv 0) zD)) zF (zX _)) (z3K (zN z7M (zY yO rfl m_len PySem.boot_len (zB (pv 0) zD)) (pv 1) (zX _))))) (zE (zK xC)) zM)) (zC (yU (zi (PW.pt (z8h (zN xE (zU z9S (pv 0) zF (fun _ _=>rfl)) zS (zX _)) (z4v (zN z7M (zY yO rfl m_len PySem.boot_len (zB (pv 0) zD)) zF (zX _))))) (zE (zK xC)) zM)) (zE (zK (zY (z0F rfl) rfl m_all (by decide +kernel) (zB (ya (CompSc.none (own:=["sign"]) (by decide +kernel) (by decide +kernel) rfl (by decide +kernel)) rfl (z8m (pv 0)) (fun _ _ _=>(zQ (i:=0) (show (["sign"]:List Str).Nodup from by decide +kernel) rfl (Or.inl rfl) (Or.inr rfl))) (fun _ _ _=>yX) (fun _ _ _=>(jU v8 (pv 0) (y3T rfl c_FIGURES) rfl))) zD)))))),?_⟩;have ln:=hl.1;have tl:=zP l;have no:y0a m l=false->Q (.bl false) H:=fun e=>by
  have:=q H (Same.refl H);rw[e] at this;exact this
 walk_at "wp";refine⟨fun σ H'=>σ=[some (.str (tx l)),some (.int (m:Int))]/\H'=H/\1<=l.length/\l.length<=m,?_,?_⟩
 ·walk_at "wp";refine⟨_,rfl,by omega,fun c=>no (by unfold y0a;rw[decide_eq_false (by omega)];rfl),fun c=>⟨_,rfl,by omega,fun c2=>no (by unfold y0a;rw[decide_eq_false (p:=l.length<=m) (by omega)];simp),fun c2=>⟨by omega,by omega⟩⟩⟩
 rintro σ H' ⟨rfl,rfl,l1,l2⟩;walk_at "wp";refine⟨fun σ H2=>σ=[some (.str (tx l)),some (.int (m:Int))]/\H2=H'/\¬(l[0]?=some 48/\1<l.length),?_,?_⟩
 ·walk_at "wp";obtain⟨c0,r0,e0⟩:∃c r,l=c::r:=by
   cases l with
   | nil=>simp at l1
   | cons c r=>exact⟨c,r,rfl⟩
  refine⟨_,_,c0,rfl,rfl,by rw[tl];show _<=16777216;omega,by rw[zd,e0];exact zj (j:=0) rfl,rfl,_,rfl,fun z0=>⟨_,rfl,by omega,fun c=>?_,fun c=>?_⟩,fun z0=>?_⟩
  ·have z1:=V.str.inj (of_decide_eq_true z0);rw[z7p,y2v] at z1;refine no ?_;unfold y0a;rw[decide_eq_true (p:=l[0]?=some 48) (by rw[e0,z1];rfl),decide_eq_true (p:=1<l.length) (by omega)];simp
  ·exact⟨rfl,fun z=>c (by omega)⟩
  ·refine⟨rfl,fun z=>z0 (decide_eq_true ?_)⟩;have:=z.1;rw[e0] at this;have e1:c0=48:=by simpa using this
   rw[z7p,e1]
 rintro σ H2 ⟨rfl,rfl,l3⟩;walk_at "wp";refine⟨_,rfl,hl.asc,?_⟩;obtain⟨Sv,hSv⟩:∃Sv:St->Prop,Sv=fun σ=>∃o1,σ=[o1]:=⟨_,rfl⟩
 obtain⟨Pv,hPv⟩:∃Pv:Addr->Nat->List V->Hp->Prop,Pv=fun D i ys H3=>H2 D=none/\Same H2 H3/\ys=((l.take i).map y1w).map V.bl:=⟨_,rfl⟩
 refine z3s Sv Pv (by rw[hSv];exact⟨none,rfl⟩) (fun D hD=>?_) (fun D i c ys σ H3 hx hs hD hy h=>?_) (fun D ys H3 hD h=>?_)
 ·rw[hPv];exact⟨hD,zJ hD _,rfl⟩
 ·rw[hSv] at hs;rw[hPv] at h;obtain⟨o1,rfl⟩:=hs;refine pA fun Gq gN=>?_;obtain⟨nD,g,rfl⟩:=h;refine gN ?_;have hx':l[i]?=some c:=by
   rw[←zd l,Array.getElem?_toList];exact hx
  have hi:=(List.getElem?_eq_some_iff.mp hx').1;walk_at "wp";refine⟨_,_,rfl,rfl,?_⟩;rw[y2a];refine CompP.mk hD hy (by rw[sizeLine_eq];omega) (by rw[hSv];exact⟨_,rfl⟩) (by
   rw[hPv];refine⟨nD,g.write nD _,?_⟩;rw[List.take_add_one,hx'];simp)
 ·rw[hPv] at h;refine pA fun Gr gO=>?_;obtain⟨nD,g,rfl⟩:=h;refine gO ?_;have es:(tx l).cps.size=l.length:=tl;rw[es,List.take_length] at hD;refine⟨D,_,rfl,SqL.of hD,?_⟩;have ef:(l.map y1w).all id=y0a m l:=by
   unfold y0a;have n3:(decide (l[0]?=some 48) && decide (1<l.length))=false:=by
    rw[Bool.and_eq_false_iff];by_cases c:l[0]?=some 48
    ·exact .inr (decide_eq_false fun z=>l3 ⟨c,z⟩)
    ·exact .inl (decide_eq_false c)
   rw[decide_eq_true l1,decide_eq_true l2,n3,List.all_map];rfl
  rw[ef];exact q _ g
noncomputable def inL:List Nat:=[105,110,32]
noncomputable def byL:List Nat:=[98,121,32]
noncomputable def opL:List Nat:=[32,40]
noncomputable def cmL:List Nat:=[44,32]
noncomputable def clL:List Nat:=[41]
mutual
noncomputable def ptx:Pap->List Nat
 | .inn k=>inL++dg k
 | .par b ps=>byL++(dg b++(opL++(wm ps++clL)))
noncomputable def wm:List Pap->List Nat
 | []=>[]
 | p::ps=>ptx p++v3 ps
noncomputable def v3:List Pap->List Nat
 | []=>[]
 | p::ps=>cmL++(ptx p++v3 ps)
end
mutual
noncomputable def y4G:Pap->List Int
 | .inn k=>[k]
 | .par b ps=>b::z7N ps
noncomputable def z7N:List Pap->List Int
 | []=>[]
 | p::ps=>y4G p++z7N ps
end
noncomputable def POk (p:Pap):Prop:=∀n∈y4G p,DgOk n
noncomputable def POks (ps:List Pap):Prop:=∀n∈z7N ps,DgOk n
theorem POks.cons {p:Pap} {ps:List Pap} (h:POks (p::ps)):POk p/\POks ps:=by
 unfold POks z7N at h;exact⟨fun n hn=>h n (by simp [hn]),fun n hn=>h n (by simp [hn])⟩
theorem POk.par {b:Int} {ps:List Pap} (h:POk (.par b ps)):DgOk b/\POks ps:=by
 unfold POk y4G at h;exact⟨h b (by simp),fun n hn=>h n (by simp [hn])⟩
theorem POk.inn {k:Int} (h:POk (.inn k)):DgOk k:=h k (by simp [y4G])
theorem POks.mem:∀ {ps:List Pap},POks ps->∀p∈ps,POk p
 | _::_,h,q,hq=>by
  rcases List.mem_cons.mp hq with rfl|hq
  ·exact h.cons.1
  ·exact POks.mem h.cons.2 q hq
mutual
theorem qr:∀(p:Pap),POk p->(ptx p).length+2<=112*p.kn
 | .inn k,h=>by
  have:=h.inn.len;simp only [ptx,Pap.kn,List.length_append,inL,List.length_cons,List.length_nil];omega
 | .par b ps,h=>by
  have h1:=h.par.1.len;have h2:=z1i ps h.par.2;simp only [ptx,Pap.kn,List.length_append,byL,opL,clL,List.length_cons,List.length_nil];omega
theorem z1i:∀(ps:List Pap),POks ps->(wm ps).length<=112*Pap.kns ps
 | [],_=>by simp [wm]
 | p::ps,h=>by
  have h1:=qr p h.cons.1;have h2:=z6M ps h.cons.2;simp only [wm,Pap.kns,List.length_append];omega
theorem z6M:∀(ps:List Pap),POks ps->(v3 ps).length<=112*Pap.kns ps
 | [],_=>by simp [v3]
 | p::ps,h=>by
  have h1:=qr p h.cons.1;have h2:=z6M ps h.cons.2;simp only [v3,Pap.kns,List.length_append,cmL,List.length_cons,List.length_nil];omega
end
theorem z3L:∀ps:List Pap,v3 ps=ps.flatMap fun p=>cmL++ptx p
 | []=>rfl
 | p::ps=>by
  simp only [v3,List.flatMap_cons,z3L ps,List.append_assoc]
theorem z6e:∀ps:List Pap,Builtin.Str.glued (tx cmL) (ps.map fun p=>tx (ptx p))=tx (wm ps)
 | []=>by
  apply vC;simp [Builtin.Str.glued,wm,Str.empty,tx]
 | p::ps=>by
  apply vC;show (((ps.map fun p=>tx (ptx p)).foldl (fun acc q=>acc++(tx cmL).cps++q.cps) (tx (ptx p)).cps)).toList=_;rw[wG,zd,zd,zd];simp only [wm,z3L,List.flatMap_map,zd]
theorem y2W:Str.ofString "in " = tx inL:=by decide +kernel
theorem y2f:Str.ofString "by " = tx byL:=by decide +kernel
theorem y2S:Str.ofString " (" = tx opL:=by decide +kernel
theorem y2d:Str.ofString ", " = tx cmL:=by decide +kernel
theorem y0N:Str.ofString ")" = tx clL:=by decide +kernel
theorem yl (k l:List Nat):tx k++tx l=tx (k++l):=by
 apply vC;rw[y2t,zd,zd,zd]
theorem z5o (l y:List Nat) (i:Nat) (hy:y.length≠0):(decide (i+(tx y).length<=(tx l).length) && Builtin.Str.subAt (tx l) (tx y) i)=decide ((l.drop i).take y.length=y):=by
 rw[zP,zP];have e:Builtin.Str.subAt (tx l) (tx y) i=decide ((l.drop i).take y.length=y):=by
  unfold Builtin.Str.subAt;rw[Bool.eq_iff_iff,decide_eq_true_eq,beq_iff_eq,←Array.toList_inj,Array.toList_extract,List.extract_eq_take_drop];have e1:i+(tx y).length-i=y.length:=by rw[zP];omega
  rw[e1];show (List.take y.length (List.drop i (tx l).cps.toList))=(tx y).cps.toList ↔ _;rw[zd,zd]
 rw[e];by_cases c:(l.drop i).take y.length=y
 ·rw[decide_eq_true c,Bool.and_true,decide_eq_true_eq];have:=congrArg List.length c;rw[List.length_take,List.length_drop] at this;omega
 ·rw[decide_eq_false c,Bool.and_false]
theorem wf {l:List Nat} {i j:Nat} (h:i<=j) (hj:j<=l.length):Txt.slice (tx l) (some (i:Int)) (some (j:Int))=tx ((l.drop i).take (j-i)):=by
 have:=beq_iff_eq.mp (PyProof.Rows.slice_closesL (x:=tx l) (i:=i) (j:=j) (by omega) (by omega) (by rw[zP];omega));rw[this,zd];have e:((j:Int)-(i:Int)).toNat=j-i:=by omega
 rw[Int.toNat_natCast,e];rfl
theorem y4J {k l:List Nat}:(tx k=tx l) ↔ k=l:=by
 constructor
 ·intro h;have:(tx k).cps.toList=(tx l).cps.toList:=by rw[h]
  rwa [zd,zd] at this
 ·rintro rfl;rfl
theorem eqT {l k:List Nat} {H:Hp} {Q:VK} (q:Q (.bl (decide (l=k))) H):rEq (.str (tx l)) (.str (tx k)) H Q:=by
 refine⟨rfl,?_⟩;have:decide (V.str (tx l)=V.str (tx k))=decide (l=k):=decide_eq_decide.mpr ⟨fun h=>y4J.mp (V.str.inj h),fun h=>by rw[h]⟩;rw[this];exact q
theorem neT {l k:List Nat} {H:Hp} {Q:VK} (q:Q (.bl (!decide (l=k))) H):rNe (.str (tx l)) (.str (tx k)) H Q:=by
 refine⟨rfl,?_⟩;have:decide (V.str (tx l)=V.str (tx k))=decide (l=k):=decide_eq_decide.mpr ⟨fun h=>y4J.mp (V.str.inj h),fun h=>by rw[h]⟩;rw[this];exact q
theorem eqS {y z:Str} {H:Hp} {Q:VK} (q:Q (.bl (decide (y=z))) H):rEq (.str y) (.str z) H Q:=by
 refine⟨rfl,?_⟩;have:decide (V.str y=V.str z)=decide (y=z):=decide_eq_decide.mpr ⟨fun h=>V.str.inj h,fun h=>by rw[h]⟩;rw[this];exact q
theorem nb {b:Bool} (h:(!b)=true):¬b=true:=by
 cases b
 ·decide
 ·cases h
theorem z0j {l:List Nat} {i:Nat} (hi:i<=l.length):Txt.slice (tx l) (some (i:Int)) none=tx (l.drop i):=by
 have a:¬((l.length:Int)<0):=by omega
 have e:Txt.slice (tx l) (some (i:Int)) none=Txt.slice (tx l) (some (i:Int)) (some (l.length:Int)):=by
  show StrLaws.sliceText _ _ _=StrLaws.sliceText _ _ _;unfold StrLaws.sliceText;rw[zP];simp [Builtin.Str.strSliceIndices,a]
 rw[e,wf hi (Nat.le_refl _),List.take_of_length_le (by rw[List.length_drop];omega)]
local macro_rules | `(tactic| walk_at "wpd")=>`(tactic| try simp only [z4Q,z5n,z6c,z5m,z8I,z0W,z6G,z2n,y2J,z4Y,z4e,z2S,z4S,z1G,z1J,vA,z1Q,z1P,y2q,z7z,z7y,z8D,z8A,z8g,y3F,y3D,z4u,z4t,z1F,y2r,y3p,z9z,y0A,z4f,z8C,z4V,z1U,z4U,z1I,z8G,z4W,z1R,z4P,z4X,z1T,z8K,wz,z4T,z9y,z4d,z9Y,z8B,kd,z1H,z8L,z4c,z1E,z5X,z2T,z5Y,z4Z,z2B,z2A,z1y,z1z,z1x,z2C,z4R,z2D,z5F,z5H,z5E,z1w,z2E,vm,z5G,z4a,z5C,z1t,z1O,z4b,z4s,kx,z1L,z1N,qZ,z1K,z1M,z1S,z5D,L2.qc,y0I,z2X,z0C,List.map_cons,List.map_nil,List.length_cons,List.length_nil,List.replicate,List.cons_append,List.nil_append,List.append_nil,List.set_cons_zero,List.set_cons_succ,decide_eq_true_eq,Bool.not_eq_true',decide_eq_false_iff_not,Bool.not_eq_eq_eq_not,Bool.not_true,Bool.not_false,sizeLine_eq,oV,reduceCtorEq,z9V,z9W,z9U,z9X,Nat.reduceAdd,Nat.reduceSub,Nat.reduceLeDiff,Nat.zero_add,true_and,and_true,forall_const,Bool.false_eq_true,if_true,if_false,false_implies,true_implies,not_false_eq_true,not_true_eq_false,implies_true])
noncomputable def ltB (c:Nat):Bool:=decide (97<=c/\c<=122)
noncomputable def nmB (l:List Nat):Bool:=decide (1<=l.length) && (decide (l.length<=8) && l.all ltB)
noncomputable def z2k (l:List Nat):Bool:=if l.take 1=[45] then !decide (l=[45,48]) && z7d (l.drop 1) else z7d l
noncomputable def y2Z (p:Str) (l:List Nat):Bool:=if p = "name" then nmB l else if p = "turn" then z2k l else if p = "prime" then y0a 12 l else if p = "number" then y0a 50 l else true
theorem y4v (c:Nat):(!(Builtin.Str.occurrences (Str.ofString "abcdefghijklmnopqrstuvwxyz") ⟨#[c]⟩ 0 (Str.ofString "abcdefghijklmnopqrstuvwxyz").length 1).isEmpty)=ltB c:=by
 rw[StrLaws.found_one];have el:(Str.ofString "abcdefghijklmnopqrstuvwxyz").cps.toList=[97,98,99,100,101,102,103,104,105,106,107,108,109,110,111,112,113,114,115,116,117,118,119,120,121,122]:=by decide +kernel
 rw[el];unfold ltB;rw[decide_eq_decide];simp;omega
noncomputable def z0g:Sp:=fun vs H Q _=>∃l:List Nat,vs=[.str (tx l)]/\TxOk l/\∀H',Same H H'->Q (.bl (nmB l)) H'
theorem z9o (T:TF K mg "is_name" vV) (m_len:mg "len" = none) (m_all:mg "all" = none) (c_LETTERS:CS mg "LETTERS" "abcdefghijklmnopqrstuvwxyz") (c_MOST_LETTERS:CI mg "MOST_LETTERS" 8):Has P w K mg base 1 "is_name" ["word"] z0g:=by
 refine T.has z7I (fun _ _ _ _ _ _=>L2.bnd1 fun _=>rfl) (fun vs H Q E h=>?_) (fun f cdv A outer s H vs Q E hr h=>?_)
 ·refine pA fun Gs gP=>?_;obtain⟨l,rfl,_⟩:=h;refine gP ?_;rfl
 refine pA fun Gu gQ=>?_;obtain⟨l,rfl,hl,q⟩:=h;refine gQ ?_;refine⟨_,(zE (zK (kP (wn z1n z1n zF (zY yO rfl m_len PySem.boot_len (zB (pv 0) zD)) (z1m rfl c_MOST_LETTERS)) (wW (zY (z0F rfl) rfl m_all (by decide +kernel) (zB (ya (CompSc.none (own:=["sign"]) (by decide +kernel) (by decide +kernel) rfl (by decide +kernel)) rfl (z8m (pv 0)) (fun _ _ _=>(zQ (i:=0) (show (["sign"]:List Str).Nodup from by decide +kernel) rfl (Or.inl rfl) (Or.inr rfl))) (fun _ _ _=>yX) (fun _ _ _=>(jU v8 (pv 0) (y3T rfl c_LETTERS) rfl))) zD)))))),?_⟩;have ln:=hl.1;have tl:=zP l;walk_at "wp";have no:nmB l=false->Q (.bl false) H:=fun e=>by
  have:=q H (Same.refl H);rw[e] at this;exact this
 refine⟨_,rfl,by omega,fun c1=>⟨fun c2=>⟨_,rfl,hl.asc,?_⟩,fun c2=>no ?_⟩,fun c1=>no ?_⟩
 ·obtain⟨Sv,hSv⟩:∃Sv:St->Prop,Sv=fun σ=>∃o1,σ=[o1]:=⟨_,rfl⟩
  obtain⟨Pv,hPv⟩:∃Pv:Addr->Nat->List V->Hp->Prop,Pv=fun D i ys H3=>H D=none/\Same H H3/\ys=((l.take i).map ltB).map V.bl:=⟨_,rfl⟩
  refine z3s Sv Pv (by rw[hSv];exact⟨none,rfl⟩) (fun D hD=>?_) (fun D i c ys σ H3 hx hs hD hy h=>?_) (fun D ys H3 hD h=>?_)
  ·rw[hPv];exact⟨hD,zJ hD _,rfl⟩
  ·rw[hSv] at hs;rw[hPv] at h;obtain⟨o1,rfl⟩:=hs;refine pA fun Gv gR=>?_;obtain⟨nD,g,rfl⟩:=h;refine gR ?_;have hx':l[i]?=some c:=by
    rw[←zd l,Array.getElem?_toList];exact hx
   have hi:=(List.getElem?_eq_some_iff.mp hx').1;walk_at "wp";refine⟨_,_,rfl,rfl,?_⟩;rw[y4v];refine CompP.mk hD hy (by rw[sizeLine_eq];omega) (by rw[hSv];exact⟨_,rfl⟩) (by
    rw[hPv];refine⟨nD,g.write nD _,?_⟩;rw[List.take_add_one,hx'];simp)
  ·rw[hPv] at h;refine pA fun Gw gS=>?_;obtain⟨nD,g,rfl⟩:=h;refine gS ?_;have es:(tx l).cps.size=l.length:=tl;rw[es,List.take_length] at hD;refine⟨D,_,rfl,SqL.of hD,?_⟩;have ef:(l.map ltB).all id=nmB l:=by
    unfold nmB;rw[decide_eq_true (p:=1<=l.length) (by omega),decide_eq_true (p:=l.length<=8) (by omega),List.all_map];rfl
   rw[ef];exact q _ g
 ·unfold nmB;rw[decide_eq_false (p:=l.length<=8) (by omega)];simp
 ·unfold nmB;rw[decide_eq_false (p:=1<=l.length) (by omega)];simp
noncomputable def z0f:Sp:=fun vs H Q _=>∃l:List Nat,vs=[.str (tx l)]/\TxOk l/\∀H',Same H H'->Q (.bl (z2k l)) H'
theorem z9n (T:TF K mg "is_turn" vU) (c_MOST_FIGURES:CI mg "MOST_FIGURES" 100) (G_is_figures:Has P w K mg base 1 "is_figures" ["text", "most"] jz):Has P w K mg base 2 "is_turn" ["word"] z0f:=by
 refine T.has z7H (fun _ _ _ _ _ _=>L2.bnd1 fun _=>rfl) (fun vs H Q E h=>?_) (fun f cdv A outer s H vs Q E hr h=>?_)
 ·refine pA fun Gx gU=>?_;obtain⟨l,rfl,_⟩:=h;refine gU ?_;rfl
 refine pA fun Gy gW=>?_;obtain⟨l,rfl,hl,q⟩:=h;refine gW ?_;refine⟨_,(zC (zi (yd (xn PySem.F.plainAttrs_str PySem.F.slot_str_startswith PySem.F.type_str_startswith z9F (pv 0) (zB zS zD)) (fun _=>rfl)) (zE (zK (kP (jU kQ (pv 0) zS (zX _)) (wW (zL (G_is_figures.mono (by first|decide|omega)) hr (zB (qI z6C (pv 0) (jp zF) z1k) (zB (z1m rfl c_MOST_FIGURES) zD))))))) zM) (zE (zK (zL (G_is_figures.mono (by first|decide|omega)) hr (zB (pv 0) (zB (z1m rfl c_MOST_FIGURES) zD)))))),?_⟩;have ln:=hl.1;have tl:=zP l;walk_at "wp";have mT:Str.ofString "-" = tx [45]:=by decide +kernel
 have zT:Str.ofString "-0" = tx [45,48]:=by decide +kernel
 have sb:=z5o l [45] 0 (by decide);rw[Nat.zero_add,List.drop_zero] at sb;refine⟨rfl,_,_,rfl,rfl,fun c=>?_,fun c=>?_⟩
 ·rw[mT,sb,decide_eq_true_eq] at c;have c':l.take 1=[45]:=c;have l1:1<=l.length:=by
   have:=congrArg List.length c';rw[List.length_take] at this;simp at this;omega
  unfold z2k at q;rw[if_pos c'] at q;rw[zT];refine neT ⟨_,rfl,fun c2=>?_,fun c2=>?_⟩
  ·rw[c2,Bool.true_and] at q;refine⟨_,rfl,by rw[tl,sizeLine_eq];omega,?_⟩;have e1:Txt.slice (tx l) (some 1) none=tx (l.drop 1):=z0j (i:=1) l1;rw[e1];exact⟨l.drop 1,100,rfl,⟨by rw[List.length_drop];omega,fun x hx=>hl.2 x (List.mem_of_mem_drop hx)⟩,q⟩
  ·have c3:(!decide (l=[45,48]))=false:=by simpa using c2
   rw[c3] at q;exact q H (Same.refl H)
 ·rw[mT,sb,decide_eq_true_eq] at c;have c':¬l.take 1=[45]:=c;unfold z2k at q;rw[if_neg c'] at q;exact⟨l,100,rfl,hl,q⟩
noncomputable def z8U:Sp:=fun vs H Q _=>∃(p:Str) (l:List Nat),vs=[.str p,.str (tx l)]/\TxOk l/\∀H',Same H H'->Q (.bl (y2Z p l)) H'
theorem y5L (T:TF K mg "fits" z8b) (c_PRIME_FIGURES:CI mg "PRIME_FIGURES" 12) (c_GRID_FIGURES:CI mg "GRID_FIGURES" 50) (G_is_figures:Has P w K mg base 1 "is_figures" ["text", "most"] jz) (G_is_name:Has P w K mg base 1 "is_name" ["word"] z0g) (G_is_turn:Has P w K mg base 2 "is_turn" ["word"] z0f):Has P w K mg base 3 "fits" ["place", "word"] z8U:=by
 refine T.has y3B (fun _ _ _ _ _ _=>L2.bnd2 fun _ _=>rfl) (fun vs H Q E h=>?_) (fun f cdv A outer s H vs Q E hr h=>?_)
 ·refine pA fun Gz gX=>?_;obtain⟨p,l,rfl,_⟩:=h;refine gX ?_;rfl
 refine pA fun G0 gZ=>?_;obtain⟨p,l,rfl,hl,q⟩:=h;refine gZ ?_;refine⟨_,(zC (zi (zN xE (pv 0) zS (zX _)) (zE (zK (zL (G_is_name.mono (by first|decide|omega)) hr (zB (pv 1) zD)))) zM) (zC (zi (zN xE (pv 0) zS (zX _)) (zE (zK (zL (G_is_turn.mono (by first|decide|omega)) hr (zB (pv 1) zD)))) zM) (zC (zi (zN xE (pv 0) zS (zX _)) (zE (zK (zL (G_is_figures.mono (by first|decide|omega)) hr (zB (pv 1) (zB (z1m rfl c_PRIME_FIGURES) zD))))) zM) (zC (zi (zN xE (pv 0) zS (zX _)) (zE (zK (zL (G_is_figures.mono (by first|decide|omega)) hr (zB (pv 1) (zB (z1m rfl c_GRID_FIGURES) zD))))) zM) (zE (zK xC)))))),?_⟩;walk_at "wp";unfold y2Z at q;refine eqS ⟨_,rfl,fun c=>?_,fun c=>?_⟩
 ·rw[if_pos (of_decide_eq_true c)] at q;exact⟨l,rfl,hl,q⟩
 rw[if_neg (fun z=>c (decide_eq_true z))] at q;refine eqS ⟨_,rfl,fun c=>?_,fun c=>?_⟩
 ·rw[if_pos (of_decide_eq_true c)] at q;exact⟨l,rfl,hl,q⟩
 rw[if_neg (fun z=>c (decide_eq_true z))] at q;refine eqS ⟨_,rfl,fun c=>?_,fun c=>?_⟩
 ·rw[if_pos (of_decide_eq_true c)] at q;exact⟨l,12,rfl,hl,q⟩
 rw[if_neg (fun z=>c (decide_eq_true z))] at q;refine eqS ⟨_,rfl,fun c=>?_,fun c=>?_⟩
 ·rw[if_pos (of_decide_eq_true c)] at q;exact⟨l,50,rfl,hl,q⟩
 rw[if_neg (fun z=>c (decide_eq_true z))] at q;exact q H (Same.refl H)
noncomputable def z0H:List (Str×List Str):=[("plan",["name", "text"]),("pair",["name", "prime", "prime"]),("grid",["name", "number"]),("awake",["name", "turn"]),("meet",["name", "name", "turn", "turn"]),("sure",["name", "name"]),("worst",["name", "name"]),("check",["name", "name", "text"])]
noncomputable def z3o (l:List Nat):Option (List Str):=z0H.lookup (tx (l.takeWhile (· != 32)))
noncomputable def wI:List Str->List (List Nat)->Bool
 | p::ps,w::ws=>y2Z p w && wI ps ws
 | _,_=>true
noncomputable def kM (l:List Nat):Option (List (List Nat)):=match z3o l with
 | none=>none
 | some f=>if (jY 32 l f.length).length=f.length+1/\wI f (jY 32 l f.length).tail=true then some (jY 32 l f.length) else none
theorem xP {z:Str} {ys:List Str}:∀ {tb:List (Str×List Str)},tb.lookup z=some ys->∃k,(k,ys)∈tb
  | [],h=>nomatch h
  | (k,v)::tb,h=>by
    rw[List.lookup_cons] at h;split at h
    · cases h;exact⟨k,by simp⟩
    · obtain⟨k',hk⟩:=xP h;exact⟨k',by simp [hk]⟩
theorem z9t {z:Str} {f:List Str} (h:z0H.lookup z=some f):f.length<=4:=by
 obtain⟨k,hk⟩:=xP h;have all:∀p∈z0H,p.2.length<=4:=by
  intro p hp;simp only [z0H,List.mem_cons,List.not_mem_nil,or_false] at hp;rcases hp with rfl|rfl|rfl|rfl|rfl|rfl|rfl|rfl <;> simp
 exact all _ hk
theorem y2C (xs:List V):y2c xs (some 1) none=xs.drop 1:=by
 unfold y2c;rw[HT.sIx_none,show (1:Int)=((1:Nat):Int) from rfl,HT.sIx_nat];cases xs with
 | nil=>rfl
 | cons x xs=>
  rw[List.take_of_length_le (by rw[List.length_drop];omega)];congr 1
noncomputable def vD (N:Addr):Sp:=fun vs H Q E=>∃l:List Nat,vs=[.str (tx l)]/\TxOk l/\(kM l=none->∀x H',Same H H'->H' x=none->E (.ref N) (some x) H')/\∀ws D H',kM l=some ws->Same H H'->H D=none->H' D=some (.lst ((ws.map tx).map V.str))->Q (.ref D) H'
theorem z7W {c_NoRow:Addr} {bm:List Value} (T:TF K mg "words_of" kh) (m_len:mg "len" = none) (m_zip:mg "zip" = none) (m_isinstance:mg "isinstance" = none) (m_str:mg "str" = none) (O_NoRow:OX K mg "NoRow" c_NoRow bm) (D_FORMS:CDT P w K mg "FORMS" z0H) (G_fits:Has P w K mg base 3 "fits" ["place", "word"] z8U):HasX P w K mg base 4 "words_of" ["row"] (vD c_NoRow):=by
 refine T.hasX xQ (fun _ _ _ _ _ _=>L2.bnd1 fun _=>rfl) (fun vs H Q E h=>?_) (fun f cdv A outer s H vs Q E hr h=>?_)
 ·refine pA fun Ga hC=>?_;obtain⟨l,rfl,_⟩:=h;refine hC ?_;rfl
 refine pA fun Gb hJ=>?_;obtain⟨l,rfl,hl,qx,q⟩:=h;refine hJ ?_;refine⟨_,(zC (zi (xc (yd (zY z2a rfl m_isinstance (by decide +kernel) (zB (pv 0) (zB (z4x (v:=.ty "str") rfl m_str (by decide +kernel) rfl) zD))) (fun _=>rfl))) (zE (kN O_NoRow rfl z2l (zB zS zD))) zM) (zC (zR (i:=1) xQ.nd rfl (Or.inl rfl) (y3U D_FORMS rfl (zU zZ (xn PySem.F.plainAttrs_str PySem.F.slot_str_partition PySem.F.type_str_partition wX (pv 0) (zB zS zD)) zF (fun _ _=>rfl)) ⟨rfl,rfl,rfl,rfl⟩)) (zC (zi (zN z6P (pv 1) jZ (zX _)) (zE (kN O_NoRow rfl z2l (zB zS zD))) zM) (zC (zR (i:=2) xQ.nd rfl (Or.inl rfl) (xn PySem.F.plainAttrs_str PySem.F.slot_str_split PySem.F.type_str_split z9G (pv 0) (zB zS (zB (zY zc rfl m_len PySem.boot_len (zB (pv 1) zD)) zD)))) (zC (zi (zN kQ (zY zc rfl m_len PySem.boot_len (zB (pv 2) zD)) (zW ye (zY zc rfl m_len PySem.boot_len (zB (pv 1) zD)) zF) (zX _)) (zE (kN O_NoRow rfl z2l (zB zS zD))) zM) (zC (yU (y6 y4n rfl (y3L rfl m_zip (pv 1) (qI z8X (pv 2) (jp zF) z1k)) (kO rfl (zm (zQ (i:=3) xQ.nd rfl (Or.inl rfl)) (zm (zQ (i:=4) xQ.nd rfl (Or.inl rfl)) jT))) (zE (zi (xc (yd (zL (G_fits.mono (by first|decide|omega)) hr (zB (pv 3) (zB (pv 4) zD))) (fun _=>rfl))) (zE (kN O_NoRow rfl z2l (zB zS zD))) zM)))) (zE (zK (pv 2))))))))),?_⟩;have ln:=hl.1;have tl:=zP l;walk_at "wpd";refine⟨_,_,_,true,rfl,.str _,rfl,_,rfl,(fun c=>nomatch c),fun _=>?_⟩;walk_at "wpd";rw[z6l];refine⟨rfl,_,_,rfl,rfl,rfl,by rw[tl];omega,fun D nD=>?_⟩;have gD:=zJ nD (.tup [V.str (Txt.partition (tx l) ⟨#[32]⟩).1,V.str (Txt.partition (tx l) ⟨#[32]⟩).2.1,V.str (Txt.partition (tx l) ⟨#[32]⟩).2.2]);refine⟨D,_,_,_,rfl,rfl,SqT.of zH,rfl,_,rfl,?_⟩;generalize upd H D (.tup [V.str (Txt.partition (tx l) ⟨#[32]⟩).1,V.str (Txt.partition (tx l) ⟨#[32]⟩).2.1,V.str (Txt.partition (tx l) ⟨#[32]⟩).2.2])=H1 at gD ⊢;rw[z3P,zd];refine⟨fun e=>⟨by decide,fun x hx=>qx ?_ x H1 gD hx⟩,fun f b e hf=>?_⟩
 ·unfold kM z3o;rw[e]
 have lf:=z9t e;have er:kM l=if (jY 32 l f.length).length=f.length+1/\wI f (jY 32 l f.length).tail=true then some (jY 32 l f.length) else none:=by
  unfold kM z3o;rw[e]
 refine⟨rfl,b,_,rfl,.inr hf,_,_,f.length,rfl,by rw[List.length_map],rfl,by omega,by rw[tl];omega,fun D2 nD2=>?_⟩;rw[z2p _ _ _ (by decide),zd];have wsm:∀w∈jY 32 l f.length,TxOk w:=fun w hw=>by
  obtain⟨a,b⟩:=ke hw;exact⟨by omega,fun x hx=>hl.2 x (b x hx)⟩
 generalize jY 32 l f.length=ws at er wsm;have g2:=zJ nD2 (.lst ((ws.map tx).map V.str));have h2:=zH (H:=H1) (a:=D2) (o:=.lst ((ws.map tx).map V.str));have nD2':=gD.free nD2;have hf2:=g2.seqT hf;have G2:=gD.trans g2;generalize upd H1 D2 (.lst ((ws.map tx).map V.str))=H2 at g2 h2 hf2 G2 ⊢;refine⟨D2,_,rfl,.inl (SqL.of h2),b,_,rfl,.inr hf2,fun c=>⟨by decide,fun x hx=>qx ?_ x H2 G2 hx⟩,fun c=>?_⟩
 ·rw[er,if_neg fun z=>c ?_];simp only [List.length_map];have:=z.1;omega
 simp only [List.length_map] at c;have lw:ws.length=f.length+1:=by omega
 walk_at "wpd";refine⟨fun σ H'=>∃o3 o4,σ=[some (.str (tx l)),some (.ref b),some (.ref D2),o3,o4]/\Same H2 H'/\wI f ws.tail=true,?_,?_⟩
 ·walk_at "wpd";refine⟨D2,_,rfl,SqL.of h2,fun p3 n3=>?_⟩;rw[y2C];have g3:=zJ n3 (.lst (((ws.map tx).map V.str).drop 1));have h3:=zH (H:=H2) (a:=p3) (o:=.lst (((ws.map tx).map V.str).drop 1));have hf3:=g3.seqT hf2;generalize upd H2 p3 (.lst (((ws.map tx).map V.str).drop 1))=H3 at g3 h3 hf3 ⊢;refine⟨b,p3,_,_,rfl,rfl,hf3,SqL.of h3,?_⟩;obtain⟨Pv,hPv⟩:∃Pv:Nat->St->Hp->Prop,Pv=fun i σ H'=>∃o3 o4,σ=[some (.str (tx l)),some (.ref b),some (.ref D2),o3,o4]/\Same H3 H'/\wI f ws.tail=wI (f.drop i) (ws.tail.drop i):=⟨_,rfl⟩
  refine z9v Pv ?_ (fun i σ H' h=>?_) (fun i u v T σ H' hu hv nT h=>?_) (fun σ H' h=>?_)
  ·rw[hPv];exact⟨none,none,rfl,Same.refl _,rfl⟩
  ·rw[hPv] at h;refine pA fun Gc hU=>?_;obtain⟨_,_,_,g,_⟩:=h;refine hU ?_;exact⟨g.seqT hf3,SqL.of (g _ _ h3)⟩
  ·rw[hPv] at h;refine pA fun Ge hV=>?_;obtain⟨o3,o4,rfl,g,ef⟩:=h;refine hV ?_;rw[List.getElem?_map] at hu;refine pA fun Gf gC=>?_;obtain⟨p,hp,rfl⟩:=Option.map_eq_some_iff.mp hu;refine gC ?_;rw[←List.map_drop,←List.map_drop,List.getElem?_map,List.getElem?_map] at hv;refine pA fun Gg gE=>?_;obtain⟨z,hz,rfl⟩:=Option.map_eq_some_iff.mp hv;refine gE ?_;refine pA fun Gh gF=>?_;obtain⟨wd,hwd,rfl⟩:=Option.map_eq_some_iff.mp hz;refine gF ?_;have gT:=zJ nT (.tup [V.str p,V.str (tx wd)]);refine⟨T,_,rfl,SqT.of zH,rfl,?_⟩;walk_at "wpd";have fd:f.drop i=p::f.drop (i+1):=by
    obtain⟨hi,e1⟩:=List.getElem?_eq_some_iff.mp hp;rw[←e1,List.drop_eq_getElem_cons hi]
   have wd2:ws.tail.drop i=wd::ws.tail.drop (i+1):=by
    rw[←List.drop_one];obtain⟨hi,e1⟩:=List.getElem?_eq_some_iff.mp hwd;rw[←e1,List.drop_eq_getElem_cons hi]
   rw[fd,wd2] at ef;have ef2:wI f ws.tail=(y2Z p wd && wI (f.drop (i+1)) (ws.tail.drop (i+1))):=ef;refine⟨p,wd,rfl,wsm wd (List.mem_of_mem_drop (List.mem_of_getElem? hwd)),fun H5 g5=>⟨_,rfl,fun c=>⟨by decide,fun x hx=>qx ?_ x H5 (G2.trans (g3.trans (g.trans (gT.trans g5)))) hx⟩,fun c=>?_⟩⟩
   ·rw[er,if_neg];rintro⟨_,z⟩;rw[ef2,c] at z;cases z
   ·have c':y2Z p wd=true:=by simpa using c
    rw[c',Bool.true_and] at ef2;rw[hPv];exact⟨_,_,rfl,g.trans (gT.trans g5),ef2⟩
  ·rw[hPv] at h;refine pA fun Gi gG=>?_;obtain⟨o3,o4,rfl,g,ef⟩:=h;refine gG ?_;have e0:f.drop (min (f.map V.str).length (((ws.map tx).map V.str).drop 1).length)=[]:=List.drop_eq_nil_of_le (by simp;omega);rw[e0] at ef;exact⟨o3,o4,rfl,g3.trans g,by rw[ef];rfl⟩
 rintro σ H' ⟨o3,o4,rfl,g,ef⟩;walk_at "wpd";exact q ws D2 H' (by rw[er,if_pos ⟨lw,ef⟩]) (G2.trans g) nD2' (g _ _ h2)
theorem y5N {n:Int} (h:n<0):dg n=45::dg (-n):=by
 obtain⟨m,rfl⟩:∃m:Nat,n=Int.negSucc m:=by
  cases n with
  | ofNat m=>exact absurd h (by simp)
  | negSucc m=>exact⟨m,rfl⟩
 unfold dg;have e:-(Int.negSucc m)=((m+1:Nat):Int):=rfl;rw[e,PyProof.Rows.signs_ofString,PyProof.Rows.signs_ofString];show ("-" ++ toString (m+1)).toList.map Char.toNat=45::(toString (m+1)).toList.map Char.toNat;rw[String.toList_append,List.map_append];rfl
structure SgOk (n:Int):Prop where
 rd:intText? (tx (dg n))=some n
 len:(dg n).length<=101
 sz:n.natAbs.log2<1920
 sg:∀c∈dg n,c=45∨48<=c/\c<=57
 turn:z2k (dg n)=true
theorem z5Z {n:Int} (h:DgOk n):z7d (dg n)=true:=by
 refine y1v.mpr ⟨List.length_pos_iff.mpr h.ne,h.len,fun⟨a,b⟩=>?_,h.all⟩;have:=h.zero a;omega
theorem y5Y {n:Int} (h0:-(10^100)<n) (h1:n<10^100):SgOk n:=by
 have sz:n.natAbs.log2<1920:=by
  by_cases z:n.natAbs=0
  ·rw[z];decide
  ·refine (Nat.log2_lt z).mpr (Nat.lt_of_lt_of_le (m:=10^100) (by omega) (by decide +kernel))
 rcases Int.lt_or_le n 0 with c|c
 ·have d:=z7f (n:=-n) (by omega) (by omega);have e:=y5N c;have fg:=z5Z d;refine⟨?_,by rw[e,List.length_cons];have:=d.len;omega,sz,fun x hx=>?_,?_⟩
  ·have:=intText_neg (x:=tx (dg n)) (cs:=dg (-n)) (by rw[zd,e]) d.all d.ne (by rw[zP,e,List.length_cons];have:=d.len;omega);rw[this,d.val];congr 1;omega
  ·rw[e] at hx;rcases List.mem_cons.mp hx with rfl|hx
   ·exact .inl rfl
   ·exact .inr (d.all x hx)
  ·unfold z2k;rw[e,if_pos (by rfl)];have ne:¬(45::dg (-n))=[45,48]:=fun z=>by
    have z2:dg (-n)=[48]:=(List.cons.inj z).2;have v:=d.val;rw[z2] at v;have:(0:Int) = -n:=v;omega
   rw[decide_eq_false ne];show (true && z7d (dg (-n)))=true;rw[fg];rfl
 ·have d:=z7f c h1;have fg:=z5Z d;refine⟨?_,by have:=d.len;omega,sz,fun x hx=>.inr (d.all x hx),?_⟩
  ·have:=intText_digits (x:=tx (dg n)) (by rw[zd];exact d.all) (by rw[zd];exact d.ne) (by rw[zP];have:=d.len;omega);rw[this,zd,d.val]
  ·unfold z2k;rw[if_neg (fun z=>?_)]
   ·exact fg
   ·have ne:=d.ne;cases e:dg n with
    | nil=>exact ne e
    | cons x r=>
     rw[e] at z;have:x=45:=by simpa using z
     have:=d.all x (by rw[e];simp);omega
noncomputable abbrev z7n:=Str->Option (List T3)
noncomputable def KpP (ws:List T3):Prop:=(∀u∈ws,Wk u)/\(∀u∈ws,u.1<2^900)/\ws.length<=12
noncomputable def BkAt (H:Hp) (kvs:List (Key×V)) (L:z7n):Prop:=∀z:Str,(L z=none->z0I kvs (.inr z)=none)/\∀ws,L z=some ws->KpP ws/\∃D xs,z0I kvs (.inr z)=some (.ref D)/\H D=some (.lst xs)/\Pl H xs ws
noncomputable def y6C (pd:Addr) (H H':Hp):Prop:=∀b o,b≠pd->H b=some o->H' b=some o
theorem y4i {H H':Hp} {xs:List V} {ws:List T3} (h:Pl H xs ws) (k:∀b ys,H b=some (.tup ys)->H' b=some (.tup ys)):Pl H' xs ws:=⟨h.1,fun i t e=>let ⟨p,e1,e2⟩:=h.2 i t e;⟨p,e1,k _ _ e2⟩⟩
theorem BkAt.by {H H':Hp} {kvs:List (Key×V)} {L:z7n} (h:BkAt H kvs L) (k1:∀b xs,H b=some (.lst xs)->H' b=some (.lst xs)) (k2:∀b ys,H b=some (.tup ys)->H' b=some (.tup ys)):BkAt H' kvs L:=fun z=>
 ⟨(h z).1,fun ws e=>let ⟨a,D,xs,e1,e2,e3⟩:=(h z).2 ws e;⟨a,D,xs,e1,k1 _ _ e2,y4i e3 k2⟩⟩
noncomputable def y3A (L:z7n) (z:Str) (ws:List T3):z7n:=fun y=>if y=z then some ws else L y
theorem BkAt.put {H:Hp} {kvs:List (Key×V)} {L:z7n} {z:Str} {D:Addr} {xs:List V} {ws:List T3} (h:BkAt H kvs L) (hk:KpP ws) (hD:H D=some (.lst xs)) (hP:Pl H xs ws):BkAt H (z6L kvs (.inr z) (.ref D)) (y3A L z ws):=by
 intro y;rw[y0e];unfold y3A;by_cases e:y=z
 ·rw[if_pos e,if_pos (by rw[e])];refine⟨(fun k=>nomatch k),fun us k=>?_⟩;cases k;exact⟨hk,D,xs,rfl,hD,hP⟩
 ·rw[if_neg e,if_neg (fun k=>e (Sum.inr.inj k))];exact h y
noncomputable def Dsk (C:Addr) (H:Hp) (d pd:Addr) (n:Nat) (L:z7n):Prop:=(∃dx,H d=some (.ins C dx [("plans",.ref pd)]))/\∃kvs,H pd=some (.dK kvs)/\kvs.length<=n/\BkAt H kvs L
theorem Dsk.same {C:Addr} {H H':Hp} {d pd:Addr} {n:Nat} {L:z7n} (h:Dsk C H d pd n L) (g:Same H H'):Dsk C H' d pd n L:=by
 refine pA fun Gj gH=>?_;obtain⟨⟨dx,hd⟩,kvs,hp,hl,hb⟩:=h;refine gH ?_;exact⟨⟨dx,g _ _ hd⟩,kvs,g _ _ hp,hl,hb.by (fun b xs e=>g _ _ e) fun b xs e=>g _ _ e⟩
structure DkTx (K:PySem.W.Frag) (C:Addr):Prop where
 cl:Cls K C
 nP:NoAttr K C "plans"
noncomputable def z6A (C:Addr):Sp:=fun vs H Q _=>∃(x dx:Addr),vs=[.ref x]/\H x=some (.ins C dx [])/\∀pd H',Dsk C H' x pd 0 (fun _=>none)->H pd=none->(∀b o,b≠x->H b=some o->H' b=some o)->Q .non H'
theorem y3k {C:Addr} (X:DkTx K C) (T:TM K C "__init__" "Desk.__init__" xW):HasM P w K mg base 1 C "__init__" ["self"] (z6A C):=by
 refine T.has w6 (fun _ _ _ _ _ _=>L2.bnd1 fun _=>rfl) (fun vs H Q E h=>?_) (fun f cdv A outer s H vs Q E hr h=>?_)
 ·refine pA fun Gk gI=>?_;obtain⟨x,dx,rfl,_⟩:=h;refine gI ?_;rfl
 refine pA fun Gm gJ=>?_;obtain⟨x,dx,rfl,hx,q⟩:=h;refine gJ ?_;refine⟨_,(zE (z8j (pv 0) y1E rfl)),?_⟩;walk_at "wpd";intro p np;have nx:x≠p:=zV hx np;have gp:=zJ np (.dK []);refine⟨x,C,dx,[],rfl,gp _ _ hx,X.cl,X.nP,by decide,q p _ ⟨⟨dx,zH⟩,[],by rw[za (Ne.symm nx),zH],Nat.le_refl _,fun z=>⟨fun _=>rfl,fun ws e=>nomatch e⟩⟩ np fun b o hb e=>?_⟩;rw[za hb];exact gp _ _ e
noncomputable def z0b (K:PySem.W.Frag) (C N:Addr):Sp:=fun vs H Q E=>∃(d pd:Addr) (z:Str) (n:Nat) (L:z7n),vs=[.ref d,.str z]/\Dsk C H d pd n L/\(L z=none->∀x,H x=none->E (.ref N) (some x) H)/\∀ws D xs,L z=some ws->KpP ws->H D=some (.lst xs)->Pl H xs ws->Q (.ref D) H
theorem z9i {C c_NoName:Addr} {bm:List Value} (X:DkTx K C) (T:TM K C "plan_by" "Desk.plan_by" xm) (O_NoName:OX K mg "NoName" c_NoName bm):HasMX P w K mg base 1 C "plan_by" ["self", "name"] (z0b K C c_NoName):=by
 refine T.hasX vN (fun _ _ _ _ _ _=>L2.bnd2 fun _ _=>rfl) (fun vs H Q E h=>?_) (fun f cdv A outer s H vs Q E hr h=>?_)
 ·refine pA fun Gn gK=>?_;obtain⟨d,pd,z,n,L,rfl,_⟩:=h;refine gK ?_;rfl
 refine pA fun Go gL=>?_;obtain⟨d,pd,z,n,L,rfl,⟨⟨dx,hd⟩,kvs,hp,hl,hb⟩,qx,q⟩:=h;refine gL ?_;refine⟨_,(zC (zi (y4e (z8t (y3f hr) (pv 1) (xr (pv 0) rfl))) (zE (kN O_NoName rfl z2l (zB zS zD))) zM) (zE (zK (y3R (y3f hr) (xr (pv 0) rfl) (pv 1) (fun _ _=>rfl))))),?_⟩;walk_at "wpd";have dg:=DGet.k (k:=.inr z) hp;refine⟨d,C,dx,_,.ref pd,rfl,hd,X.cl,X.nP,rfl,pd,_,rfl,dg,fun c=>?_,fun c=>?_⟩
 ·cases e:L z with
  | none=>exact⟨by decide,fun x hx=>qx e x hx⟩
  | some ws=>
   refine pA fun Gp gM=>?_;obtain⟨_,D,xs,e1,_⟩:=(hb z).2 ws e;refine gM ?_;rw[e1] at c;cases c
 ·cases e:L z with
  | none=>exact absurd (by rw[(hb z).1 e];rfl) c
  | some ws=>
   refine pA fun Gq gN=>?_;obtain⟨k,D,xs,e1,e2,e3⟩:=(hb z).2 ws e;refine gN ?_;rw[e1] at dg;exact⟨d,C,dx,_,.ref pd,rfl,hd,X.cl,X.nP,rfl,pd,.ref D,rfl,dg,q ws D xs e k e2 e3⟩
noncomputable def y5c:Option Int->Str
 | none=> "never"
 | some n=>Str.ofString (toString n)
noncomputable def qU:Sp:=fun vs H Q _=>∃r:Option Int,vs=[oV r]/\(∀n,r=some n->n.natAbs.log2<1920)/\Q (.str (y5c r)) H
theorem z2G (T:TF K mg "turn_answer" jH) (m_str:mg "str" = none):Has P w K mg base 1 "turn_answer" ["turn"] qU:=by
 refine T.has z0K (fun _ _ _ _ _ _=>L2.bnd1 fun _=>rfl) (fun vs H Q E h=>?_) (fun f cdv A outer s H vs Q E hr h=>?_)
 ·refine pA fun Gr gO=>?_;obtain⟨r,rfl,_⟩:=h;refine gO ?_;rfl
 refine pA fun Gs gP=>?_;obtain⟨r,rfl,hz,q⟩:=h;refine gP ?_;refine⟨_,(zE (zK (z6O (zN z6P (pv 0) jZ (zX _)) zS (yA yN rfl m_str (by decide +kernel) (zB (pv 0) zD))))),?_⟩;walk_at "wpd";cases r with
 | none=>exact⟨fun _=>q,fun c=>absurd rfl c⟩
 | some n=>exact⟨(fun c=>nomatch c),fun _=>⟨n,rfl,hz n rfl,q⟩⟩
noncomputable def qt:List Nat:=[112,108,97,110]
noncomputable def y5S:List Nat:=[97,119,97,107,101]
noncomputable def z0P:List Nat:=[109,101,101,116]
theorem y1B:Str.ofString "plan" = tx qt:=by decide +kernel
theorem y0U:Str.ofString "awake" = tx y5S:=by decide +kernel
theorem y1T:Str.ofString "meet" = tx z0P:=by decide +kernel
noncomputable def xh:Sp:=fun vs H Q _=>∃n:Int,vs=[.str (tx (dg n))]/\DgOk n/\∀H',Same H H'->Q (.int n) H'
theorem z0Q (T:TF K mg "read_number" jL) (m_int:mg "int" = none) (c_MOST_FIGURES:CI mg "MOST_FIGURES" 100) (G_is_figures:Has P w K mg base 1 "is_figures" ["text", "most"] jz):Has P w K mg base 2 "read_number" ["text"] xh:=by
 refine T.has z0L (fun _ _ _ _ _ _=>L2.bnd1 fun _=>rfl) (fun vs H Q E h=>?_) (fun f cdv A outer s H vs Q E hr h=>?_)
 ·refine pA fun Gu gQ=>?_;obtain⟨n,rfl,_⟩:=h;refine gQ ?_;rfl
 refine pA fun Gv gR=>?_;obtain⟨n,rfl,d,q⟩:=h;refine gR ?_;refine⟨_,(zC (zi (xc (yd (zL (G_is_figures.mono (by first|decide|omega)) hr (zB (pv 0) (zB (z1m rfl c_MOST_FIGURES) zD))) (fun _=>rfl))) (zE yT) zM) (zE (zK (yA xN rfl m_int (by decide +kernel) (zB (pv 0) zD))))),?_⟩;walk_at "wp";have tl:=zP (dg n);have ln:=d.len;refine⟨dg n,100,rfl,⟨by omega,fun x hx=>by have:=d.all x hx;omega⟩,fun H1 g1=>?_⟩;have ef:y0a 100 (dg n)=true:=z5Z d;rw[ef];walk_at "wp";have e:=intText_digits (x:=tx (dg n)) (by rw[zd];exact d.all) (by rw[zd];exact d.ne) (by omega);rw[zd,d.val] at e;exact⟨_,n,rfl,e,by omega,q _ g1⟩
noncomputable def qT (u:T3) (short:Bool):List (List Nat):=if short=true/\u.2.2=1 then [dg u.1,dg u.2.1] else [dg u.1,dg u.2.1,dg u.2.2]
noncomputable def j3 (u:T3) (short:Bool):List Nat:=glu 58 (qT u short)
noncomputable def WOk (u:T3):Prop:=DgOk u.1/\DgOk u.2.1/\DgOk u.2.2
theorem wy {u:T3} (h:WOk u) (short:Bool) {c:Nat} (hc:c<48∨57<c):∀p∈qT u short,c∉p:=fun p hp=>by
 unfold qT at hp;split at hp
 ·simp only [List.mem_cons,List.not_mem_nil,or_false] at hp;rcases hp with rfl|rfl
  ·exact xZ h.1.all hc
  ·exact xZ h.2.1.all hc
 ·simp only [List.mem_cons,List.not_mem_nil,or_false] at hp;rcases hp with rfl|rfl|rfl
  ·exact xZ h.1.all hc
  ·exact xZ h.2.1.all hc
  ·exact xZ h.2.2.all hc
noncomputable def qV:Sp:=fun vs H Q _=>∃(u:T3) (short:Bool),vs=[.str (tx (j3 u short))]/\WOk u/\∀(p:Addr) (H':Hp),Same H H'->H' p=some (z4N u)->Q (.ref p) H'
theorem z2e {u:T3} (h:WOk u) (short:Bool):(j3 u short).length<=310:=by
 have a:=h.1.len;have b:=h.2.1.len;have c:=h.2.2.len;unfold j3 qT;split <;> simp [glu] <;> omega
theorem z2J (T:TF K mg "read_waking" jK) (m_len:mg "len" = none) (m_tuple:mg "tuple" = none) (G_read_number:Has P w K mg base 2 "read_number" ["text"] xh):Has P w K mg base 3 "read_waking" ["word"] qV:=by
 refine T.has qW (fun _ _ _ _ _ _=>L2.bnd1 fun _=>rfl) (fun vs H Q E h=>?_) (fun f cdv A outer s H vs Q E hr h=>?_)
 ·refine pA fun Gw gS=>?_;obtain⟨u,short,rfl,_⟩:=h;refine gS ?_;rfl
 refine pA fun Gx gU=>?_;obtain⟨u,short,rfl,hu,q⟩:=h;refine gU ?_;refine⟨_,(zC (qH (i:=1) qW.nd rfl (Or.inl rfl) (CompSc.none (own:=["part"]) (by decide +kernel) (by decide +kernel) rfl (by decide +kernel)) rfl (yC (xn PySem.F.plainAttrs_str PySem.F.slot_str_split PySem.F.type_str_split z6U (pv 0) (zB zS zD))) (fun _ _ _=>(zQ (i:=0) (show (["part"]:List Str).Nodup from by decide +kernel) rfl (Or.inl rfl) (Or.inr rfl))) (fun _ _ _=>yX) (fun _ _ _=>(zL (G_read_number.mono (by first|decide|omega)) hr (zB (pv 0) zD)))) (zC (zi (zN xE (zY zc rfl m_len PySem.boot_len (zB (pv 1) zD)) zF (zX _)) (zE (yt (xn PySem.F.plainAttrs_list PySem.F.slot_list_append PySem.F.type_list_append yn (pv 1) (zB zF zD)))) zM) (zC (zi (zN kQ (zY zc rfl m_len PySem.boot_len (zB (pv 1) zD)) zF (zX _)) (zE yT) zM) (zE (zK (yA z2Y rfl m_tuple (by decide +kernel) (zB (pv 1) zD))))))),?_⟩;have wl:=z2e hu short;have tl:=zP (j3 u short);have es:Txt.split (tx (j3 u short)) (Str.ofString ":")=(qT u short).map tx:=by
  rw[y4A];exact z0X (by decide) rfl (by unfold qT;split <;> simp) (wy hu short (.inr (by decide)))
 walk_at "wp";have e1:(Str.ofString ":").length=1:=by rw[y4A];rfl
 refine⟨rfl,_,_,rfl,rfl,by rw[e1];rfl,by omega,fun D nD=>?_⟩;rw[es];obtain⟨ns,en,ed,el⟩:∃ns:List Int,qT u short=ns.map dg/\(∀n∈ns,DgOk n)/\(ns=[u.1,u.2.1]/\u.2.2=1∨ns=[u.1,u.2.1,u.2.2]):=by
  unfold qT;split
  ·rename_i c
   exact⟨[u.1,u.2.1],rfl,fun n hn=>by
    simp only [List.mem_cons,List.not_mem_nil,or_false] at hn;rcases hn with rfl|rfl
    ·exact hu.1
    ·exact hu.2.1,.inl ⟨rfl,c.2⟩⟩
  ·exact⟨[u.1,u.2.1,u.2.2],rfl,fun n hn=>by
    simp only [List.mem_cons,List.not_mem_nil,or_false] at hn;rcases hn with rfl|rfl|rfl
    ·exact hu.1
    ·exact hu.2.1
    ·exact hu.2.2,.inr rfl⟩
 have ln:ns.length<=3:=by rcases el with⟨e,_⟩|e <;> rw[e] <;> simp
 rw[en];have gD:=zJ nD (.lst (((ns.map dg).map tx).map V.str));have hD:=zH (H:=H) (a:=D) (o:=.lst (((ns.map dg).map tx).map V.str));generalize upd H D (.lst (((ns.map dg).map tx).map V.str))=H1 at gD hD ⊢;refine⟨⟨_,SqL.of hD⟩,?_⟩;obtain⟨Sv,hSv⟩:∃Sv:St->Prop,Sv=fun σ=>∃o1,σ=[o1]:=⟨_,rfl⟩
 obtain⟨Pv,hPv⟩:∃Pv:Addr->Nat->List V->Hp->Prop,Pv=fun D2 i ys H2=>H1 D2=none/\Same H1 H2/\ys=(ns.take i).map V.int:=⟨_,rfl⟩
 refine yL (xs:=((ns.map dg).map tx).map V.str) Sv Pv (by rw[hSv];exact⟨none,rfl⟩) (fun D2 hD2=>?_) (fun D2 i ys H2 hD2 h=>?_) (fun D2 i x ys σ H2 hx hi hs hD2 hy h=>?_) (fun D2 ys H2 hD2 h=>?_)
 ·rw[hPv];exact⟨hD2,zJ hD2 _,rfl⟩
 ·rw[hPv] at h;exact SqL.of (h.2.1 _ _ hD)
 ·rw[hSv] at hs;rw[hPv] at h;obtain⟨o1,rfl⟩:=hs;refine pA fun Gy gW=>?_;obtain⟨nD2,g,rfl⟩:=h;refine gW ?_;rw[List.map_map,List.map_map,List.getElem?_map] at hx;refine pA fun Gz gX=>?_;obtain⟨n,hn,rfl⟩:=Option.map_eq_some_iff.mp hx;refine gX ?_;simp only [List.length_map] at hi;walk_at "wp";refine⟨n,rfl,ed n (List.mem_of_getElem? hn),fun H3 g3=>?_⟩;have hD3:=g3 _ _ hD2;refine CompP.mk hD3 hy (by rw[sizeLine_eq];omega) (by rw[hSv];exact⟨_,rfl⟩) (by
   rw[hPv];refine⟨nD2,(g.trans g3).write nD2 _,?_⟩;rw[List.take_add_one,hn];simp)
 rw[hPv] at h;refine pA fun G0 gZ=>?_;obtain⟨nD2,g,rfl⟩:=h;refine gZ ?_;rw[List.length_map,List.length_map,List.length_map,List.take_length] at hD2;have G:=gD.trans g;have fD:H D2=none:=gD.free nD2;rcases el with⟨rfl,el⟩|rfl
 ·refine⟨_,_,rfl,.inl (SqL.of hD2),fun _=>⟨.inl ⟨rfl,_,SqL.of hD2⟩,D2,_,_,rfl,rfl,hD2,by rw[sizeLine_eq];simp,?_⟩,fun c=>absurd rfl c⟩;refine⟨_,_,rfl,.inl (SqL.of zH),fun c=>absurd rfl c,fun _=>⟨_,_,rfl,.inl ⟨SqL.of zH,fun p np=>?_⟩⟩⟩;refine q p _ ((G.write fD _).trans (zJ np _)) ?_;rw[zH];show some (HO.tup [V.int u.1,V.int u.2.1,V.int 1])=some (HO.tup [V.int u.1,V.int u.2.1,V.int u.2.2]);rw[el]
 ·refine⟨_,_,rfl,.inl (SqL.of hD2),fun c=>absurd c (by simp),fun _=>⟨_,_,rfl,.inl (SqL.of hD2),fun c=>absurd rfl c,fun _=>⟨_,_,rfl,.inl ⟨SqL.of hD2,fun p np=>?_⟩⟩⟩⟩;exact q p _ (G.trans (zJ np _)) zH
noncomputable def jS (ws:List T3) (short:Bool):List Nat:=if ws=[] then z9D else glu 32 (ws.map fun u=>j3 u short)
theorem z6f {c:Nat} {p:List Nat} {ps:List (List Nat)} {x:Nat} {r:List Nat} (e:p=x::r):∃r',glu c (p::ps)=x::r':=by
 subst e;cases ps with
 | nil=>exact⟨r,rfl⟩
 | cons q ps=>exact⟨_,rfl⟩
theorem y0y {ws:List T3} {short:Bool} (ne:ws≠[]) (h:∀u∈ws,WOk u):tx (jS ws short)≠Str.ofString "never" :=fun e=>by
 cases ws with
 | nil=>exact ne rfl
 | cons u ws=>
  obtain⟨c0,r0,e0⟩:∃c r,dg u.1=c::r:=by
   cases e:dg u.1 with
   | nil=>exact absurd e (h u (by simp)).1.ne
   | cons c r=>exact⟨c,r,rfl⟩
  have hc:=(h u (by simp)).1.all c0 (by rw[e0];simp);have ew:∃r,j3 u short=c0::r:=by
   unfold j3 qT;split <;> exact z6f e0
  obtain⟨r1,ew⟩:=ew;obtain⟨r2,ep⟩:∃r,jS (u::ws) short=c0::r:=by
   unfold jS;rw[if_neg (by simp),List.map_cons];exact z6f ew
  have e2:=congrArg (fun z:Str=>z.cps.toList) e;simp only [zd,ep] at e2;have en:(Str.ofString "never").cps.toList=[110,101,118,101,114]:=by decide +kernel
  rw[en] at e2;injection e2 with e3;omega
theorem z6q {u:T3} (h:WOk u) (short:Bool):32∉j3 u short:=by
 have f:=wy h short (c:=32) (.inl (by decide));unfold j3;generalize qT u short=ps at f
 induction ps with
 | nil=>simp [glu]
 | cons p ps ih=>
  cases ps with
  | nil=>exact f p (by simp)
  | cons q r=>
   show 32∉p++58::glu 58 (q::r);intro m;rcases List.mem_append.mp m with z|z
   ·exact f p (by simp) z
   ·rcases List.mem_cons.mp z with z|z
    ·exact absurd z (by decide)
    ·exact ih (fun x hx=>f x (by simp [hx])) z
theorem z8i {ws:List T3} (h:∀u∈ws,WOk u) (l:ws.length<=12) (short:Bool):(jS ws short).length<=5000:=by
 unfold jS;split
 ·show z9D.length<=5000;decide +kernel
 ·have:=wH (c:=32) (M:=310) (ps:=ws.map fun u=>j3 u short) fun p hp=>by
   refine pA fun Ga hC=>?_;obtain⟨u,hu,rfl⟩:=List.mem_map.mp hp;refine hC ?_;exact z2e (h u hu) short
  rw[List.length_map] at this;omega
noncomputable def wO:Sp:=fun vs H Q _=>∃(ws:List T3) (short:Bool),vs=[.str (tx (jS ws short))]/\ws.length<=12/\(∀u∈ws,WOk u)/\(∀u∈ws,isW u=true)/\∀(D:Addr) (xs:List V) (H':Hp),Same H H'->H D=none->H' D=some (.lst xs)->Pl H' xs ws->Q (.ref D) H'
theorem z5M (T:TF K mg "read_plan" qf) (m_len:mg "len" = none) (c_MOST_WAKINGS:CI mg "MOST_WAKINGS" 12) (G_read_waking:Has P w K mg base 3 "read_waking" ["word"] qV) (G_plan_of:Has P w K mg base 2 "plan_of" ["rows"] (z0a K)):Has P w K mg base 4 "read_plan" ["text"] wO:=by
 refine T.has wT (fun _ _ _ _ _ _=>L2.bnd1 fun _=>rfl) (fun vs H Q E h=>?_) (fun f cdv A outer s H vs Q E hr h=>?_)
 ·refine pA fun Gb hJ=>?_;obtain⟨ws,short,rfl,_⟩:=h;refine hJ ?_;rfl
 refine pA fun Gc hU=>?_;obtain⟨ws,short,rfl,lw,hk,hw,q⟩:=h;refine hU ?_;refine⟨_,(zC (zi (zN xE (pv 0) zS (zX _)) (zE (zK (yq zD))) zM) (zC (zR (i:=1) wT.nd rfl (Or.inl rfl) (xn PySem.F.plainAttrs_str PySem.F.slot_str_split PySem.F.type_str_split z6U (pv 0) (zB zS zD))) (zC (zi (zN z7M (zY zc rfl m_len PySem.boot_len (zB (pv 1) zD)) (z1m rfl c_MOST_WAKINGS) (zX _)) (zE yT) zM) (zE (zK (zL (G_plan_of.mono (by first|decide|omega)) hr (zB (ya (CompSc.none (own:=["word"]) (by decide +kernel) (by decide +kernel) rfl (by decide +kernel)) rfl (yC (pv 1)) (fun _ _ _=>(zQ (i:=0) (show (["word"]:List Str).Nodup from by decide +kernel) rfl (Or.inl rfl) (Or.inr rfl))) (fun _ _ _=>yX) (fun _ _ _=>(zL (G_read_waking.mono (by first|decide|omega)) hr (zB (pv 0) zD)))) zD))))))),?_⟩;have pl:=z8i hk lw short;have tl:=zP (jS ws short);by_cases e:ws=[]
 ·subst e;have e2:tx (jS [] short)=Str.ofString "never" :=y1O;rw[e2];walk_at "wp";refine⟨rfl,_,rfl,fun _ D nD=>q D [] _ (zJ nD _) nD zH .nil,fun c=>absurd (decide_eq_true rfl) c⟩
 ·have ne:=y0y (short:=short) e hk;walk_at "wp";refine⟨rfl,_,rfl,fun c=>absurd (by have:=of_decide_eq_true c;injection this) ne,fun _=>?_⟩;have es:Txt.split (tx (jS ws short)) (Str.ofString " ")=(ws.map fun u=>j3 u short).map tx:=by
   rw[z6l];refine z0X (by decide) (by unfold jS;rw[if_neg e]) (by simpa using e) fun p hp=>?_;refine pA fun Ge hV=>?_;obtain⟨u,hu,rfl⟩:=List.mem_map.mp hp;refine hV ?_;exact z6q (hk u hu) short
  have e1:(Str.ofString " ").length=1:=by rw[z6l];rfl
  refine⟨rfl,_,_,rfl,rfl,by rw[e1];rfl,by omega,fun D nD=>?_⟩;rw[es];have gD:=zJ nD (.lst (((ws.map fun u=>j3 u short).map tx).map V.str));have hD:=zH (H:=H) (a:=D) (o:=.lst (((ws.map fun u=>j3 u short).map tx).map V.str));generalize upd H D (.lst (((ws.map fun u=>j3 u short).map tx).map V.str))=H1 at gD hD ⊢;have ln:(((ws.map fun u=>j3 u short).map tx).map V.str).length=ws.length:=by simp only [List.length_map]
  refine⟨_,_,rfl,.inl (SqL.of hD),fun c=>by rw[ln] at c;omega,fun _=>⟨⟨_,SqL.of hD⟩,?_⟩⟩;obtain⟨Sv,hSv⟩:∃Sv:St->Prop,Sv=fun σ=>∃o1,σ=[o1]:=⟨_,rfl⟩
  obtain⟨Pv,hPv⟩:∃Pv:Addr->Nat->List V->Hp->Prop,Pv=fun D2 i ys H2=>H1 D2=none/\Same H1 H2/\Pl H2 ys (ws.take i):=⟨_,rfl⟩
  refine yL (xs:=((ws.map fun u=>j3 u short).map tx).map V.str) Sv Pv (by rw[hSv];exact⟨none,rfl⟩) (fun D2 hD2=>?_) (fun D2 i ys H2 hD2 h=>?_) (fun D2 i x ys σ H2 hx hi hs hD2 hy h=>?_) (fun D2 ys H2 hD2 h=>?_)
  ·rw[hPv];exact⟨hD2,zJ hD2 _,.nil⟩
  ·rw[hPv] at h;exact SqL.of (h.2.1 _ _ hD)
  ·rw[hSv] at hs;rw[hPv] at h;obtain⟨o1,rfl⟩:=hs;refine pA fun Gf gC=>?_;obtain⟨nD2,g,hP⟩:=h;refine gC ?_;rw[List.map_map,List.map_map,List.getElem?_map] at hx;refine pA fun Gg gE=>?_;obtain⟨u,hn,rfl⟩:=Option.map_eq_some_iff.mp hx;refine gE ?_;rw[ln] at hi;walk_at "wp";refine⟨u,short,rfl,hk u (List.mem_of_getElem? hn),fun p H3 g3 hp=>?_⟩;have hD3:=g3 _ _ hD2;have hP3:Pl H3 (ys++[.ref p]) (ws.take i++[u]):=(hP.same g3).snoc hp;refine CompP.mk hD3 hy (by rw[sizeLine_eq];omega) (by rw[hSv];exact⟨_,rfl⟩) (by
    rw[hPv];refine⟨nD2,(g.trans g3).write nD2 _,?_⟩;rw[List.take_add_one,hn];exact hP3.upd hD3)
  ·rw[hPv] at h;refine pA fun Gh gF=>?_;obtain⟨nD2,g,hP⟩:=h;refine gF ?_;rw[ln,List.take_length] at hP;have G:=gD.trans g;refine⟨D2,ys,ws,rfl,SqL.of hD2,hP,hw,fun D3 nD3=>?_⟩;exact q D3 ys _ (G.trans (zJ nD3 _)) (G.free nD3) zH (hP.updN nD3)
noncomputable def z7o (l:List Nat) (i:Nat):List (Str×V):=[("text",.str (tx l)),("place",.int (i:Int))]
theorem wt (l:List Nat) (i:Nat):(z7o l i).lookup ("text" : Str)=some (.str (tx l)):=by
 unfold z7o;rfl
theorem xF (l:List Nat) (i:Nat):(z7o l i).lookup ("place" : Str)=some (.int (i:Int)):=by
 unfold z7o;rfl
theorem xy {l:List Nat} {i:Nat} {m:Str} (h:(m == ("text" : Str))=false:=by decide +kernel) (k:(m == ("place" : Str))=false:=by decide +kernel):(z7o l i).lookup m=none:=by
 unfold z7o;simp only [List.lookup,h,k]
theorem z9x (l:List Nat) (i j:Nat):w8 ("place" : Str) (.int (j:Int)) (z7o l i)=z7o l j:=by
 unfold z7o w8;rw[if_neg (by decide +kernel)];unfold w8;rw[if_pos rfl]
noncomputable def y2i (C:Addr) (H:Hp) (a:Addr) (l:List Nat) (i:Nat):Prop:=∃dx,H a=some (.ins C dx (z7o l i))
structure Rd (C:Addr) (H H':Hp) (a:Addr) (l:List Nat) (i:Nat):Prop where
 at_:y2i C H' a l i
 same:∀b o,b≠a->H b=some o->H' b=some o
theorem Rd.upd {C:Addr} {H:Hp} {a dx:Addr} {l:List Nat} {i:Nat}:Rd C H (upd H a (.ins C dx (z7o l i))) a l i:=⟨⟨dx,zH⟩,fun b o hb e=>by rw[za hb];exact e⟩
theorem Rd.trans {C:Addr} {H H1 H2:Hp} {a:Addr} {l:List Nat} {i j:Nat} (g:Rd C H H1 a l i) (h:Rd C H1 H2 a l j):Rd C H H2 a l j:=⟨h.at_,fun b o hb e=>h.same b o hb (g.same b o hb e)⟩
theorem Rd.free {C:Addr} {H H1:Hp} {a b:Addr} {l:List Nat} {i:Nat} (g:Rd C H H1 a l i) (h:H1 b=none) (hb:b≠a):H b=none:=by
 cases e:H b with
 | none=>rfl
 | some o=>rw[g.same b o hb e] at h;cases h
theorem Rd.new {C:Addr} {H H1:Hp} {a p:Addr} {l:List Nat} {i:Nat} (g:Rd C H H1 a l i) (h:H1 p=none) (o:HO):Rd C H (L2.upd H1 p o) a l i:=by
 obtain⟨dx,e⟩:=g.at_;refine⟨⟨dx,by rw[za (zV e h)];exact e⟩,fun b o' hb e'=>?_⟩;have:=g.same b o' hb e';rw[za (zV this h)];exact this
theorem Rd.write {C:Addr} {H H1:Hp} {a D:Addr} {l:List Nat} {i:Nat} (g:Rd C H H1 a l i) (n:H D=none) (h:D≠a) (o:HO):Rd C H (L2.upd H1 D o) a l i:=by
 obtain⟨dx,e⟩:=g.at_;refine⟨⟨dx,by rw[za (Ne.symm h)];exact e⟩,fun b o' hb e'=>?_⟩;rw[za (zV e' n)];exact g.same b o' hb e'
structure RdTx (K:PySem.W.Frag) (C:Addr):Prop where
 cl:Cls K C
 nT:NoAttr K C "text"
 nP:NoAttr K C "place"
noncomputable def j6 (C:Addr):Sp:=fun vs H Q _=>∃(a:Addr) (l y:List Nat) (i:Nat),vs=[.ref a,.str (tx y)]/\y2i C H a l i/\l.length<=100000/\i<=l.length/\y.length≠0/\y.length<=10/\(¬(l.drop i).take y.length=y->Q (.bl false) H)/\((l.drop i).take y.length=y->∀H',Rd C H H' a l (i+y.length)->Q (.bl true) H')
theorem y1m {C:Addr} (X:RdTx K C) (T:TM K C "passes" "PaperReader.passes" y8) (m_len:mg "len" = none):HasM P w K mg base 1 C "passes" ["self", "signs"] (j6 C):=by
 refine T.has j9 (fun _ _ _ _ _ _=>L2.bnd2 fun _ _=>rfl) (fun vs H Q E h=>?_) (fun f cdv A outer s H vs Q E hr h=>?_)
 ·refine pA fun Gi gG=>?_;obtain⟨a,l,y,i,rfl,_⟩:=h;refine gG ?_;rfl
 refine pA fun Gj gH=>?_;obtain⟨a,l,y,i,rfl,⟨dx,hd⟩,ll,li,y0,y1,q0,q1⟩:=h;refine gH ?_;refine⟨_,(zC (zi (xc (yd (xn PySem.F.plainAttrs_str PySem.F.slot_str_startswith PySem.F.type_str_startswith z7O (xr (pv 0) rfl) (zB (pv 1) (zB (xr (pv 0) rfl) zD))) (fun _=>rfl))) (zE (zK xC)) zM) (zC (z3M (pv 0) (zY yO rfl m_len PySem.boot_len (zB (pv 1) zD)) y2V) (zE (zK xC)))),?_⟩;walk_at "wp";have fi:PySem.fromIndex (tx l).length (i:Int)=i:=by
  unfold PySem.fromIndex;rw[if_neg (by omega)];omega
 refine⟨a,C,dx,_,_,rfl,hd,X.cl,X.nT,wt l i,rfl,a,C,dx,_,_,rfl,hd,X.cl,X.nP,xF l i,_,_,_,rfl,rfl,?_⟩;rw[fi,z5o l y i y0];refine⟨fun c=>q0 (of_decide_eq_false c),fun c=>?_⟩;have c':(l.drop i).take y.length=y:=by
  rw[Bool.not_eq_false] at c;exact of_decide_eq_true c
 refine⟨a,C,dx,_,_,rfl,hd,X.cl,X.nP,xF l i,tx y,rfl,by rw[zP];omega,_,_,rfl,rfl,dx,_,hd,by show 2<1000;decide,?_⟩;have e:(i:Int)+((tx y).length:Int)=((i+y.length:Nat):Int):=by rw[zP];omega
 rw[e,z9x];exact q1 c' _ Rd.upd
noncomputable def we (C:Addr):Sp:=fun vs H Q _=>∃(a:Addr) (l y:List Nat) (i:Nat),vs=[.ref a,.str (tx y)]/\y2i C H a l i/\l.length<=100000/\i<=l.length/\y.length≠0/\y.length<=10/\(l.drop i).take y.length=y/\∀H',Rd C H H' a l (i+y.length)->Q .non H'
theorem y3i {C:Addr} (cl_PaperReader:Cls K C) (T:TM K C "needs" "PaperReader.needs" yh) (G_PaperReader_passes:HasM P w K mg base 1 C "passes" ["self", "signs"] (j6 C)):HasM P w K mg base 2 C "needs" ["self", "signs"] (we C):=by
 refine T.has qO (fun _ _ _ _ _ _=>L2.bnd2 fun _ _=>rfl) (fun vs H Q E h=>?_) (fun f cdv A outer s H vs Q E hr h=>?_)
 ·refine pA fun Gk gI=>?_;obtain⟨a,l,y,i,rfl,_⟩:=h;refine gI ?_;rfl
 refine pA fun Gm gJ=>?_;obtain⟨a,l,y,i,rfl,hd,ll,li,y0,y1,c,q⟩:=h;refine gJ ?_;have hd':=hd;obtain⟨dx,hd⟩:=hd;refine⟨_,(zE (zi (xc (yd (xJ (pv 0) cl_PaperReader (G_PaperReader_passes.mono (by first|decide|omega)) hr (zB (pv 1) zD)) (fun _=>rfl))) (zE yT) zM)),?_⟩;walk_at "wp";refine⟨a,dx,_,rfl,hd,xy,a,l,y,i,rfl,hd',ll,li,y0,y1,fun z=>absurd c z,fun _ H1 g1=>?_⟩;walk_at "wp";exact q H1 g1
theorem y3o {c:Nat}:(Builtin.Str.occurrences (Str.ofString "0123456789") ⟨#[c]⟩ 0 (Str.ofString "0123456789").length 1).isEmpty=false ↔ 48<=c/\c<=57:=by
 have h:=StrLaws.found_one (Str.ofString "0123456789") c;have el:(Str.ofString "0123456789").cps.toList=[48,49,50,51,52,53,54,55,56,57]:=by decide +kernel
 rw[el] at h;rw[←Bool.not_eq_true',h,decide_eq_true_eq];simp;omega
noncomputable def y3Z (r:List Nat):Prop:=∀c,r[0]?=some c->¬(48<=c/\c<=57)
noncomputable def z4h (C:Addr):Sp:=fun vs H Q _=>∃(a:Addr) (l r:List Nat) (i:Nat) (n:Int),vs=[.ref a]/\y2i C H a l i/\l.length<=100000/\l.drop i=dg n++r/\DgOk n/\y3Z r/\∀H',Rd C H H' a l (i+(dg n).length)->Q (.int n) H'
theorem z2M {C:Addr} (X:RdTx K C) (T:TM K C "next_number" "PaperReader.next_number" yI) (m_len:mg "len" = none) (c_FIGURES:CS mg "FIGURES" "0123456789") (G_read_number:Has P w K mg base 2 "read_number" ["text"] xh):HasM P w K mg base 3 C "next_number" ["self"] (z4h C):=by
 refine T.has y4 (fun _ _ _ _ _ _=>L2.bnd1 fun _=>rfl) (fun vs H Q E h=>?_) (fun f cdv A outer s H vs Q E hr h=>?_)
 ·refine pA fun Gn gK=>?_;obtain⟨a,l,r,i,n,rfl,_⟩:=h;refine gK ?_;rfl
 refine pA fun Go gL=>?_;obtain⟨a,l,r,i,n,rfl,hd,ll,el,dk,nf,q⟩:=h;refine gL ?_;have hd':=hd;obtain⟨dx,hd⟩:=hd;refine⟨_,(zC (zR (i:=1) y4.nd rfl (Or.inl rfl) (xr (pv 0) rfl)) (zC (yU (qG PassesOwn.never (PW.pt (z8h (zN wa (xr (pv 0) rfl) (zY yO rfl m_len PySem.boot_len (zB (xr (pv 0) rfl) zD)) (zX _)) (z4v (zN v8 (zU z9S (xr (pv 0) rfl) (xr (pv 0) rfl) (fun _ _=>rfl)) (y3T rfl c_FIGURES) rfl)))) (zE (z3M (pv 0) zF y2V)))) (zE (zK (zL (G_read_number.mono (by first|decide|omega)) hr (zB (qI z6C (xr (pv 0) rfl) (jp (pv 1)) (jp (xr (pv 0) rfl))) zD)))))),?_⟩;walk_at "wp";have ld:=congrArg List.length el;rw[List.length_drop,List.length_append] at ld;have tl:=zP l;have n1:=List.length_pos_iff.mpr dk.ne;have at_:∀j:Nat,(l.drop i)[j]?=l[i+j]?:=fun j=>by rw[List.getElem?_drop]
 refine⟨a,C,dx,_,_,rfl,hd,X.cl,X.nP,xF l i,?_⟩;refine⟨fun σ H'=>σ=[some (.ref a),some (.int (i:Int))]/\Rd C H H' a l (i+(dg n).length),?_,?_⟩
 ·obtain⟨W,hW⟩:∃W:Nat->St->Hp->Prop,W=fun m σ H'=>∃j:Nat,σ=[some (.ref a),some (.int (i:Int))]/\Rd C H H' a l (i+j)/\j<=(dg n).length/\m=(dg n).length-j:=⟨_,rfl⟩
  refine⟨W,⟨_,by rw[hW];exact⟨0,rfl,⟨hd',fun b o _ e=>e⟩,Nat.zero_le _,rfl⟩⟩,fun m σ H' h=>?_⟩;rw[hW] at h;refine pA fun Gp gM=>?_;obtain⟨j,rfl,g,hj,rfl⟩:=h;refine gM ?_;obtain⟨dy,he⟩:=g.at_;walk_at "wp";refine⟨a,C,dy,_,_,rfl,he,X.cl,X.nP,xF l (i+j),?_⟩;walk_at "wp";refine⟨a,C,dy,_,_,rfl,he,X.cl,X.nT,wt l (i+j),tx l,rfl,by omega,fun c=>?_,fun c=>?_⟩
  ·have c':i+j<l.length:=by omega
   refine⟨a,C,dy,_,_,rfl,he,X.cl,X.nT,wt l (i+j),a,C,dy,_,_,rfl,he,X.cl,X.nP,xF l (i+j),_,_,l[i+j],rfl,rfl,by rw[tl];show _<=16777216;omega,by rw[zd];exact zj (List.getElem?_eq_getElem c'),_,_,rfl,rfl,?_⟩;have gj:(dg n++r)[j]?=some l[i+j]:=by rw[←el,at_,List.getElem?_eq_getElem c']
   refine⟨fun z=>⟨_,fun _ _ h=>h,a,C,dy,_,_,rfl,he,X.cl,X.nP,xF l (i+j),_,_,rfl,rfl,dy,_,he,by show 2<1000;decide,(dg n).length-(j+1),?_,?_⟩,fun z=>?_⟩
   ·have fg:=y3o.mp z;by_cases k:j<(dg n).length
    ·omega
    ·have ej:j=(dg n).length:=by omega
     have gk:r[0]?=some l[i+j]:=by
      rw[List.getElem?_append_right (by omega),show j-(dg n).length=0 by omega] at gj;exact gj
     exact absurd fg (nf _ gk)
   ·have e:((i+j:Nat):Int)+1=((i+(j+1):Nat):Int):=by omega
    rw[e,z9x,hW];have fg:=y3o.mp z;refine⟨j+1,rfl,g.trans Rd.upd,?_,rfl⟩;by_cases k:j<(dg n).length
    ·omega
    ·have ej:j=(dg n).length:=by omega
     have gk:r[0]?=some l[i+j]:=by
      rw[List.getElem?_append_right (by omega),show j-(dg n).length=0 by omega] at gj;exact gj
     exact absurd fg (nf _ gk)
   ·by_cases k:j<(dg n).length
    ·rw[List.getElem?_append_left k] at gj;exact absurd (y3o.mpr (dk.all _ (List.mem_of_getElem? gj))) z
    ·have ej:j=(dg n).length:=by omega
     rw[ej] at g;exact g
  ·have ej:j=(dg n).length:=by omega
   rw[ej] at g;exact g
 rintro σ H' ⟨rfl,g⟩;obtain⟨dy,he⟩:=g.at_;walk_at "wp";refine⟨a,C,dy,_,_,rfl,he,X.cl,X.nT,wt l _,?_⟩;walk_at "wp";refine⟨a,C,dy,_,_,rfl,he,X.cl,X.nP,xF l _,_,rfl,tx l,rfl,by rw[tl];show _<=16777216;omega,?_⟩;have es:Txt.slice (tx l) (some (i:Int)) (some ((i+(dg n).length:Nat):Int))=tx (dg n):=by
  rw[wf (by omega) (by omega),el];have:i+(dg n).length-i=(dg n).length:=by omega
  rw[this,List.take_left]
 rw[es];exact⟨n,rfl,dk,fun H2 g2=>q H2 (g.trans ⟨⟨dy,g2 _ _ he⟩,fun b o _ e=>g2 b o e⟩)⟩
mutual
theorem y1I {N:Addr->Prop} {H H':Hp} (t1:∀b xs,H b=some (.tup xs)->H' b=some (.tup xs)) (t2:∀b xs,N b->H b=some (.lst xs)->H' b=some (.lst xs)):∀ {v:V} {p:Pap},PapIn K N H v p->PapIn K N H' v p
 | _,_,.inn h=>.inn (t1 _ _ h)
 | _,_,.par h hl n hz hs=>.par (t1 _ _ h) (t2 _ _ n hl) n hz (jq t1 t2 hs)
theorem jq {N:Addr->Prop} {H H':Hp} (t1:∀b xs,H b=some (.tup xs)->H' b=some (.tup xs)) (t2:∀b xs,N b->H b=some (.lst xs)->H' b=some (.lst xs)):∀ {xs:List V} {ps:List Pap},PapsIn K N H xs ps->PapsIn K N H' xs ps
 | _,_,.nil=>.nil
 | _,_,.cons h hs=>.cons (y1I t1 t2 h) (jq t1 t2 hs)
end
mutual
theorem z3Q {N:Addr->Prop} {H:Hp} {D:Addr} (n:H D=none):∀ {v:V} {p:Pap},PapIn K N H v p->PapIn K (fun b=>N b/\b≠D) H v p
 | _,_,.inn h=>.inn h
 | _,_,.par h hl nn hz hs=>.par h hl ⟨nn,zV hl n⟩ hz (z0s n hs)
theorem z0s {N:Addr->Prop} {H:Hp} {D:Addr} (n:H D=none):∀ {xs:List V} {ps:List Pap},PapsIn K N H xs ps->PapsIn K (fun b=>N b/\b≠D) H xs ps
 | _,_,.nil=>.nil
 | _,_,.cons h hs=>.cons (z3Q n h) (z0s n hs)
end
theorem Rd.tup {C:Addr} {H H':Hp} {a:Addr} {l:List Nat} {i j:Nat} (g:Rd C H H' a l j) (ha:y2i C H a l i) (b:Addr) (xs:List V) (e:H b=some (.tup xs)):H' b=some (.tup xs):=by
 obtain⟨dx,ha⟩:=ha;exact g.same b _ (fun k=>by rw[k,ha] at e;cases e) e
theorem Rd.lst {C:Addr} {H H':Hp} {a:Addr} {l:List Nat} {i j:Nat} (g:Rd C H H' a l j) (ha:y2i C H a l i) (b:Addr) (xs:List V) (e:H b=some (.lst xs)):H' b=some (.lst xs):=by
 obtain⟨dx,ha⟩:=ha;exact g.same b _ (fun k=>by rw[k,ha] at e;cases e) e
theorem qN {l A B:List Nat} {i:Nat} (h:l.drop i=A++B):l.drop (i+A.length)=B:=by
 rw[←List.drop_drop,h,List.drop_left]
theorem z1j:∀ps qs:List Pap,v3 (ps++qs)=v3 ps++v3 qs
 | [],qs=>rfl
 | p::ps,qs=>by simp only [List.cons_append,v3,z1j ps qs,List.append_assoc]
theorem y0x (p:Pap):∃c r,ptx p=c::r/\(c=105∨c=98):=by
 cases p with
 | inn k=>exact⟨105,_,by simp only [ptx,inL,List.cons_append];rfl,.inl rfl⟩
 | par b ps=>exact⟨98,_,by simp only [ptx,byL,List.cons_append];rfl,.inr rfl⟩
theorem z0q (ps:List Pap) (r:List Nat):y3Z (v3 ps++(clL++r)):=fun c e=>by
 cases ps with
 | nil=>
  have:c=41:=by simpa [v3,clL] using e.symm
  omega
 | cons p ps=>
  have:c=44:=by simpa [v3,cmL] using e.symm
  omega
noncomputable def vG (K:PySem.W.Frag) (C:Addr) (d:Nat):Sp:=fun vs H Q _=>∃(a:Addr) (l r:List Nat) (i:Nat) (ab:Int) (p:Pap),vs=[.ref a,.int ab]/\y2i C H a l i/\l.length<=100000/\l.drop i=ptx p++r/\POk p/\p.kn<=1000/\p.dep<d/\0<=ab/\ab+p.dep<=40/\y3Z r/\∀(v:V) (H':Hp),Rd C H H' a l (i+(ptx p).length)->PapIn K (fun b=>H b=none) H' v p->Q v H'
noncomputable def z5t (K:PySem.W.Frag) (C:Addr) (d:Nat):Sp:=fun vs H Q _=>∃(a:Addr) (l r:List Nat) (i:Nat) (ab:Int) (ps:List Pap),vs=[.ref a,.int ab]/\y2i C H a l i/\l.length<=100000/\l.drop i=wm ps++(clL++r)/\POks ps/\Pap.kns ps<=1000/\Pap.deps ps<d/\0<=ab/\ab+Pap.deps ps<=40/\∀(D:Addr) (xs:List V) (H':Hp),Rd C H H' a l (i+(wm ps).length+1)->H D=none->H' D=some (.lst xs)->PapsIn K (fun b=>H b=none) H' xs ps->Q (.ref D) H'
theorem z2L {C:Addr} {d:Nat} (cl_PaperReader:Cls K C) (T:TM K C "next_papers" "PaperReader.next_papers" zq) (G_PaperReader_passes:HasM P w K mg base 1 C "passes" ["self", "signs"] (j6 C)) (G_PaperReader_needs:HasM P w K mg base 2 C "needs" ["self", "signs"] (we C)) (G_PaperReader_next_paper:HasM P w K mg base (2*d+4) C "next_paper" ["self", "above"] (vG K C d)):HasM P w K mg base (2*d+5) C "next_papers" ["self", "above"] (z5t K C d):=by
 refine T.has yZ (fun _ _ _ _ _ _=>L2.bnd2 fun _ _=>rfl) (fun vs H Q E h=>?_) (fun f cdv A outer s H vs Q E hr h=>?_)
 ·refine pA fun Gq gN=>?_;obtain⟨a,l,r,i,ab,ps,rfl,_⟩:=h;refine gN ?_;rfl
 refine pA fun Gr gO=>?_;obtain⟨a,l,r,i,ab,ps,rfl,hd,ll,el,ok,kp,hdp,ab0,ab1,q⟩:=h;refine gO ?_;have lp:=Nat.le_trans (Pap.kns_len ps) kp;have hd':=hd;obtain⟨dx,hd⟩:=hd;have ld:=congrArg List.length el;rw[List.length_drop,List.length_append,List.length_append] at ld;have c1:clL.length=1:=rfl;refine⟨_,(zC (yU (zi (yd (xJ (pv 0) cl_PaperReader (G_PaperReader_passes.mono (by first|decide|omega)) hr (zB zS zD)) (fun _=>rfl)) (zE (zK (yq zD))) zM)) (zC (zR (i:=2) yZ.nd rfl (Or.inl rfl) (yq (zB (xJ (pv 0) cl_PaperReader (G_PaperReader_next_paper.mono (by first|decide|omega)) hr (zB (pv 1) zD)) zD))) (zC (qG PassesOwn.never (yd (xJ (pv 0) cl_PaperReader (G_PaperReader_passes.mono (by first|decide|omega)) hr (zB zS zD)) (fun _=>rfl)) (zE (yt (xn PySem.F.plainAttrs_list PySem.F.slot_list_append PySem.F.type_list_append yn (pv 2) (zB (xJ (pv 0) cl_PaperReader (G_PaperReader_next_paper.mono (by first|decide|omega)) hr (zB (pv 1) zD)) zD))))) (zC (yt (xJ (pv 0) cl_PaperReader (G_PaperReader_needs.mono (by first|decide|omega)) hr (zB zS zD))) (zE (zK (pv 2))))))),?_⟩;walk_at "wp";refine⟨fun σ H'=>σ=[some (.ref a),some (.int ab),none]/\H'=H/\ps≠[],?_,?_⟩
 ·walk_at "wp";rw[y0N];refine⟨a,dx,_,rfl,hd,xy,a,l,clL,i,rfl,hd',ll,by omega,by decide,by decide,fun c=>?_,fun c H1 g1=>?_⟩
  ·walk_at "wp";intro e;refine c ?_;rw[el,e];rfl
  ·walk_at "wp";intro D nD;cases ps with
   | nil=>
    obtain⟨dy,h1⟩:=g1.at_;exact q D [] _ (by simpa [wm,clL] using g1.new nD (.lst [])) (g1.free nD fun e=>by rw[e,h1] at nD;cases nD) zH .nil
   | cons p ps=>
    exfalso;refine pA fun Gs gP=>?_;obtain⟨ch,rr,e1,e2⟩:=y0x p;refine gP ?_;rw[el] at c;simp only [wm,e1,List.cons_append,clL] at c;have:ch=41:=by simpa using c
    omega
 rintro σ H' ⟨rfl,rfl,ne⟩;obtain⟨p,ps',rfl⟩:∃p ps',ps=p::ps':=by
  cases ps with
  | nil=>exact absurd rfl ne
  | cons p ps'=>exact⟨p,ps',rfl⟩
 have okp:=ok.cons;simp only [Pap.deps] at hdp ab1;simp only [Pap.kns] at kp;have e0:l.drop i=ptx p++(v3 ps'++(clL++r)):=by
  rw[el];simp only [wm,List.append_assoc]
 walk_at "wp";refine⟨a,dx,_,rfl,hd,xy,a,l,_,i,ab,p,rfl,hd',ll,e0,okp.1,by omega,by omega,ab0,by omega,z0q _ _,fun v H1 g1 hv D nD=>?_⟩;obtain⟨dy,h1⟩:=g1.at_;have nDa:D≠a:=fun e=>by rw[e,h1] at nD;cases nD
 have fD:=g1.free nD nDa;have g2:=g1.new nD (.lst [v]);have hD2:=zH (H:=H1) (a:=D) (o:=.lst [v]);have gD:=zJ nD (.lst [v]);have hv2:PapIn K (fun b=>H' b=none/\b≠D) (upd H1 D (.lst [v])) v p:=(z3Q nD hv).mono gD;generalize upd H1 D (.lst [v])=H2 at g2 hD2 hv2 ⊢;clear hv gD nD h1 g1;obtain⟨W,hW⟩:∃W:Nat->St->Hp->Prop,W=fun m σ H3=>∃(k:Nat) (xs:List V),σ=[some (.ref a),some (.int ab),some (.ref D)]/\Rd C H' H3 a l (i+(wm (p::ps'.take k)).length)/\H3 D=some (.lst xs)/\PapsIn K (fun b=>H' b=none/\b≠D) H3 xs (p::ps'.take k)/\k<=ps'.length/\m=ps'.length-k:=⟨_,rfl⟩
 refine⟨W,⟨_,by rw[hW];exact⟨0,[v],rfl,by simpa [wm,v3] using g2,hD2,.cons hv2 .nil,Nat.zero_le _,rfl⟩⟩,fun m σ H3 h=>?_⟩;rw[hW] at h;refine pA fun Gu gQ=>?_;obtain⟨k,xs,rfl,g3,hD3,hx3,hk,rfl⟩:=h;refine gQ ?_;have e3:l.drop (i+(wm (p::ps'.take k)).length)=v3 (ps'.drop k)++(clL++r):=by
  refine qN ?_;rw[e0];simp only [wm,List.append_assoc];rw[←List.append_assoc (v3 (ps'.take k)),←z1j,List.take_append_drop]
 have hd3:=g3.at_;obtain⟨dz,h3⟩:=g3.at_;have ld3:=congrArg List.length e3;rw[List.length_drop,List.length_append,List.length_append] at ld3;walk_at "wp";rw[y2d];refine⟨a,dz,_,rfl,h3,xy,a,l,cmL,_,rfl,hd3,ll,by omega,by decide,by decide,fun c=>?_,fun c H4 g4=>?_⟩
 ·walk_at "wp";have ek:k=ps'.length:=by
   rcases Nat.lt_or_ge k ps'.length with z|z
   ·exfalso;refine c ?_;rw[e3,List.drop_eq_getElem_cons z];simp only [v3,List.append_assoc];exact List.take_left
   ·omega
  subst ek;rw[List.drop_length] at e3;rw[List.take_length] at e3 g3 hx3 hd3 h3 ld3;rw[y0N];have e4:l.drop (i+(wm (p::ps')).length)=clL++r:=by rw[e3];rfl
  refine⟨a,dz,_,rfl,h3,xy,a,l,clL,_,rfl,hd3,ll,by omega,by decide,by decide,by rw[e4];exact List.take_left,fun H4 g4=>?_⟩;exact q D xs H4 (g3.trans g4) fD (g4.lst hd3 _ _ hD3) (jq (g4.tup hd3) (fun b xs _ e=>g4.lst hd3 b xs e) (hx3.imp fun b hb=>hb.1))
 ·walk_at "wp";have hk2:k<ps'.length:=by
   rcases Nat.lt_or_ge k ps'.length with z|z
   ·exact z
   ·exfalso;rw[e3,List.drop_eq_nil_of_le z] at c;simp [v3,clL,cmL] at c
  obtain⟨q0,rest,eq0⟩:∃q0 rest,ps'.drop k=q0::rest:=⟨_,_,List.drop_eq_getElem_cons hk2⟩
  have mq:q0∈ps':=List.mem_of_mem_drop (by rw[eq0];simp);have eg:ps'[k]?=some q0:=by
   have:=congrArg (fun x=>x[0]?) eq0;simpa using this
  have e4:l.drop (i+(wm (p::ps'.take k)).length+cmL.length)=ptx q0++(v3 rest++(clL++r)):=by
   refine qN ?_;rw[e3,eq0];simp only [v3,List.append_assoc]
  have hd4:=g4.at_;obtain⟨d4,h4⟩:=g4.at_;have hD4:=g4.lst hd3 _ _ hD3;have dq:=Pap.dep_mem mq;refine⟨_,fun _ _ h=>h,.inl ⟨rfl,_,SqL.of hD4⟩,a,d4,_,rfl,h4,xy,a,l,_,_,ab,q0,rfl,hd4,ll,e4,okp.2.mem q0 mq,by have:=Pap.kn_mem mq;omega,by omega,ab0,by omega,z0q _ _,fun v5 H5 g5 hv5=>?_⟩;have hD5:=g5.lst hd4 _ _ hD4;have lx:=hx3.len;rw[List.length_cons,List.length_take] at lx;rw[List.length_cons] at lp;refine⟨D,xs,_,rfl,rfl,hD5,by rw[sizeLine_eq];omega,ps'.length-(k+1),by omega,?_⟩;rw[hW];have et:ps'.take (k+1)=ps'.take k++[q0]:=by rw[List.take_add_one,eg];rfl
  have el5:i+(wm (p::ps'.take k)).length+cmL.length+(ptx q0).length=i+(wm (p::ps'.take (k+1))).length:=by
   rw[et];simp only [wm,z1j,v3,List.length_append,List.length_nil];omega
  have g6:=(g3.trans g4).trans g5;rw[el5] at g6;have hx5:=jq (g5.tup hd4) (fun b xs _ e=>g5.lst hd4 b xs e) (jq (g4.tup hd3) (fun b xs _ e=>g4.lst hd3 b xs e) hx3);have nn:∀b,H4 b=none->H' b=none/\b≠D:=fun b hb=>⟨(g3.trans g4).free hb (fun e=>by rw[e,h4] at hb;cases hb),fun e=>by rw[e,hD4] at hb;cases hb⟩
  refine⟨k+1,xs++[v5],rfl,g6.write fD nDa _,zH,?_,hk2,rfl⟩;rw[et];exact (hx5.snoc (hv5.imp nn)).write hD5 fun l hl=>hl.2
theorem z3j {C:Addr} {d:Nat} (cl_PaperReader:Cls K C) (T:TM K C "next_paper" "PaperReader.next_paper" zk) (c_MOST_DEPTH:CI mg "MOST_DEPTH" 40) (G_PaperReader_passes:HasM P w K mg base 1 C "passes" ["self", "signs"] (j6 C)) (G_PaperReader_needs:HasM P w K mg base 2 C "needs" ["self", "signs"] (we C)) (G_PaperReader_next_number:HasM P w K mg base 3 C "next_number" ["self"] (z4h C)) (G_PaperReader_next_papers:HasM P w K mg base (2*d+5) C "next_papers" ["self", "above"] (z5t K C d)):HasM P w K mg base (2*(d+1)+4) C "next_paper" ["self", "above"] (vG K C (d+1)):=by
 refine T.has yH (fun _ _ _ _ _ _=>L2.bnd2 fun _ _=>rfl) (fun vs H Q E h=>?_) (fun f cdv A outer s H vs Q E hr h=>?_)
 ·refine pA fun Gv gR=>?_;obtain⟨a,l,r,i,ab,p,rfl,_⟩:=h;refine gR ?_;rfl
 refine pA fun Gw gS=>?_;obtain⟨a,l,r,i,ab,p,rfl,hd,ll,el,ok,kp,hdp,ab0,ab1,nf,q⟩:=h;refine gS ?_;have hd':=hd;obtain⟨dx,hd⟩:=hd;have ld:=congrArg List.length el;rw[List.length_drop,List.length_append] at ld;refine⟨_,(zC (zi (yd (xJ (pv 0) cl_PaperReader (G_PaperReader_passes.mono (by first|decide|omega)) hr (zB zS zD)) (fun _=>rfl)) (zE (zK (xq (zB zS (zB (z8q (pv 0) cl_PaperReader (G_PaperReader_next_number.mono (by first|decide|omega)) hr) zD))))) zM) (zC (zi (zN xE (pv 1) (z1m rfl c_MOST_DEPTH) (zX _)) (zE yT) zM) (zC (yt (xJ (pv 0) cl_PaperReader (G_PaperReader_needs.mono (by first|decide|omega)) hr (zB zS zD))) (zC (zR (i:=2) yH.nd rfl (Or.inl rfl) (z8q (pv 0) cl_PaperReader (G_PaperReader_next_number.mono (by first|decide|omega)) hr)) (zC (yt (xJ (pv 0) cl_PaperReader (G_PaperReader_needs.mono (by first|decide|omega)) hr (zB zS zD))) (zE (zK (xq (zB zS (zB (pv 2) (zB (xJ (pv 0) cl_PaperReader (G_PaperReader_next_papers.mono (by first|decide|omega)) hr (zB (zW ye (pv 1) zF) zD)) zD))))))))))),?_⟩;walk_at "wp";rw[y2W];have lp:3<=(ptx p).length:=by
  cases p <;> simp [ptx,inL,byL] <;> omega
 refine⟨a,dx,_,rfl,hd,xy,a,l,inL,i,rfl,hd',ll,by omega,by decide,by decide,fun c=>?_,fun c H1 g1=>?_⟩
 ·cases p with
  | inn k=>
   exfalso;refine c ?_;rw[el];simp only [ptx,List.append_assoc];exact List.take_left
  | par b ps=>
   obtain⟨okb,oks⟩:=ok.par;simp only [Pap.dep] at hdp ab1;simp only [Pap.kn] at kp;have e1:l.drop i=byL++(dg b++(opL++(wm ps++(clL++r)))):=by
    rw[el];simp only [ptx,List.append_assoc]
   walk_at "wp";refine⟨fun z=>by omega,fun _=>⟨a,dx,_,rfl,hd,xy,?_⟩⟩;rw[y2f];refine⟨a,l,byL,i,rfl,hd',ll,by omega,by decide,by decide,by rw[e1];exact List.take_left,fun H1 g1=>?_⟩;have hd1:=g1.at_;obtain⟨d1,h1⟩:=g1.at_;have e2:=qN e1;refine⟨a,d1,_,rfl,h1,xy,a,l,_,_,b,rfl,hd1,ll,e2,okb,(fun c e=>by
    have:c=32:=by simpa [opL] using e.symm
    omega),fun H2 g2=>?_⟩
   have hd2:=g2.at_;obtain⟨d2,h2⟩:=g2.at_;have e3:=qN e2;have l3:=congrArg List.length e3;rw[List.length_drop,List.length_append] at l3;have o2:opL.length=2:=rfl;refine⟨a,d2,_,rfl,h2,xy,?_⟩;rw[y2S];refine⟨a,l,opL,_,rfl,hd2,ll,by omega,by decide,by decide,by rw[e3];exact List.take_left,fun H3 g3=>?_⟩;have hd3:=g3.at_;obtain⟨d3,h3⟩:=g3.at_;have e4:=qN e3;refine⟨a,d3,_,rfl,h3,xy,a,l,r,_,ab+1,ps,rfl,hd3,ll,e4,oks,by omega,by omega,by omega,by omega,fun D xs H4 g4 nD hD hx t nt=>?_⟩;have G3:=(g1.trans g2).trans g3;have nn:∀x,H3 x=none->H x=none:=fun x hx=>G3.free hx fun e=>by rw[e,h3] at hx;cases hx
   have G4:=G3.trans g4;have gt:=zJ nt (.tup [V.str "parted",.int b,.ref D]);have ep:i+byL.length+(dg b).length+opL.length+(wm ps).length+1=i+(ptx (.par b ps)).length:=by
    simp only [ptx,List.length_append,clL,List.length_cons,List.length_nil];omega
   rw[ep] at G4;refine q (.ref t) _ (G4.new nt _) (.par zH (gt _ _ hD) (nn D nD) ?_ ((hx.imp nn).mono gt));have:=hx.len;have:=Pap.kns_len ps;omega
 ·cases p with
  | par b ps=>
   exfalso;rw[el] at c;simp [ptx,inL,byL] at c
  | inn k=>
   have e1:l.drop i=inL++(dg k++r):=by
    rw[el];simp only [ptx,List.append_assoc]
   walk_at "wp";have hd1:=g1.at_;obtain⟨d1,h1⟩:=g1.at_;refine⟨a,d1,_,rfl,h1,xy,a,l,r,_,k,rfl,hd1,ll,qN e1,ok.inn,nf,fun H2 g2 t nt=>?_⟩;have ep:i+inL.length+(dg k).length=i+(ptx (.inn k)).length:=by
    simp only [ptx,List.length_append];omega
   have G2:=g1.trans g2;rw[ep] at G2;exact q (.ref t) _ (G2.new nt _) (.inn zH)
theorem z5N {C:Addr} (T:TM K C "next_paper" "PaperReader.next_paper" zk):HasM P w K mg base 4 C "next_paper" ["self", "above"] (vG K C 0):=by
 refine T.has (k:=3) yH (fun _ _ _ _ _ _=>L2.bnd2 fun _ _=>rfl) (fun vs H Q E h=>?_) (fun f cdv A outer s H vs Q E hr h=>?_)
 ·refine pA fun Gx gU=>?_;obtain⟨_,_,_,_,_,_,_,_,_,_,_,_,h,_⟩:=h;refine gU ?_;exact absurd h (Nat.not_lt_zero _)
 ·refine pA fun Gy gW=>?_;obtain⟨_,_,_,_,_,_,_,_,_,_,_,_,h,_⟩:=h;refine gW ?_;exact absurd h (Nat.not_lt_zero _)
theorem z0w {C:Addr} (cl:Cls K C) (T1:TM K C "next_paper" "PaperReader.next_paper" zk) (T2:TM K C "next_papers" "PaperReader.next_papers" zq) (c_MOST_DEPTH:CI mg "MOST_DEPTH" 40) (G1:HasM P w K mg base 1 C "passes" ["self", "signs"] (j6 C)) (G2:HasM P w K mg base 2 C "needs" ["self", "signs"] (we C)) (G3:HasM P w K mg base 3 C "next_number" ["self"] (z4h C)):∀d:Nat,HasM P w K mg base (2*d+4) C "next_paper" ["self", "above"] (vG K C d)
 | 0=>z5N T1
 | d+1=>z3j cl T1 c_MOST_DEPTH G1 G2 G3 (z2L cl T2 G1 G2 (z0w cl T1 T2 c_MOST_DEPTH G1 G2 G3 d))
noncomputable def z5s (C:Addr):Sp:=fun vs H Q _=>∃(x dx:Addr) (l:List Nat),vs=[.ref x,.str (tx l)]/\H x=some (.ins C dx [])/\∀H',Rd C H H' x l 0->Q .non H'
theorem y3h {C:Addr} (X:RdTx K C) (T:TM K C "__init__" "PaperReader.__init__" yS):HasM P w K mg base 1 C "__init__" ["self", "text"] (z5s C):=by
 refine T.has jG (fun _ _ _ _ _ _=>L2.bnd2 fun _ _=>rfl) (fun vs H Q E h=>?_) (fun f cdv A outer s H vs Q E hr h=>?_)
 ·refine pA fun Gz gX=>?_;obtain⟨x,dx,l,rfl,_⟩:=h;refine gX ?_;rfl
 refine pA fun G0 gZ=>?_;obtain⟨x,dx,l,rfl,hx,q⟩:=h;refine gZ ?_;refine⟨_,(zC (z8j (pv 0) (pv 1) rfl) (zE (z8j (pv 0) zF rfl))),?_⟩;walk_at "wp";refine⟨x,C,dx,[],rfl,hx,X.cl,X.nT,by decide,x,C,dx,_,rfl,zH,X.cl,X.nP,by show 1<1000;decide,?_⟩;have e:w8 ("place" : Str) (.int 0) (w8 ("text" : Str) (.str (tx l)) [])=z7o l 0:=by
  show (if ("text" : Str) = "place" then _ else (("text" : Str),V.str (tx l))::w8 ("place" : Str) (.int 0) [])=_;rw[if_neg (by decide +kernel)];rfl
 rw[e];refine q _ ⟨⟨dx,zH⟩,fun b o hb e=>?_⟩;rw[za hb,za hb];exact e
noncomputable def z2s (K:PySem.W.Frag):Sp:=fun vs H Q _=>∃p:Pap,vs=[.str (tx (ptx p))]/\POk p/\p.kn<=800/\p.dep<=40/\∀(v:V) (H':Hp),Same H H'->PapIn K (fun b=>H b=none) H' v p->Q v H'
theorem z3f {C:Addr} (X:RdTx K C) (cl_PaperReader:Cls K C) (mk_PaperReader:PySem.W.makesIn K C=true) (kc_PaperReader:PySem.W.keepIn K (.ref C)=true) (mg_PaperReader:mg "PaperReader" = some (.ref C)) (T:TF K mg "read_paper" ja) (m_len:mg "len" = none) (G_PaperReader___init__:HasM P w K mg base 1 C "__init__" ["self", "text"] (z5s C)) (G_PaperReader_next_paper:HasM P w K mg base (2*41+4) C "next_paper" ["self", "above"] (vG K C 41)):Has P w K mg base 87 "read_paper" ["text"] (z2s K):=by
 refine T.has jD (fun _ _ _ _ _ _=>L2.bnd1 fun _=>rfl) (fun vs H Q E h=>?_) (fun f cdv A outer s H vs Q E hr h=>?_)
 ·refine pA fun Ga hC=>?_;obtain⟨p,rfl,_⟩:=h;refine hC ?_;rfl
 refine pA fun Gb hJ=>?_;obtain⟨p,rfl,ok,kp,dp,q⟩:=h;refine hJ ?_;refine⟨_,(zC (zR (i:=1) jD.nd rfl (Or.inl rfl) (y5p (G_PaperReader___init__.mono (by first|decide|omega)) mk_PaperReader kc_PaperReader hr rfl mg_PaperReader (zB (pv 0) zD))) (zC (zR (i:=2) jD.nd rfl (Or.inl rfl) (xJ (pv 1) cl_PaperReader (G_PaperReader_next_paper.mono (by first|decide|omega)) hr (zB zF zD))) (zC (zi (zN kQ (xr (pv 1) rfl) (zY yO rfl m_len PySem.boot_len (zB (pv 0) zD)) (zX _)) (zE yT) zM) (zE (zK (pv 2)))))),?_⟩;have lp:=qr p ok;walk_at "wp";intro x dx nx ndx hne;refine⟨x,dx,ptx p,rfl,zH,fun H1 g1=>⟨rfl,?_⟩⟩;have hd1:=g1.at_;obtain⟨d1,h1⟩:=g1.at_;walk_at "wp";refine⟨x,d1,_,rfl,h1,xy,x,ptx p,[],0,0,p,rfl,hd1,by omega,by simp,ok,by omega,by omega,by decide,by omega,(fun c e=>by simp at e),fun v H2 g2 hv=>?_⟩;obtain⟨d2,h2⟩:=g2.at_;have S1:Same H H1:=fun b o e=>g1.same b o (zV e nx) (by rw[za (zV e nx),za (zV e ndx)];exact e);have S2:Same H H2:=fun b o e=>g2.same b o (zV e nx) (S1 b o e);walk_at "wp";refine⟨x,C,d2,_,_,rfl,h2,X.cl,X.nP,xF _ _,?_⟩;walk_at "wp";refine⟨tx (ptx p),rfl,by rw[zP];omega,?_⟩;rw[zP];refine⟨fun c=>absurd rfl c,fun _=>q v H2 S2 (hv.imp fun b hb=>S1.free hb)⟩
noncomputable def z1X (K:PySem.W.Frag) (d:Nat):Sp:=fun vs H Q _=>∃(v:V) (p:Pap),vs=[v]/\PapIn K y0Y H v p/\POk p/\p.kn<=800/\p.dep<d/\∀H',Same H H'->Q (.str (tx (ptx p))) H'
theorem y2E {d:Nat} {D:Addr} {xs:List V} {ps:List Pap} {own:List Str} {fr:List Nat} {σ:St} {H:Hp} {Q:VK} (hD:H D=some (.lst xs)) (hx:PapsIn K y0Y H xs ps) (ok:POks ps) (kp:Pap.kns ps<=800) (dp:Pap.deps ps<d) (hst:st0 own fr σ=[none]) (hq:∀(F:Addr) (H':Hp),Same H H'->H F=none->H' F=some (.lst ((ps.map fun p=>tx (ptx p)).map V.str))->Q (.ref F) H') :
  kC (Itl K D) (jW 0) z2m (z7A (z1X K d) [] E0 (z6z (z5l 0) y0j)) own fr σ H Q:=by
 have ln:=Pap.kns_len ps;have lx:=hx.len;obtain⟨Sv,hSv⟩:∃Sv:St->Prop,Sv=fun σ=>∃o1,σ=[o1]:=⟨_,rfl⟩
 obtain⟨Pv,hPv⟩:∃Pv:Addr->Nat->List V->Hp->Prop,Pv=fun D2 i ys H2=>H D2=none/\Same H H2/\ys=((ps.take i).map fun p=>tx (ptx p)).map V.str:=⟨_,rfl⟩
 refine yL (xs:=xs) Sv Pv (by rw[hSv,hst];exact⟨none,rfl⟩) (fun D2 hD2=>?_) (fun D2 i ys H2 hD2 h=>?_) (fun D2 i x ys σ H2 hx' hi hs hD2 hy h=>?_) (fun D2 ys H2 hD2 h=>?_)
 ·rw[hPv];exact⟨hD2,zJ hD2 _,rfl⟩
 ·rw[hPv] at h;exact SqL.of (h.2.1 _ _ hD)
 ·rw[hSv] at hs;rw[hPv] at h;obtain⟨o1,rfl⟩:=hs;refine pA fun Gc hU=>?_;obtain⟨nD2,g,rfl⟩:=h;refine hU ?_;refine pA fun Ge hV=>?_;obtain⟨p,ep,hp⟩:=hx.at hx';refine hV ?_;have mp:=List.mem_of_getElem? ep;have k1:=Pap.kn_mem mp;have k2:=Pap.dep_mem mp;walk_at "wp";refine⟨x,p,rfl,hp.mono g,ok.mem p mp,by omega,by omega,fun H3 g3=>?_⟩;refine CompP.mk (g3 _ _ hD2) hy (by rw[sizeLine_eq];omega) (by rw[hSv];exact⟨_,rfl⟩) (by
   rw[hPv];refine⟨nD2,(g.trans g3).write nD2 _,?_⟩;rw[List.take_add_one,ep];simp)
 ·rw[hPv] at h;refine pA fun Gf gC=>?_;obtain⟨nD2,g,rfl⟩:=h;refine gC ?_;rw[lx,List.take_length] at hD2;exact hq D2 H2 g nD2 hD2
theorem z6g:∀(ps:List Pap) (k:Nat),POks ps->(ps.map fun p=>tx (ptx p)).foldl (· + ·.length+(tx cmL).length) k<=k+112*Pap.kns ps
 | [],k,_=>by simp
 | p::ps,k,h=>by
  have h1:=qr p h.cons.1;have h2:=z6g ps (k+(tx (ptx p)).length+(tx cmL).length) h.cons.2;have h3:cmL.length=2:=rfl;rw[List.map_cons,List.foldl_cons];simp only [Pap.kns];simp only [zP] at h2 ⊢;omega
theorem y1e {ps:List Pap} (ok:POks ps) (kp:Pap.kns ps<=800):(ps.map fun p=>tx (ptx p)).toArray.foldl (· + ·.length+(tx cmL).length) 0<=16777216/\(Builtin.Str.glued (tx cmL) (ps.map fun p=>tx (ptx p))).length<=16777216:=by
 have ln:=Pap.kns_len ps;constructor
 ·rw[List.foldl_toArray];have:=z6g ps 0 ok;omega
 ·rw[z6e,zP];have:=z1i ps ok;omega
theorem eE:Str.empty=tx []:=rfl
theorem z2I (T:TF K mg "shown_paper" jJ):∀d:Nat,Has P w K mg base (d+1) "shown_paper" ["paper"] (z1X K d):=by
 intro d
 induction d with
 | zero=>
  refine T.has yw (fun _ _ _ _ _ _=>L2.bnd1 fun _=>rfl) (fun vs H Q E h=>?_) (fun f cdv A outer s H vs Q E hr h=>?_)
  ·refine pA fun Gg gE=>?_;obtain⟨_,_,_,_,_,_,h,_⟩:=h;refine gE ?_;exact absurd h (Nat.not_lt_zero _)
  ·refine pA fun Gh gF=>?_;obtain⟨_,_,_,_,_,_,h,_⟩:=h;refine gF ?_;exact absurd h (Nat.not_lt_zero _)
 | succ d ih=>
 have G_shown_paper:=ih;refine T.has yw (fun _ _ _ _ _ _=>L2.bnd1 fun _=>rfl) (fun vs H Q E h=>?_) (fun f cdv A outer s H vs Q E hr h=>?_)
 ·refine pA fun Gi gG=>?_;obtain⟨v,p,rfl,_⟩:=h;refine gG ?_;rfl
 refine pA fun Gj gH=>?_;obtain⟨v,p,rfl,hv,ok,kp,dp,q⟩:=h;refine gH ?_;refine⟨_,(zC (zR (i:=1) yw.nd rfl (Or.inl rfl) (zU zZ (pv 0) zF (fun _ _=>rfl))) (zC (zi (zN xE (zU zZ (pv 0) zF (fun _ _=>rfl)) zS (zX _)) (zE (zK (z1l (yu zS (yu (z0r (pv 1)) z6N))))) zM) (zC (zR (i:=2) yw.nd rfl (Or.inl rfl) (xn PySem.F.plainAttrs_str PySem.F.slot_str_join PySem.F.type_str_join z4y zS (zB (ya (CompSc.none (own:=["below"]) (by decide +kernel) (by decide +kernel) rfl (by decide +kernel)) rfl (yC (zU zZ (pv 0) zF (fun _ _=>rfl))) (fun _ _ _=>(zQ (i:=0) (show (["below"]:List Str).Nodup from by decide +kernel) rfl (Or.inl rfl) (Or.inr rfl))) (fun _ _ _=>yX) (fun _ _ _=>(zL (G_shown_paper.mono (by first|decide|omega)) hr (zB (pv 0) zD)))) zD))) (zE (zK (z1l (yu zS (yu (z0r (pv 1)) (yu zS (yu (z0r (pv 2)) (yu zS z6N))))))))))),?_⟩;cases hv with
 | @inn b0 k hb=>
  have hT:SqT K H b0 [.str "in",.int k]:=SqT.of hb;have dk:=ok.inn;have l1:=dk.len;have e1:Str.empty++tx inL=tx inL:=by rw[eE,yl];rfl
  have e2:tx inL++tx (dg k)=tx (ptx (.inn k)):=by rw[yl];simp only [ptx]
  have l2:(ptx (.inn k)).length<=1000:=by simp only [ptx,List.length_append,inL,List.length_cons,List.length_nil];omega
  walk_at "wp";refine⟨_,_,_,.int k,rfl,rfl,hT,rfl,_,_,_,.str "in",rfl,rfl,hT,rfl,rfl,_,rfl,fun _=>?_,fun c=>absurd (decide_eq_true rfl) c⟩;rw[y2W];refine⟨_,rfl,by rw[e1,zP];decide,.inl ⟨k,rfl,dk.sz,_,rfl,?_⟩⟩;rw[xI,e1,e2,zP];exact⟨by omega,by omega,q H (Same.refl H)⟩
 | @par b0 l bb zs ps hb hl _ lz hs=>
  have hT:SqT K H b0 [.str "parted",.int bb,.ref l]:=SqT.of hb;obtain⟨okb,oks⟩:=ok.par;simp only [Pap.dep] at dp;simp only [Pap.kn] at kp;have l1:=okb.len;have l2:=z1i ps oks;have e1:Str.empty++tx byL=tx byL:=by rw[eE,yl];rfl
  have e5:tx byL++tx (dg bb)++tx opL++tx (wm ps)++tx clL=tx (ptx (.par bb ps)):=by
   rw[yl,yl,yl,yl];simp only [ptx,List.append_assoc]
  walk_at "wp";refine⟨_,_,_,.int bb,rfl,rfl,hT,rfl,_,_,_,.str "parted",rfl,rfl,hT,rfl,rfl,_,rfl,fun c=>absurd (of_decide_eq_true c) (by decide +kernel),fun _=>⟨rfl,_,_,_,.ref l,rfl,rfl,hT,rfl,_,rfl,⟨_,SqL.of hl⟩,?_⟩⟩;refine y2E hl hs oks (by omega) (by omega) rfl fun F H1 g1 nF hF=>?_;have jt:=y1e oks (by omega:Pap.kns ps<=800);rw[y2d,y2f,y2S,y0N];refine⟨_,F,_,rfl,rfl,SqL.of hF,jt.1,jt.2,?_⟩;rw[z6e];have b3:byL.length=3:=rfl;have o2:opL.length=2:=rfl;have c1:clL.length=1:=rfl;refine⟨_,rfl,by rw[e1,zP];decide,.inl ⟨bb,rfl,okb.sz,_,rfl,?_⟩⟩;rw[xI,e1];refine⟨by rw[yl,zP,List.length_append];omega,_,rfl,by rw[yl,yl,zP,List.length_append,List.length_append];omega,.inr ⟨_,rfl,by rw[zP];omega,_,rfl,?_⟩⟩;refine⟨by rw[yl,yl,yl,zP,List.length_append,List.length_append,List.length_append];omega,_,rfl,?_⟩;rw[e5,zP];have l5:(ptx (.par bb ps)).length<=100000:=by
   simp only [ptx,List.length_append];omega
  exact⟨by omega,by omega,q H1 g1⟩
theorem z5J {k:Nat} {C:Addr} {x:Str} {ps:List Str} {sp sp':Sp} (h:HasMX P w K mg base k C x ps sp) (i:∀vs H Q E,sp' vs H Q E->sp vs H Q fun _ _ _=>False):HasM P w K mg base k C x ps sp':=by
 refine pA fun Gk gI=>?_;obtain⟨f,fd,F,hb,hm⟩:=h;refine gI ?_;refine⟨f,fd,⟨fun vs H Q E z=>F.len vs H Q _ (i vs H Q E z),fun A outer s H args us vs Q E hr e0 hbt hv z=>PySem.codeAny_mono (F.run A outer s H args us vs Q _ hr e0 hbt hv (i vs H Q E z)) fun r s' hq=>?_⟩,hb,hm⟩;cases r with
 | error e=>
  refine pA fun Gm gJ=>?_;obtain⟨_,_,_,_,_,_,_,_,_,z⟩:=hq;refine gJ ?_;exact z.elim
 | ok fl=>cases fl <;> exact hq
theorem z8k {ws us:List T3} {W:Int} (hw:∀u∈ws,Wk u) (hu:∀u∈us,Wk u) (dw:∀u∈ws,u.1∣W) (du:∀u∈us,u.1∣W) (W1:1<=W) (k:Int):1<=prd ws us k/\prd ws us k<=W:=by
 have g:∀ {l:List T3} (_:∀u∈l,Wk u) (_:∀u∈l,u.1∣W) (i:Nat),1<=(l.getD i (1,0,1)).1/\(l.getD i (1,0,1)).1∣W:=fun {l} hl dl i=>by
  by_cases c:i<l.length
  ·rw[List.getD_eq_getElem?_getD,List.getElem?_eq_getElem c];exact⟨(hl _ (List.getElem_mem c)).1,dl _ (List.getElem_mem c)⟩
  ·rw[List.getD_eq_getElem?_getD,List.getElem?_eq_none (by omega)];exact⟨Int.le_refl _,Int.one_dvd _⟩
 have g1:=g hw dw (k/(us.length:Int)).toNat;have g2:=g hu du (k%(us.length:Int)).toNat;unfold prd;have p:∀x∈[(ws.getD (k/(us.length:Int)).toNat (1,0,1)).1,(us.getD (k%(us.length:Int)).toNat (1,0,1)).1],1<=x/\x∣W:=fun x hx=>by
  simp only [List.mem_cons,List.not_mem_nil,or_false] at hx;rcases hx with rfl|rfl
  ·exact g1
  ·exact g2
 exact⟨xM fun x hx=>(p x hx).1,Int.le_of_dvd (by omega) ((xf fun x hx=>(p x hx).1).mpr fun x hx=>(p x hx).2)⟩
mutual
theorem z6J {ws:List T3} (hl:ws.length<=1000):∀ {p:Pap} {s r:Int},p.kn<=1000->zh ws s r p=true->POk p
 | .inn k,s,r,_,h=>by
  simp only [zh,Bool.and_eq_true,decide_eq_true_eq] at h;intro n hn;simp only [y4G,List.mem_cons,List.not_mem_nil,or_false] at hn;rw[hn];have e:(1000:Int)<10^100:=by decide +kernel
  exact z7f h.1 (by omega)
 | .par b ps,s,r,hk,h=>by
  simp only [zh,Bool.and_eq_true,decide_eq_true_eq] at h;simp only [Pap.kn] at hk;have hn:=Pap.kns_len ps;have e:(1000:Int)<10^100:=by decide +kernel
  intro n hn2;simp only [y4G,List.mem_cons] at hn2;rcases hn2 with rfl|hn2
  ·exact z7f (by omega) (by omega)
  ·exact z3H hl (by omega) h.2.2 n hn2
theorem z3H {ws:List T3} (hl:ws.length<=1000):∀ {ps:List Pap} {s r b:Int} {c:Nat},Pap.kns ps<=1000->zn ws s r b c ps=true->POks ps
 | [],s,r,b,c,_,_=>fun n hn=>by simp [z7N] at hn
 | p::ps,s,r,b,c,hk,h=>by
  simp only [zn,Bool.and_eq_true] at h;simp only [Pap.kns] at hk;intro n hn;simp only [z7N,List.mem_append] at hn;rcases hn with hn|hn
  ·exact z6J hl (by omega) h.1 n hn
  ·exact z3H hl (by omega) h.2 n hn
end
noncomputable def y1V:List Nat:=(Str.ofString "lonely at ").cps.toList
noncomputable def suL:List Nat:=(Str.ofString "sure within ").cps.toList
noncomputable def bbL:List Nat:=(Str.ofString " by ").cps.toList
noncomputable def Sml (ws us:List T3) (W:Int):Prop:=KpP ws/\KpP us/\(∀u∈ws,u.1∣W)/\(∀u∈us,u.1∣W)/\1<=W/\W<=30
noncomputable def SureA (ws us:List T3) (l:List Nat):Prop:=(∃i:Int,x5 (shs ws us) (yp ((shs ws us).map (·.1))).toNat=some i/\l=y1V++dg i)∨
 (x5 (shs ws us) (yp ((shs ws us).map (·.1))).toNat=none/\∃p M,PopR (shs ws us) 1 0 (z2j (shs ws us).length) p/\IsMx (prd ws us) p.nm M/\DgOk M/\POk p/\p.kn<64/\p.dep<=13/\l=suL++dg M++bbL++ptx p)
theorem SureA.uniq {ws us:List T3} {k l:List Nat} (h:SureA ws us k) (g:SureA ws us l):k=l:=by
 rcases h with⟨i,e,rfl⟩|⟨e,p,M,hp,hM,_,_,_,_,rfl⟩
 ·rcases g with⟨j,e2,rfl⟩|⟨e2,_⟩
  ·rw[e] at e2;cases e2;rfl
  ·rw[e] at e2;cases e2
 ·rcases g with⟨j,e2,rfl⟩|⟨e2,q,N,hq,hN,_,_,_,_,rfl⟩
  ·rw[e] at e2;cases e2
  ·obtain rfl:=hp.uniq hq;rw[hM.uniq hN]
noncomputable def z8R (K:PySem.W.Frag):Sp:=fun vs H Q _=>∃(a b:Addr) (xs ys:List V) (ws us:List T3) (W:Int),vs=[.ref a,.ref b]/\H a=some (.lst xs)/\Pl H xs ws/\H b=some (.lst ys)/\Pl H ys us/\Sml ws us W/\∀l H',Same H H'->SureA ws us l->Q (.str (tx l)) H'
theorem z2H (T:TF K mg "sure_answer" jI) (G_meeting_paper:Has P w K mg base 18 "meeting_paper" ["one", "other"] (z0e K)) (G_lonely_shift:Has P w K mg base 5 "lonely_shift" ["one", "other"] (z2v K)) (G_paper_wait:Has P w K mg base 20 "paper_wait" ["one", "other", "paper"] (kH K 14)) (G_shown_paper:Has P w K mg base 15 "shown_paper" ["paper"] (z1X K 14)):Has P w K mg base 21 "sure_answer" ["one", "other"] (z8R K):=by
 refine T.has yc (fun _ _ _ _ _ _=>L2.bnd2 fun _ _=>rfl) (fun vs H Q E h=>?_) (fun f cdv A outer s H vs Q E hr h=>?_)
 ·refine pA fun Gn gK=>?_;obtain⟨a,b,xs,ys,ws,us,W,rfl,_⟩:=h;refine gK ?_;rfl
 refine pA fun Go gL=>?_;obtain⟨a,b,xs,ys,ws,us,W,rfl,ha,hP,hb,hP2,⟨kw,ku,dw,du,W1,W3⟩,q⟩:=h;refine gL ?_;refine⟨_,(zC (zR (i:=2) yc.nd rfl (Or.inl rfl) (zL (G_meeting_paper.mono (by first|decide|omega)) hr (zB (pv 0) (zB (pv 1) zD)))) (zC (zi (zN z6P (pv 2) jZ (zX _)) (zC (zR (i:=3) yc.nd rfl (Or.inl rfl) (zL (G_lonely_shift.mono (by first|decide|omega)) hr (zB (pv 0) (zB (pv 1) zD)))) (zE (zK (z1l (yu zS (yu (z0r (pv 3)) z6N)))))) zM) (zC (zR (i:=4) yc.nd rfl (Or.inl rfl) (zL (G_paper_wait.mono (by first|decide|omega)) hr (zB (pv 0) (zB (pv 1) (zB (pv 2) zD))))) (zC (zR (i:=5) yc.nd rfl (Or.inl rfl) (zL (G_shown_paper.mono (by first|decide|omega)) hr (zB (pv 2) zD))) (zE (zK (z1l (yu zS (yu (z0r (pv 4)) (yu zS (yu (z0r (pv 5)) z6N))))))))))),?_⟩;walk_at "wpd";have e900:(2:Int)^900<2^1000:=by decide +kernel
 have kw1:=kw.2.2;have ku1:=ku.2.2;have ls:=y1Z kw.1 dw du W1;have L0:=ls.1;have L1:yp ((shs ws us).map (·.1))<=30:=by have:=ls.2.2.1;omega
 have eE:∀z:List Nat,Str.empty++tx z=tx z:=fun z=>by rw[show Str.empty=tx [] from rfl,yl];rfl
 have t1:Str.ofString "lonely at " = tx y1V:=(x6 _).symm;have t2:Str.ofString "sure within " = tx suL:=(x6 _).symm;have t3:Str.ofString " by " = tx bbL:=(x6 _).symm;have n1:y1V.length=10:=by decide +kernel
 have n2:suL.length=12:=by decide +kernel
 have n3:bbL.length=4:=by decide +kernel
 have e100:(1000:Int)<10^100:=by decide +kernel
 rw[t1,t2,t3];refine⟨a,b,xs,ys,ws,us,rfl,SqL.of ha,hP,SqL.of hb,hP2,kw.1,ku.1,by omega,by omega,by omega,fun hn H1 g1=>⟨fun _=>?_,fun c=>absurd rfl c⟩,fun hn v p H1 g1 hp hd hr2 po kb=>⟨fun c=>?_,fun _=>?_⟩⟩
 ·refine⟨a,b,xs,ys,ws,us,rfl,SqL.of (g1 _ _ ha),hP.same g1,SqL.of (g1 _ _ hb),hP2.same g1,kw.1,ku.1,fun u hu=>by have:=kw.2.1 u hu;omega,by omega,by omega,by omega,fun H2 g2=>?_⟩;cases e:x5 (shs ws us) (yp ((shs ws us).map (·.1))).toNat with
  | none=>exact absurd e hn
  | some i=>
   have ib:0<=i/\i<30:=by
    rcases qK (ws:=shs ws us) (n:=(yp ((shs ws us).map (·.1))).toNat) with⟨j,e2,h2⟩|⟨e2,_⟩
    ·rw[e] at e2;cases e2;omega
    ·rw[e] at e2;cases e2
   have dk:=z7f (n:=i) ib.1 (by omega);have l1:=dk.len;refine⟨_,rfl,by rw[eE,zP];omega,.inl ⟨i,rfl,dk.sz,_,rfl,?_⟩⟩;rw[xI,eE,yl,zP,List.length_append];exact⟨by omega,by omega,q _ H2 (g1.trans g2) (.inl ⟨i,e,rfl⟩)⟩
 ·rcases hp with⟨a0,k,_,hv,_⟩|⟨a0,l,b0,ys0,ps,_,hv,_⟩ <;> (rw[hv] at c;cases c)
 ·have hpa:=hp.pap.any;have k63:p.kn<64:=by omega
  have ok:POk p:=z6J (ws:=shs ws us) (by rw[jC];have:=Nat.mul_le_mul kw1 ku1;omega) (by omega) hr2;refine⟨a,b,v,xs,ys,ws,us,p,rfl,SqL.of (g1 _ _ ha),hP.same g1,SqL.of (g1 _ _ hb),hP2.same g1,fun u hu=>⟨kw.1 u hu,by have:=kw.2.1 u hu;omega⟩,fun u hu=>⟨ku.1 u hu,by have:=ku.2.1 u hu;omega⟩,by omega,by omega,hpa,by omega,k63,hr2,fun M H2 g2 hM=>?_⟩;refine⟨v,p,rfl,hpa.mono g2,ok,by omega,by omega,fun H3 g3=>?_⟩;have mb:1<=M/\M<=W:=by
   refine pA fun Gp gM=>?_;obtain⟨k,_,rfl⟩:=hM.1;refine gM ?_;exact z8k kw.1 ku.1 dw du W1 k
  have dk:=z7f (n:=M) (by omega) (by omega);have l1:=dk.len;have l2:=qr p ok;refine⟨_,rfl,by rw[eE,zP];omega,.inl ⟨M,rfl,dk.sz,_,rfl,?_⟩⟩;rw[xI,eE,yl];refine⟨by rw[zP,List.length_append];omega,_,rfl,by rw[yl,zP,List.length_append,List.length_append];omega,.inr ⟨_,rfl,by rw[zP];omega,_,rfl,?_⟩⟩;rw[yl,yl,zP,List.length_append,List.length_append,List.length_append];exact⟨by omega,by omega,q _ H3 ((g1.trans g2).trans g3) (.inr ⟨hn,p,M,po,hM,dk,ok,k63,hd,rfl⟩)⟩
theorem y1F (v:V):List.lookup (Str.ofString "plan_by") [((Str.ofString "plans"),v)]=none:=by
 rw[List.lookup_cons,show ((Str.ofString "plan_by") == (Str.ofString "plans"))=false by decide +kernel];rfl
noncomputable def PPG:List Str:=[Str.ofString "plan",Str.ofString "pair",Str.ofString "grid"]
noncomputable def z4g:List Nat:=[115,117,114,101]
noncomputable def y5Q:List Nat:=[99,104,101,99,107]
theorem y0m:Str.ofString "sure" = tx z4g:=by decide +kernel
theorem y0O:Str.ofString "check" = tx y5Q:=by decide +kernel
noncomputable def j5 (K:PySem.W.Frag):Sp:=fun vs H Q _=>∃(W:Addr) (nm:List Nat) (ws:List T3),vs=[.ref W]/\H W=some (.lst (([qt,nm,jS ws false].map tx).map V.str))/\ws.length<=12/\(∀u∈ws,WOk u)/\(∀u∈ws,isW u=true)/\∀(D:Addr) (xs:List V) (H':Hp),Same H H'->H' D=some (.lst xs)->Pl H' xs ws->Q (.ref D) H'
theorem z5K (T:TF K mg "told_plan" qd) (G_read_plan:Has P w K mg base 4 "read_plan" ["text"] wO):Has P w K mg base 5 "told_plan" ["words"] (j5 K):=by
 refine T.has z3C (fun _ _ _ _ _ _=>L2.bnd1 fun _=>rfl) (fun vs H Q E h=>?_) (fun f cdv A outer s H vs Q E hr h=>?_)
 ·refine pA fun Gq gN=>?_;obtain⟨W,nm,l,rfl,_⟩:=h;refine gN ?_;rfl
 refine pA fun Gr gO=>?_;obtain⟨W,nm,ws,rfl,hW,hl,ok,hw,q⟩:=h;refine gO ?_;refine⟨_,(zC (zi (zN xE (zU zo (pv 0) zF (fun _ _=>rfl)) zS (zX _)) (zE (zK (zL (G_read_plan.mono (by first|decide|omega)) hr (zB (zU zo (pv 0) zF (fun _ _=>rfl)) zD)))) zM) (zC yT (zE yT))),?_⟩;walk_at "wpd";rw[y1B];refine zf (SqL.of hW) (zj (j:=0) rfl) (eqT ⟨_,rfl,fun _=>?_,fun c=>absurd (decide_eq_true rfl) c⟩);exact zf (SqL.of hW) (zj (j:=2) rfl) ⟨ws,false,rfl,hl,ok,hw,fun D xs H' g _ hD hP=>q D xs H' g hD hP⟩
theorem y4u {n:Int} (h:n.natAbs<2^1920):n.natAbs.log2<1920:=by
 by_cases z:n.natAbs=0
 ·rw[z];decide
 ·exact (Nat.log2_lt z).mpr h
theorem y0h {ws us:List T3} {d k x:Int} (h1:KpP ws) (h2:KpP us) (hk:k.natAbs<2^400) (h:NextOf (ka ws us d) k (some x)):x.natAbs.log2<1920:=by
 refine pA fun Gs gP=>?_;obtain⟨⟨u,mu,a1⟩,v,mv,a2⟩:=h.2.1;refine gP ?_;have w1:=h1.1 u mu;have w2:=h2.1 v mv;have s1:=h1.2.1 u mu;have s2:=h2.2.1 v mv;have p1:=w1.1;have p2:=w2.1;refine pA fun Gu gQ=>?_;obtain⟨y,ey,y1,y2,_⟩:=z9A mu mv a1 a2 (L:=u.1*v.1) (Int.mul_pos (by omega) (by omega)) (Int.dvd_mul_right _ _) (Int.dvd_mul_left _ _) h;refine gQ ?_;cases ey;have m:u.1*v.1<=2^900*2^900:=Int.mul_le_mul (by omega) (by omega) (by omega) (by decide +kernel);refine y4u (Nat.lt_trans (m:=2^1801) ?_ (by decide +kernel));have e:(2:Nat)^1801=2^1800+2^1800:=by decide +kernel
 have e4:(2:Nat)^400<2^1800:=by decide +kernel
 have ei:(2:Int)^900*2^900=((2^1800:Nat):Int):=by decide +kernel
 rw[ei] at m;generalize (2:Nat)^1800=B at *
 generalize (2:Nat)^400=B4 at *
 omega
noncomputable def y5V (t:List Nat) (n:Int):Prop:=intText? (tx t)=some n/\t.length<=640/\n.natAbs<2^400
theorem y2I {c:Nat} {r:List Nat}:∀ {p:List Nat},c∉p->(p++c::r).takeWhile (· != c)=p
 | [],_=>by simp
 | x::xs,h=>by
  have ih:=y2I (c:=c) (r:=r) (p:=xs) fun z=>h (List.mem_cons_of_mem _ z);have ne:(x != c)=true:=by simp;exact fun e=>h (by simp [e])
  rw[List.cons_append,List.takeWhile_cons,ne];simp only [if_true];rw[ih]
theorem z8e {w v:List Nat} {ws:List (List Nat)} {f:List Str} (h1:z0H.lookup (tx w)=some f) (hl:ws.length+1=f.length) (h2:32∉w) (h3:∀p∈(v::ws).dropLast,32∉p) (hf:wI f (v::ws)=true):kM (glu 32 (w::v::ws))=some (w::v::ws):=by
 have e1:glu 32 (w::v::ws)=w++32::glu 32 (v::ws):=rfl;have e2:z3o (glu 32 (w::v::ws))=some f:=by
  unfold z3o;rw[e1,y2I h2,h1]
 have e3:jY 32 (glu 32 (w::v::ws)) f.length=w::v::ws:=z5q _ _ (by simp) (by simp;omega) (fun p hp=>by
  rw[List.dropLast_cons_of_ne_nil (by simp)] at hp;rcases List.mem_cons.mp hp with rfl|hp
  ·exact h2
  ·exact h3 p hp) (fun z=>by simp at z;omega)
 unfold kM;rw[e2];show (if (jY 32 (glu 32 (w::v::ws)) f.length).length=f.length+1/\wI f (jY 32 (glu 32 (w::v::ws)) f.length).tail=true then some (jY 32 (glu 32 (w::v::ws)) f.length) else none)=_;rw[e3,if_pos ⟨by simp;omega,hf⟩]
theorem z1r {l:List Nat} (h:nmB l=true):32∉l:=fun z=>by
 unfold nmB at h;rw[Bool.and_eq_true,Bool.and_eq_true,List.all_eq_true] at h;have:=of_decide_eq_true (h.2.2 32 z);omega
theorem y1L {l:List Nat} (h:nmB l=true):l.length<=8/\∀x∈l,x<128:=by
 unfold nmB at h;rw[Bool.and_eq_true,Bool.and_eq_true,List.all_eq_true,decide_eq_true_eq] at h;exact⟨of_decide_eq_true h.2.1,fun x hx=>by have:=of_decide_eq_true (h.2.2 x hx);omega⟩
theorem y2y {n:Int} (h:SgOk n):32∉dg n:=fun z=>by
 have:=h.sg 32 z;omega
theorem z6F {n:Int} (h:SgOk n):∀x∈dg n,x<128:=fun x hx=>by
 have:=h.sg x hx;omega
theorem z2V {l:List Nat}:y2Z "name" l=nmB l:=rfl
theorem y1t {l:List Nat}:y2Z "turn" l=z2k l:=rfl
theorem y1u {l:List Nat}:y2Z "text" l=true:=rfl
theorem z6I {nm t:List Nat} (h:nmB nm=true):kM (glu 32 [qt,nm,t])=some [qt,nm,t]:=
 z8e (f:=["name", "text"]) (by rfl) rfl (by decide) (fun p hp=>by
  have:p=nm:=by simpa [List.dropLast] using hp
  rw[this];exact z1r h) (by simp only [wI,z2V,y1u,h];rfl)
theorem y0v {n1 n2:List Nat} (h1:nmB n1=true) (h2:nmB n2=true):kM (glu 32 [z4g,n1,n2])=some [z4g,n1,n2]:=
 z8e (f:=["name", "name"]) (by rfl) rfl (by decide) (fun p hp=>by
  have:p=n1:=by simpa [List.dropLast] using hp
  rw[this];exact z1r h1) (by simp only [wI,z2V,h1,h2];rfl)
theorem y0w {n1 n2:List Nat} {k1 k2:Int} (h1:nmB n1=true) (h2:nmB n2=true) (hk1:SgOk k1) (hk2:SgOk k2):kM (glu 32 [z0P,n1,n2,dg k1,dg k2])=some [z0P,n1,n2,dg k1,dg k2]:=
 z8e (f:=["name", "name", "turn", "turn"]) (by rfl) rfl (by decide) (fun p hp=>by
  have:p=n1∨p=n2∨p=dg k1:=by simpa [List.dropLast] using hp
  rcases this with rfl|rfl|rfl
  ·exact z1r h1
  ·exact z1r h2
  ·exact y2y hk1) (by simp only [wI,z2V,y1t,h1,h2,hk1.turn,hk2.turn];rfl)
theorem y4w {n:Int} (h0:-(10^60)<=n) (h1:n<=10^60):y5V (dg n) n:=by
 have e:(10:Int)^60<2^400:=by decide +kernel
 have e2:(10:Int)^60<10^100:=by decide +kernel
 have ei:((2^400:Nat):Int)=2^400:=by rw[Int.natCast_pow];rfl
 have s:=y5Y (n:=n) (by omega) (by omega);refine⟨s.rd,by have:=s.len;omega,?_⟩;rw[←ei] at e;generalize (2:Nat)^400=B at *
 omega
noncomputable def vE (K:PySem.W.Frag) (C:Addr):Sp:=fun vs H Q _=>∃(d pd:Addr) (l:List Nat) (n:Nat) (L:z7n),vs=[.ref d,.str (tx l)]/\Dsk C H d pd n L/\n<=1000/\TxOk l/\
  ((∃nm ws,kM l=some [qt,nm,jS ws false]/\(∀u∈ws,WOk u)/\(∀u∈ws,isW u=true)/\KpP ws/\∀H',y6C pd H H'->Dsk C H' d pd (n+1) (y3A L (tx nm) ws)->Q (.str "kept") H')∨
   (∃n1 n2 ws us W,kM l=some [z4g,n1,n2]/\L (tx n1)=some ws/\L (tx n2)=some us/\Sml ws us W/\∀z H',Same H H'->SureA ws us z->Q (.str (tx z)) H')∨
   ∃n1 n2 t1 t2 k1 k2 ws us,kM l=some [z0P,n1,n2,t1,t2]/\y5V t1 k1/\y5V t2 k2/\L (tx n1)=some ws/\L (tx n2)=some us/\∀r H',Same H H'->NextOf (ka ws us k1) k2 r->Q (.str (y5c r)) H')
theorem y1k {C c_NoRow c_NoName:Addr} (X:DkTx K C) (cl_Desk:Cls K C) (T:TM K C "told" "Desk.told" qp) (m_int:mg "int" = none) (G_words_of:HasX P w K mg base 4 "words_of" ["row"] (vD c_NoRow)) (G_told_plan:Has P w K mg base 5 "told_plan" ["words"] (j5 K)) (G_Desk_plan_by:HasMX P w K mg base 1 C "plan_by" ["self", "name"] (z0b K C c_NoName)) (G_sure_answer:Has P w K mg base 21 "sure_answer" ["one", "other"] (z8R K)) (G_turn_answer:Has P w K mg base 1 "turn_answer" ["turn"] qU) (G_next_together:Has P w K mg base 5 "next_together" ["one", "other", "shift", "turn"] (vH K)):HasMX P w K mg base 22 C "told" ["self", "row"] (vE K C):=by
 refine T.hasX xB (fun _ _ _ _ _ _=>L2.bnd2 fun _ _=>rfl) (fun vs H Q E h=>?_) (fun f cdv A outer s H vs Q E hr h=>?_)
 ·refine pA fun Gv gR=>?_;obtain⟨d,pd,l,n,L,rfl,_⟩:=h;refine gR ?_;rfl
 refine pA fun Gw gS=>?_;obtain⟨d,pd,l,n,L,rfl,hk,hn,hl,h⟩:=h;refine gS ?_;refine⟨_,(zC (zR (i:=2) xB.nd rfl (Or.inl rfl) (y3S (G_words_of.mono (by first|decide|omega)) hr y3V (zB (pv 1) zD))) (zC (zi (zN y4p (zU zo (pv 2) zF (fun _ _=>rfl)) (xq (zB zS (zB zS (zB zS zD)))) rfl) (zC (y3I (y3f hr) (xr (pv 0) rfl) (zU zo (pv 2) zF (fun _ _=>rfl)) (zL (G_told_plan.mono (by first|decide|omega)) hr (zB (pv 2) zD)) rfl) (zE (zK zS))) zM) (zC (zi (zN xE (zU zo (pv 2) zF (fun _ _=>rfl)) zS (zX _)) (zE yT) zM) (zC (zR (i:=3) xB.nd rfl (Or.inl rfl) (z6O (zN xE (zU zo (pv 2) zF (fun _ _=>rfl)) zS (zX _)) y5o jZ)) (zC (zR (i:=4) xB.nd rfl (Or.inl rfl) (z8p (pv 0) cl_Desk (G_Desk_plan_by.mono (by first|decide|omega)) hr y3V (zB (zU zo (pv 2) zF (fun _ _=>rfl)) zD))) (zC (zR (i:=5) xB.nd rfl (Or.inl rfl) (z8p (pv 0) cl_Desk (G_Desk_plan_by.mono (by first|decide|omega)) hr y3V (zB (zU zo (pv 2) zF (fun _ _=>rfl)) zD))) (zC (zi (zN xE (zU zo (pv 2) zF (fun _ _=>rfl)) zS (zX _)) (zE (zK (zL (G_turn_answer.mono (by first|decide|omega)) hr (zB (zL (G_next_together.mono (by first|decide|omega)) hr (zB (pv 4) (zB (pv 5) (zB (yA xN rfl m_int (by decide +kernel) (zB (zU zo (pv 2) zF (fun _ _=>rfl)) zD)) (zB (yA xN rfl m_int (by decide +kernel) (zB (zU zo (pv 2) zF (fun _ _=>rfl)) zD)) zD))))) zD)))) zM) (zC (zi (zN xE (zU zo (pv 2) zF (fun _ _=>rfl)) zS (zX _)) (zE (zK (zL (G_sure_answer.mono (by first|decide|omega)) hr (zB (pv 4) (zB (pv 5) zD))))) zM) (zC yT (zE yT)))))))))),?_⟩;walk_at "wpd";rw[y0U,y0O,y1T,y0m];rcases h with⟨nm,vs,er,wok,hwk,kp,q⟩|⟨n1,n2,vs,us,W,er,e1,e2,sm,q⟩|⟨n1,n2,t1,t2,k1,k2,vs,us,er,hk1,hk2,e1,e2,q⟩
 ·refine⟨l,rfl,hl,(fun e=>by rw[er] at e;cases e),fun ws D H1 e g1 nD hD=>?_⟩;rw[er] at e;cases e;refine zf (SqL.of hD) (zj (j:=0) rfl) fun p np=>?_;have gp:=zJ np (.tup (PPG.map V.str));refine⟨tx qt,p,PPG,rfl,rfl,SqT.of zH,fun _=>?_,fun c=>absurd (by decide +kernel) c⟩;have hD2:=gp _ _ hD;have G2:=g1.trans gp;change j5 K [V.ref D] (upd H1 p (.tup (PPG.map V.str))) _ _;generalize upd H1 p (.tup (PPG.map V.str))=H2 at gp hD2 G2 ⊢;refine⟨D,nm,vs,rfl,hD2,kp.2.2,wok,hwk,fun F xs H3 g3 hF hP=>?_⟩;have G3:=G2.trans g3;refine pA fun Gx gU=>?_;obtain⟨⟨dx,hd⟩,kvs,hp,hlk,hb⟩:=hk.same G3;refine gU ?_;refine⟨d,C,dx,_,.ref pd,rfl,hd,X.cl,X.nP,rfl,zf (SqL.of (g3 _ _ hD2)) (zj (j:=1) rfl) ⟨pd,_,rfl,DPut.k (k:=.inr (tx nm)) hp (by rw[sizeLine_eq];omega),q _ (fun b o hb e=>by rw[za hb];exact G3 b o e) ⟨⟨dx,by rw[za (wC hd hp (by intro z;cases z))];exact hd⟩,_,zH,?_,?_⟩⟩⟩
  ·have:=qw kvs (Sum.inr (tx nm)) (.ref F);omega
  ·exact (hb.put kp hF hP).by (fun b ys e=>by rw[za (wC e hp (by intro z;cases z))];exact e) fun b ys e=>by rw[za (wC e hp (by intro z;cases z))];exact e
 ·refine⟨l,rfl,hl,(fun e=>by rw[er] at e;cases e),fun ws' D H1 e g1 nD hD=>?_⟩;rw[er] at e;cases e;refine zf (SqL.of hD) (zj (j:=0) rfl) fun p np=>?_;have gp:=zJ np (.tup (PPG.map V.str));refine⟨tx z4g,p,PPG,rfl,rfl,SqT.of zH,(fun c=>absurd c (by decide +kernel)),fun _=>?_⟩;have hD2:=gp _ _ hD;have G2:=g1.trans gp;change y4c K (V.ref D) (V.int 0) (upd H1 p (.tup (PPG.map V.str))) _;generalize upd H1 p (.tup (PPG.map V.str))=H2 at gp hD2 G2 ⊢;refine pA fun Gy gW=>?_;obtain⟨⟨dx,hd⟩,_⟩:=hk.same G2;refine gW ?_;refine zf (SqL.of hD2) (zj (j:=0) rfl) (eqT ⟨_,rfl,(fun c=>absurd c (by decide)),fun _=>?_⟩);refine zf (SqL.of hD2) (zj (j:=0) rfl) (eqT ⟨_,rfl,(fun c=>absurd c (by decide)),fun _=>⟨d,dx,_,rfl,hd,y1F _,zf (SqL.of hD2) (zj (j:=1) rfl) ⟨d,pd,tx n1,n,L,rfl,hk.same G2,(fun e=>by rw[e1] at e;cases e),fun ws' F xs e kp hF hP=>?_⟩⟩⟩);rw[e1] at e;cases e;refine⟨d,dx,_,rfl,hd,y1F _,zf (SqL.of hD2) (zj (j:=2) rfl) ⟨d,pd,tx n2,n,L,rfl,hk.same G2,(fun e=>by rw[e2] at e;cases e),fun us' F2 ys e kp2 hF2 hP2=>?_⟩⟩;rw[e2] at e;cases e;refine zf (SqL.of hD2) (zj (j:=0) rfl) (eqT ⟨_,rfl,(fun c=>absurd c (by decide)),fun _=>?_⟩);refine zf (SqL.of hD2) (zj (j:=0) rfl) (eqT ⟨_,rfl,fun _=>?_,fun c=>absurd (decide_eq_true rfl) c⟩);exact⟨F,F2,xs,ys,vs,us,W,rfl,hF,hP,hF2,hP2,sm,fun z H3 g3 hz=>q z H3 (G2.trans g3) hz⟩
 ·refine⟨l,rfl,hl,(fun e=>by rw[er] at e;cases e),fun ws' D H1 e g1 nD hD=>?_⟩;rw[er] at e;cases e;refine zf (SqL.of hD) (zj (j:=0) rfl) fun p np=>?_;have gp:=zJ np (.tup (PPG.map V.str));refine⟨tx z0P,p,PPG,rfl,rfl,SqT.of zH,(fun c=>absurd c (by decide +kernel)),fun _=>?_⟩;have hD2:=gp _ _ hD;have G2:=g1.trans gp;change y4c K (V.ref D) (V.int 0) (upd H1 p (.tup (PPG.map V.str))) _;generalize upd H1 p (.tup (PPG.map V.str))=H2 at gp hD2 G2 ⊢;refine pA fun Gz gX=>?_;obtain⟨⟨dx,hd⟩,_⟩:=hk.same G2;refine gX ?_;refine zf (SqL.of hD2) (zj (j:=0) rfl) (eqT ⟨_,rfl,(fun c=>absurd c (by decide)),fun _=>?_⟩);refine zf (SqL.of hD2) (zj (j:=0) rfl) (eqT ⟨_,rfl,(fun c=>absurd c (by decide)),fun _=>⟨d,dx,_,rfl,hd,y1F _,zf (SqL.of hD2) (zj (j:=1) rfl) ⟨d,pd,tx n1,n,L,rfl,hk.same G2,(fun e=>by rw[e1] at e;cases e),fun ws' F xs e kp hF hP=>?_⟩⟩⟩);rw[e1] at e;cases e;refine⟨d,dx,_,rfl,hd,y1F _,zf (SqL.of hD2) (zj (j:=2) rfl) ⟨d,pd,tx n2,n,L,rfl,hk.same G2,(fun e=>by rw[e2] at e;cases e),fun us' F2 ys e kp2 hF2 hP2=>?_⟩⟩;rw[e2] at e;cases e;refine zf (SqL.of hD2) (zj (j:=0) rfl) (eqT ⟨_,rfl,fun _=>?_,fun c=>absurd (decide_eq_true rfl) c⟩);refine zf (SqL.of hD2) (zj (j:=3) rfl) ⟨_,k1,rfl,hk1.1,by rw[zP];exact hk1.2.1,zf (SqL.of hD2) (zj (j:=4) rfl) ⟨_,k2,rfl,hk2.1,by rw[zP];exact hk2.2.1,F,F2,xs,ys,vs,us,k1,k2,rfl,SqL.of hF,hP,SqL.of hF2,hP2,kp.1,kp2.1,kp.2.1,kp2.2.1,by have:=kp.2.2;omega,by have:=kp2.2.2;omega,fun r H3 g3 hr=>⟨r,rfl,fun m z=>?_,q r H3 (G2.trans g3) hr⟩⟩⟩;subst z;exact y0h kp kp2 hk2.2.2 hr
theorem y0M {σ:St} {H:Hp} {Q:VK} {K:PySem.W.Frag} {a:Addr} {xs:List V} {g:TG} {tt:TT} {te:TE} {own:List Str} {fr:List Nat} (Sv:St->Prop) (Pv:Addr->Nat->List V->Hp->Prop) (hS:Sv (st0 own fr σ))
  (h0:∀D,H D=none->Pv D 0 [] (upd H D (.lst []))) (hl:∀D i ys H',H' D=some (.lst ys)->Pv D i ys H'->SqT K H' a xs)
  (hs:∀D i x ys σ H',xs[i]?=some x->i<xs.length->Sv σ->H' D=some (.lst ys)->ys.length<=i->Pv D i ys H'->g x σ H' fun σ2 H2=>tt σ2 H2 fun b H3=>if b=true then te σ2 H3 fun y H4=>CompP Sv Pv D i σ2 y H4 else qR Sv Pv D (i+1) σ2 H3)
  (hd:∀D ys H',H' D=some (.lst ys)->Pv D xs.length ys H'->Q (.ref D) H'):kC (Itt K a) g tt te own fr σ H Q:=by
 intro D hD;refine⟨fun i m σ H=>m=xs.length-i/\i<=xs.length/\qR Sv Pv D i σ H,⟨_,rfl,Nat.zero_le _,hS,[],zH,Nat.le_refl _,h0 D hD⟩,?_⟩;rintro i m σ1 H1 ⟨rfl,hi,hs1,ys,hy,hy2,p⟩;have q:=hl D i ys H1 hy p;by_cases hlt:i<xs.length
 ·refine .inr ⟨⟨xs,xs[i],q,by simp [hlt]⟩,qR Sv Pv D (i+1),fun σ' H' p'=>⟨xs.length-(i+1),by omega,rfl,hlt,p'⟩,fun x H' y=>?_⟩;obtain⟨e,y⟩:=y;subst e;exact hs D i x ys σ1 _ (y xs q) hlt hs1 hy hy2 p
 ·have e:i=xs.length:=by omega
  subst e;exact .inl ⟨⟨xs,q,Nat.le_refl _⟩,hd D ys H1 hy p⟩
theorem y1P {X:Cx} {K:PySem.W.Frag} (hK:X.K=K):MtR X "str.join" (fun x vs H Q=>∃(sep:Str) (a:Addr) (ys:List Str),x=.str sep/\vs=[.ref a]/\SqL K H a (ys.map V.str)/\ys.toArray.foldl (· + ·.length+sep.length) 0<=sizeLine/\(Builtin.Str.glued sep ys).length<=sizeLine/\Q (.str (Builtin.Str.glued sep ys)) H):=by
 subst hK;exact z4y
theorem z3J {α β:Type} (ws:List α) (d:α) (f:α->β):(List.range ws.length).map (fun j=>f (ws.getD j d))=ws.map f:=by
 apply List.ext_getElem?;intro i;rw[List.getElem?_map,List.getElem?_map];by_cases c:i<ws.length
 ·rw[List.getElem?_range c,List.getElem?_eq_getElem c];show some (f (ws.getD i d))=some (f ws[i]);rw[List.getD_eq_getElem?_getD,List.getElem?_eq_getElem c];rfl
 ·rw[List.getElem?_eq_none (by rw[List.length_range];omega),List.getElem?_eq_none (by omega)];rfl
theorem y3x {lo:Int} {n:Nat} {te:TE} {own:List Str} {fr:List Nat} {σ:St} {H:Hp} {Q:VK} {rest:St} (f:Nat->V) (hst:st0 own fr σ=none::rest) (hn:n<=1000000)
  (hte:∀(j:Nat) (H2:Hp) (R:VK),j<n->Same H H2->(∀H3,Same H2 H3->R (f j) H3)->te (some (.int (lo+(j:Int)))::rest) H2 R) (hq:∀D H',Same H H'->H D=none->H' D=some (.lst ((List.range n).map f))->Q (.ref D) H'):kC (Itr lo n) (jW 0) z2m te own fr σ H Q:=by
 obtain⟨Sv,hSv⟩:∃Sv:St->Prop,Sv=fun σ=>∃o,σ=o::rest:=⟨_,rfl⟩
 obtain⟨Pv,hPv⟩:∃Pv:Addr->Nat->List V->Hp->Prop,Pv=fun D i ys H2=>H D=none/\Same H H2/\ys=(List.range i).map f:=⟨_,rfl⟩
 refine qz Sv Pv (by rw[hSv,hst];exact⟨none,rfl⟩) (fun D hD=>?_) (fun D j ys σ H2 hj hs hD hy h=>?_) (fun D ys H2 hD h=>?_)
 ·rw[hPv];exact⟨hD,zJ hD _,rfl⟩
 ·rw[hSv] at hs;rw[hPv] at h;obtain⟨o,rfl⟩:=hs;refine pA fun G0 gZ=>?_;obtain⟨nD,g,rfl⟩:=h;refine gZ ?_;walk_at "wp";refine hte j H2 _ hj g fun H3 g3=>CompP.mk (g3 _ _ hD) hy (by rw[sizeLine_eq];omega) (by rw[hSv];exact⟨_,rfl⟩) (by
   rw[hPv];refine⟨nD,(g.trans g3).write nD _,?_⟩;rw[List.range_succ,List.map_append];rfl)
 ·rw[hPv] at h;refine pA fun Ga hC=>?_;obtain⟨nD,g,rfl⟩:=h;refine hC ?_;exact hq D H2 g nD hD
theorem y3w {lo c:Int} {n:Nat} {te:TE} {own:List Str} {fr:List Nat} {σ:St} {H:Hp} {Q:VK} {rest:St} (f:Nat->V) (hst:st0 own fr σ=none::rest) (hn:n<=1000000)
  (hte:∀(j:Nat) (H2:Hp) (R:VK),j<n->Same H H2->(∀H3,Same H2 H3->R (f j) H3)->te (some (.int (lo+(j:Int)*c))::rest) H2 R) (hq:∀D H',Same H H'->H D=none->H' D=some (.lst ((List.range n).map f))->Q (.ref D) H'):kC (Its lo c n) (jW 0) z2m te own fr σ H Q:=by
 obtain⟨Sv,hSv⟩:∃Sv:St->Prop,Sv=fun σ=>∃o,σ=o::rest:=⟨_,rfl⟩
 obtain⟨Pv,hPv⟩:∃Pv:Addr->Nat->List V->Hp->Prop,Pv=fun D i ys H2=>H D=none/\Same H H2/\ys=(List.range i).map f:=⟨_,rfl⟩
 refine z3t Sv Pv (by rw[hSv,hst];exact⟨none,rfl⟩) (fun D hD=>?_) (fun D j ys σ H2 hj hs hD hy h=>?_) (fun D ys H2 hD h=>?_)
 ·rw[hPv];exact⟨hD,zJ hD _,rfl⟩
 ·rw[hSv] at hs;rw[hPv] at h;obtain⟨o,rfl⟩:=hs;refine pA fun Gb hJ=>?_;obtain⟨nD,g,rfl⟩:=h;refine hJ ?_;walk_at "wp";refine hte j H2 _ hj g fun H3 g3=>CompP.mk (g3 _ _ hD) hy (by rw[sizeLine_eq];omega) (by rw[hSv];exact⟨_,rfl⟩) (by
   rw[hPv];refine⟨nD,(g.trans g3).write nD _,?_⟩;rw[List.range_succ,List.map_append];rfl)
 ·rw[hPv] at h;refine pA fun Gc hU=>?_;obtain⟨nD,g,rfl⟩:=h;refine hU ?_;exact hq D H2 g nD hD
theorem y0L {a:Addr} {xs:List V} {te:TE} {own:List Str} {fr:List Nat} {σ:St} {H:Hp} {Q:VK} {rest:St} (f:Nat->V) (hst:st0 own fr σ=none::rest) (hS:SqL K H a xs) (hn:xs.length<=1000000)
  (hte:∀(j:Nat) (x:V) (H2:Hp) (R:VK),xs[j]?=some x->Same H H2->(∀H3,Same H2 H3->R (f j) H3)->te (some x::rest) H2 R) (hq:∀D H',Same H H'->H D=none->H' D=some (.lst ((List.range xs.length).map f))->Q (.ref D) H'):kC (Itl K a) (jW 0) z2m te own fr σ H Q:=by
 obtain⟨Sv,hSv⟩:∃Sv:St->Prop,Sv=fun σ=>∃o,σ=o::rest:=⟨_,rfl⟩
 obtain⟨Pv,hPv⟩:∃Pv:Addr->Nat->List V->Hp->Prop,Pv=fun D i ys H2=>H D=none/\Same H H2/\ys=(List.range i).map f:=⟨_,rfl⟩
 refine yL (xs:=xs) Sv Pv (by rw[hSv,hst];exact⟨none,rfl⟩) (fun D hD=>?_) (fun D i ys H2 hD h=>?_) (fun D j x ys σ H2 hx hi hs hD hy h=>?_) (fun D ys H2 hD h=>?_)
 ·rw[hPv];exact⟨hD,zJ hD _,rfl⟩
 ·rw[hPv] at h;exact h.2.1.seq hS
 ·rw[hSv] at hs;rw[hPv] at h;obtain⟨o,rfl⟩:=hs;refine pA fun Ge hV=>?_;obtain⟨nD,g,rfl⟩:=h;refine hV ?_;walk_at "wp";refine hte j x H2 _ hx g fun H3 g3=>CompP.mk (g3 _ _ hD) hy (by rw[sizeLine_eq];omega) (by rw[hSv];exact⟨_,rfl⟩) (by
   rw[hPv];refine⟨nD,(g.trans g3).write nD _,?_⟩;rw[List.range_succ,List.map_append];rfl)
 ·rw[hPv] at h;refine pA fun Gf gC=>?_;obtain⟨nD,g,rfl⟩:=h;refine gC ?_;exact hq D H2 g nD hD
theorem y3v {a:Addr} {xs:List V} {te:TE} {own:List Str} {fr:List Nat} {σ:St} {H:Hp} {Q:VK} {rest:St} (f:Nat->V) (hst:st0 own fr σ=none::rest) (hS:SqT K H a xs) (hn:xs.length<=1000000)
  (hte:∀(j:Nat) (x:V) (H2:Hp) (R:VK),xs[j]?=some x->Same H H2->(∀H3,Same H2 H3->R (f j) H3)->te (some x::rest) H2 R) (hq:∀D H',Same H H'->H D=none->H' D=some (.lst ((List.range xs.length).map f))->Q (.ref D) H'):kC (Itt K a) (jW 0) z2m te own fr σ H Q:=by
 obtain⟨Sv,hSv⟩:∃Sv:St->Prop,Sv=fun σ=>∃o,σ=o::rest:=⟨_,rfl⟩
 obtain⟨Pv,hPv⟩:∃Pv:Addr->Nat->List V->Hp->Prop,Pv=fun D i ys H2=>H D=none/\Same H H2/\ys=(List.range i).map f:=⟨_,rfl⟩
 refine y0M (xs:=xs) Sv Pv (by rw[hSv,hst];exact⟨none,rfl⟩) (fun D hD=>?_) (fun D i ys H2 hD h=>?_) (fun D j x ys σ H2 hx hi hs hD hy h=>?_) (fun D ys H2 hD h=>?_)
 ·rw[hPv];exact⟨hD,zJ hD _,rfl⟩
 ·rw[hPv] at h;exact Same.seqT h.2.1 hS
 ·rw[hSv] at hs;rw[hPv] at h;obtain⟨o,rfl⟩:=hs;refine pA fun Gg gE=>?_;obtain⟨nD,g,rfl⟩:=h;refine gE ?_;walk_at "wp";refine hte j x H2 _ hx g fun H3 g3=>CompP.mk (g3 _ _ hD) hy (by rw[sizeLine_eq];omega) (by rw[hSv];exact⟨_,rfl⟩) (by
   rw[hPv];refine⟨nD,(g.trans g3).write nD _,?_⟩;rw[List.range_succ,List.map_append];rfl)
 ·rw[hPv] at h;refine pA fun Gh gF=>?_;obtain⟨nD,g,rfl⟩:=h;refine gF ?_;exact hq D H2 g nD hD
theorem y3y {lo:Int} {n:Nat} {tt:TT} {own:List Str} {fr:List Nat} {σ:St} {H:Hp} {Q:VK} {rest:St} (f:Int->Bool) (hst:st0 own fr σ=none::rest) (hn:n<=1000000)
  (htt:∀(j:Nat) (H2:Hp) (R:Bool->Hp->Prop),j<n->Same H H2->R (f (lo+(j:Int))) H2->tt (some (.int (lo+(j:Int)))::rest) H2 R) (hq:∀D H',Same H H'->H D=none->H' D=some (.lst ((((List.range n).map fun j:Nat=>lo+(j:Int)).filter f).map V.int))->Q (.ref D) H'):kC (Itr lo n) (jW 0) tt (z5l 0) own fr σ H Q:=by
 obtain⟨Sv,hSv⟩:∃Sv:St->Prop,Sv=fun σ=>∃o,σ=o::rest:=⟨_,rfl⟩
 obtain⟨Pv,hPv⟩:∃Pv:Addr->Nat->List V->Hp->Prop,Pv=fun D i ys H2=>H D=none/\Same H H2/\ys=(((List.range i).map fun j:Nat=>lo+(j:Int)).filter f).map V.int:=⟨_,rfl⟩
 refine qz Sv Pv (by rw[hSv,hst];exact⟨none,rfl⟩) (fun D hD=>?_) (fun D j ys σ H2 hj hs hD hy h=>?_) (fun D ys H2 hD h=>?_)
 ·rw[hPv];exact⟨hD,zJ hD _,rfl⟩
 ·rw[hSv] at hs;rw[hPv] at h;obtain⟨o,rfl⟩:=hs;refine pA fun Gi gG=>?_;obtain⟨nD,g,rfl⟩:=h;refine gG ?_;walk_at "wp";refine htt j H2 _ hj g ?_;cases e:f (lo+(j:Int)) with
  | true=>
   refine⟨fun _=>CompP.mk hD hy (by rw[sizeLine_eq];omega) (by rw[hSv];exact⟨_,rfl⟩) (by
    rw[hPv];refine⟨nD,g.write nD _,?_⟩;rw[List.range_succ,List.map_append,List.filter_append];simp [e]),fun c=>absurd rfl c⟩
  | false=>
   refine⟨fun c=>(nomatch c),fun _=>⟨by rw[hSv];exact⟨_,rfl⟩,_,hD,by omega,?_⟩⟩;rw[hPv];refine⟨nD,g,?_⟩;rw[List.range_succ,List.map_append,List.filter_append];simp [e]
 ·rw[hPv] at h;refine pA fun Gj gH=>?_;obtain⟨nD,g,rfl⟩:=h;refine gH ?_;exact hq D H2 g nD hD
noncomputable def z5z (K:PySem.W.Frag):Sp:=fun vs H Q _=>∃(a:Addr) (ns:List Int) (at_ wh:Int),vs=[.ref a,.int at_,.int wh]/\SqL K H a (ns.map V.int)/\0<=at_/\at_<=100/\1<=wh/\wh<=30/\∀(D:Addr) (xs:List V) (ws:List T3) (H':Hp),Same H H'->H' D=some (.lst xs)->Pl H' xs ws->(∀u∈ws,Wk u)->(∀u∈ws,u.1∣wh)->1<=ws.length->ws.length<=3->Q (.ref D) H'
theorem z7b (T:TF K mg "_law_plan" kq) (m_len:mg "len" = none) (m_range:mg "range" = none) (G_law_cell_at:Has P w K mg base 1 "_law_cell_at" ["script", "k"] (qC K)):Has P w K mg base 2 "_law_plan" ["script", "at", "whole"] (z5z K):=by
 refine T.has yg (fun _ _ _ _ _ _=>L2.bnd3 fun _ _ _=>rfl) (fun vs H Q E h=>?_) (fun f cdv A outer s H vs Q E hr h=>?_)
 ·refine pA fun Gk gI=>?_;obtain⟨a,ns,at_,wh,rfl,_⟩:=h;refine gI ?_;rfl
 refine pA fun Gm gJ=>?_;obtain⟨a,ns,at_,wh,rfl,hS,a0,a1,w0,w1,q⟩:=h;refine gJ ?_;refine⟨_,(zC (zR (i:=3) yg.nd rfl (Or.inl rfl) (yq zD)) (zC (qH (i:=5) yg.nd rfl (Or.inl rfl) (CompSc.capt (own:=["k"]) (capt:=["whole"]) (fr:=[2]) rfl ⟨rfl,rfl,rfl,rfl,rfl,trivial⟩ (by decide +kernel) (by decide +kernel) rfl (by decide +kernel)) rfl (z8n rfl m_range (zB zF (zB (zW ye (pv 2) zF) zD))) (fun _ _ _=>(zQ (i:=0) (show (["k", "whole"]:List Str).Nodup from by decide +kernel) rfl (Or.inl rfl) (Or.inr rfl))) (fun _ _ _=>z4w (zN xE (zW yE (pv 1) (pv 0)) zF (zX _))) (fun _ _ _=>(pv 0))) (zC (y6 PassesOwn.never rfl (xX rfl m_range (zB (zW ye zF (zW yE (zL (G_law_cell_at.mono (by first|decide|omega)) hr (zB (pv 0) (zB (pv 1) zD))) zF)) zD)) (zQ (i:=4) yg.nd rfl (Or.inl rfl)) (zC (zR (i:=6) yg.nd rfl (Or.inl rfl) (zL (G_law_cell_at.mono (by first|decide|omega)) hr (zB (pv 0) (zB (zW ye (zW ye (pv 1) zF) (pv 4)) zD)))) (zC (zR (i:=7) yg.nd rfl (Or.inl rfl) (zU zo (pv 5) (zW yE (pv 6) (zY zc rfl m_len PySem.boot_len (zB (pv 5) zD))) (fun _ _=>rfl))) (zC (zR (i:=8) yg.nd rfl (Or.inl rfl) (zW ye zF (zW yE (zW yE (zW yz (pv 6) zF) (zU zo (yq (zB zF (zB zF (zB (pv 7) zD)))) (zW yE (zW yz (pv 6) zF) zF) (fun _ _=>rfl))) (pv 7)))) (zE (yt (xn PySem.F.plainAttrs_list PySem.F.slot_list_append PySem.F.type_list_append yn (pv 3) (zB (xq (zB (pv 7) (zB (zW yE (zW yz (pv 6) zF) (pv 7)) (zB (pv 8) zD)))) zD)))))))) (zE (zK (pv 3)))))),?_⟩;walk_at "wpd";intro D nD;have gD:=zJ nD (.lst []);have hD:=zH (H:=H) (a:=D) (o:=.lst []);generalize upd H D (.lst [])=H1 at gD hD ⊢;refine⟨1,_,rfl,⟨by decide,by decide,by omega,by omega⟩,?_⟩;refine y3y (rest:=[some (.int wh)]) (fun k=>decide (wh%k=0)) rfl (by omega) (fun j H2 R hj g hR=>?_) fun D2 H2 g2 nD2 hD2=>?_
 ·walk_at "wpd";exact⟨by omega,hR⟩
 have hzs:∀z∈(((List.range (wh+1-1).toNat).map fun j:Nat=>(1:Int)+(j:Int)).filter fun k=>decide (wh%k=0)),1<=z/\z<=30/\z∣wh:=fun z hz=>by
  obtain⟨h1,h2⟩:=List.mem_filter.mp hz;refine pA fun Gn gK=>?_;obtain⟨j,hj,rfl⟩:=List.mem_map.mp h1;refine gK ?_;have:=List.mem_range.mp hj;exact⟨by omega,by omega,Int.dvd_of_emod_eq_zero (of_decide_eq_true h2)⟩
 have hne:0<(((List.range (wh+1-1).toNat).map fun j:Nat=>(1:Int)+(j:Int)).filter fun k=>decide (wh%k=0)).length:=by
  apply List.length_pos_of_mem (a:=1);refine List.mem_filter.mpr ⟨List.mem_map.mpr ⟨0,List.mem_range.mpr (by omega),rfl⟩,?_⟩;simp
 have hle:(((List.range (wh+1-1).toNat).map fun j:Nat=>(1:Int)+(j:Int)).filter fun k=>decide (wh%k=0)).length<=30:=Nat.le_trans (List.length_filter_le _ _) (by rw[List.length_map,List.length_range];omega);generalize (((List.range (wh+1-1).toNat).map fun j:Nat=>(1:Int)+(j:Int)).filter fun k=>decide (wh%k=0))=zs at *
 have hD':=g2 _ _ hD;have g12:=gD.trans g2;refine⟨a,ns,at_,rfl,g12.seq hS,a0,?_⟩;have n3:=y2T (ns.getD at_.toNat 0) (show (0:Int)<3 by decide);walk_at "wpd";refine⟨by decide,_,rfl,by omega,by omega,?_⟩;obtain⟨W,hW⟩:∃W:Nat->St->Hp->Prop,W=fun i σ H3=>∃(o1 o2 o3 o4:Option V) (xs:List V) (ws:List T3),σ=[some (.ref a),some (.int at_),some (.int wh),some (.ref D),o1,some (.ref D2),o2,o3,o4]/\Same H H3/\H3 D=some (.lst xs)/\H3 D2=some (.lst (zs.map V.int))/\Pl H3 xs ws/\ws.length=i/\(∀u∈ws,Wk u)/\∀u∈ws,u.1∣wh:=⟨_,rfl⟩
 refine xx W ?_ (fun i σ H3 hi z=>?_) (fun σ H3 z=>?_)
 ·rw[hW];exact⟨none,none,none,none,[],[],rfl,g12,hD',hD2,.nil,rfl,(fun u h=>nomatch h),fun u h=>nomatch h⟩
 ·rw[hW] at z;refine pA fun Go gL=>?_;obtain⟨o1,o2,o3,o4,xs,ws,rfl,g,hD3,hD4,hP,hl,hw,hd⟩:=z;refine gL ?_;have e0:(0:Int)+(i:Int)=i:=by omega
  rw[e0];walk_at "wpd";refine⟨a,ns,_,rfl,g.seq hS,by omega,?_⟩;generalize ns.getD (at_+1+(i:Int)).toNat 0=c;refine⟨D2,_,rfl,.inl (SqL.of hD4),?_⟩;walk_at "wpd";rw[List.length_map];have zb:=y2T c (show (0:Int)<zs.length by omega);refine⟨by omega,?_⟩;have pz:=wq (Pz:=fun z=>1<=z/\z<=30/\z∣wh) hzs (i:=(c%(zs.length:Int)).toNat) (by omega);refine zf (SqL.of hD4) (xg zb.1 (by omega)) ?_;generalize zs.getD (c%(zs.length:Int)).toNat 0=per at pz ⊢;have c3:=y2T (c/100) (show (0:Int)<3 by decide);refine⟨y0b 10 (by decide) (by decide) (by decide),fun p np=>⟨y0b 10 (by decide) (by decide) (by decide),by decide,?_⟩⟩;have gp:=zJ np (.lst ([1,2,per].map V.int));have hp:=zH (H:=H3) (a:=p) (o:=.lst ([1,2,per].map V.int));have pl:=wq (Pz:=fun z=>1<=z) (zs:=[1,2,per]) (i:=(c/100%3).toNat) (by
   intro z hz;simp only [List.mem_cons,List.not_mem_nil,or_false] at hz;rcases hz with rfl|rfl|rfl <;> omega) (by simp;omega)
  refine zf (SqL.of hp) (xg (zs:=[1,2,per]) c3.1 (by simp;omega)) ?_;change rI _ _ _ _ (upd H3 p (.lst ([1,2,per].map V.int))) _;generalize upd H3 p (.lst ([1,2,per].map V.int))=H4 at gp hp ⊢;generalize List.getD [1,2,per] (c/100%3).toNat 0=pp at pl ⊢;have f1:=y2T (c/1000%pp) (show 0<per by omega);have f2:=y2T (c/10000) (show 0<per by omega);refine⟨_,_,rfl,rfl,by show (0:Int)<pp;omega,?_⟩;walk_at "wpd";have hD5:=gp _ _ hD3;refine⟨by omega,.inl ⟨rfl,_,SqL.of hD5⟩,y0b 20 (by decide) (by decide) (by decide),by omega,fun p2 np2=>?_⟩;have gq:=zJ np2 (.tup [.int per,.int (c/10000%per),.int (1+c/1000%pp%per)]);refine⟨D,xs,_,rfl,rfl,gq _ _ hD5,by rw[sizeLine_eq,hP.1];omega,?_⟩;rw[hW];have G:=gp.trans gq;refine⟨_,_,_,_,_,ws++[(per,c/10000%per,1+c/1000%pp%per)],rfl,(g.trans G).write nD _,zH,?_,((hP.same G).snoc zH).upd (G _ _ hD3),by simp [hl],fun v hv=>?_,fun v hv=>?_⟩
  ·rw[za (fun e=>?_)]
   ·exact G _ _ hD4
   ·rw[e] at nD2;rw[hD] at nD2;cases nD2
  ·rcases List.mem_append.mp hv with z|z
   ·exact hw v z
   ·rw[List.mem_singleton.mp z];exact⟨by show 1<=per;omega,f2.1,f2.2,by show 1<=1+c/1000%pp%per;omega,by show 1+c/1000%pp%per<=per;omega⟩
  ·rcases List.mem_append.mp hv with z|z
   ·exact hd v z
   ·rw[List.mem_singleton.mp z];exact pz.2.2
 rw[hW] at z;refine pA fun Gp gM=>?_;obtain⟨o1,o2,o3,o4,xs,ws,rfl,g,hD3,hD4,hP,hl,hw,hd⟩:=z;refine gM ?_;walk_at "wpd";exact q D xs ws H3 g hD3 hP hw hd (by omega) (by omega)
noncomputable def wtx (u:T3):List Nat:=glu 58 [dg u.1,dg u.2.1,dg u.2.2]
noncomputable def z5x (K:PySem.W.Frag):Sp:=fun vs H Q _=>∃(a:Addr) (xs:List V) (ws:List T3),vs=[.ref a]/\SqL K H a xs/\Pl H xs ws/\(∀u∈ws,Wk u)/\(∀u∈ws,u.1<=30)/\ws≠[]/\ws.length<=12/\∀H',Same H H'->Q (.str (tx (glu 32 (ws.map wtx)))) H'
theorem z7Z (T:TF K mg "_law_text" km) (m_str:mg "str" = none):Has P w K mg base 1 "_law_text" ["plan"] (z5x K):=by
 refine T.has z4n (fun _ _ _ _ _ _=>L2.bnd1 fun _=>rfl) (fun vs H Q E h=>?_) (fun f cdv A outer s H vs Q E hr h=>?_)
 ·refine pA fun Gq gN=>?_;obtain⟨a,xs,ws,rfl,_⟩:=h;refine gN ?_;rfl
 refine pA fun Gr gO=>?_;obtain⟨a,xs,ws,rfl,hS,hP,hw,h30,wne,hl,q⟩:=h;refine gO ?_;refine⟨_,(zE (zK (xn PySem.F.plainAttrs_str PySem.F.slot_str_join PySem.F.type_str_join z4y zS (zB (ya (CompSc.none (own:=["waking"]) (by decide +kernel) (by decide +kernel) rfl (by decide +kernel)) rfl (yC (pv 0)) (fun _ _ _=>(zQ (i:=0) (show (["waking"]:List Str).Nodup from by decide +kernel) rfl (Or.inl rfl) (Or.inr rfl))) (fun _ _ _=>yX) (fun _ _ _=>(show PE _ _ (tBM K "str" _ _ _) from (xn PySem.F.plainAttrs_str PySem.F.slot_str_join PySem.F.type_str_join (y1P (K:=K) rfl) zS (zB (ya (CompSc.none (own:=["number"]) (by decide +kernel) (by decide +kernel) rfl (by decide +kernel)) rfl (show PI _ _ _ (y5r K _) from y2R (pv 0)) (fun _ _ _=>(zQ (i:=0) (show (["number"]:List Str).Nodup from by decide +kernel) rfl (Or.inl rfl) (Or.inr rfl))) (fun _ _ _=>yX) (fun _ _ _=>(yA yN rfl m_str (by decide +kernel) (zB (pv 0) zD)))) zD))))) zD)))),?_⟩;walk_at "wpd";have lx:=hP.1;have e100:(30:Int)<10^100:=by decide +kernel
 have ok:∀u∈ws,∀z∈[u.1,u.2.1,u.2.2],DgOk z:=fun u hu z hz=>by
  refine pA fun Gs gP=>?_;obtain⟨a1,a2,a3,a4,a5⟩:=hw u hu;refine gP ?_;have:=h30 u hu;simp only [List.mem_cons,List.not_mem_nil,or_false] at hz;rcases hz with rfl|rfl|rfl <;> exact z7f (by omega) (by omega)
 have wl:∀u∈ws,(wtx u).length<=303:=fun u hu=>by
  have l1:=(ok u hu u.1 (by simp)).len;have l2:=(ok u hu u.2.1 (by simp)).len;have l3:=(ok u hu u.2.2 (by simp)).len;unfold wtx;simp [glu];omega
 refine⟨rfl,⟨_,hS⟩,y0L (rest:=[]) (fun j=>.str (tx (wtx (ws.getD j (1,0,1))))) rfl hS (by omega) (fun j x H2 R hx g hR=>?_) fun D H2 g nD hD=>?_⟩
 ·refine pA fun Gu gQ=>?_;obtain⟨p,u,e1,rfl,e3⟩:=hP.at hx;refine gQ ?_;have mu:=List.mem_of_getElem? e1;have hT:SqT K H2 p ([u.1,u.2.1,u.2.2].map V.int):=SqT.of (g _ _ e3);have eu:ws.getD j (1,0,1)=u:=by rw[List.getD_eq_getElem?_getD,e1];rfl
  rw[eu] at hR;walk_at "wpd";refine⟨rfl,⟨_,hT⟩,y3v (rest:=[]) (fun j=>.str (tx (dg (List.getD [u.1,u.2.1,u.2.2] j 0)))) rfl hT (by simp) (fun i x H3 R3 hx3 g3 hR3=>?_) fun D3 H3 g3 nD3 hD3=>?_⟩
  ·rw[List.getElem?_map] at hx3;refine pA fun Gv gR=>?_;obtain⟨z,hz,rfl⟩:=Option.map_eq_some_iff.mp hx3;refine gR ?_;have dz:=ok u mu z (List.mem_of_getElem? hz);have ez:List.getD [u.1,u.2.1,u.2.2] i 0=z:=by rw[List.getD_eq_getElem?_getD,hz];rfl
   rw[ez] at hR3;walk_at "wpd";refine⟨z,rfl,dz.sz,?_⟩;rw[xI];exact hR3 H3 (Same.refl H3)
  ·have e3:(List.range ([u.1,u.2.1,u.2.2].map V.int).length).map (fun j=>V.str (tx (dg (List.getD [u.1,u.2.1,u.2.2] j 0))))=([dg u.1,dg u.2.1,dg u.2.2].map tx).map V.str:=rfl;rw[e3] at hD3;refine z9R (M:=100) y4A hD3 (fun y hy=>?_) (by simp) (hR H3 g3);simp only [List.mem_cons,List.not_mem_nil,or_false] at hy;rcases hy with rfl|rfl|rfl
   ·exact (ok u mu u.1 (by simp)).len
   ·exact (ok u mu u.2.1 (by simp)).len
   ·exact (ok u mu u.2.2 (by simp)).len
 ·have el:(List.range xs.length).map (fun j=>V.str (tx (wtx (ws.getD j (1,0,1)))))=((ws.map wtx).map tx).map V.str:=by
   rw[lx,z3J ws (1,0,1) fun u=>V.str (tx (wtx u)),List.map_map,List.map_map];rfl
  rw[el] at hD;refine z9R (M:=303) z6l hD (fun y hy=>?_) (by rw[List.length_map];omega) (q H2 g);refine pA fun Gw gS=>?_;obtain⟨u,hu,rfl⟩:=List.mem_map.mp hy;refine gS ?_;exact wl u hu
noncomputable def z2w (K:PySem.W.Frag):Sp:=fun vs H Q _=>∃(a:Addr) (xs:List V) (ws:List T3) (t:Int),vs=[.ref a,.int t]/\SqL K H a xs/\Pl H xs ws/\(∀u∈ws,Wk u)/\ws.length<=12/\∀H',Same H H'->Q (.bl (zx ws t)) H'
theorem z5T (T:TF K mg "_law_awake" ql) (m_any:mg "any" = none):Has P w K mg base 1 "_law_awake" ["plan", "turn"] (z2w K):=by
 refine T.has z3E (fun _ _ _ _ _ _=>L2.bnd2 fun _ _=>rfl) (fun vs H Q E h=>?_) (fun f cdv A outer s H vs Q E hr h=>?_)
 ·refine pA fun Gx gU=>?_;obtain⟨a,xs,ws,t,rfl,_⟩:=h;refine gU ?_;rfl
 refine pA fun Gy gW=>?_;obtain⟨a,xs,ws,t,rfl,hS,hP,hw,hl,q⟩:=h;refine gW ?_;refine⟨_,(zE (zK (zY (z4B rfl) rfl m_any (by decide +kernel) (zB (ya (CompSc.capt (own:=["waking"]) (capt:=["turn"]) (fr:=[1]) rfl ⟨rfl,rfl,rfl,rfl,rfl,trivial⟩ (by decide +kernel) (by decide +kernel) rfl (by decide +kernel)) rfl (yC (pv 0)) (fun _ _ _=>(zQ (i:=0) (show (["waking", "turn"]:List Str).Nodup from by decide +kernel) rfl (Or.inl rfl) (Or.inr rfl))) (fun _ _ _=>yX) (fun _ _ _=>(jU wa (zW yE (zW xD (pv 1) (zU (z1u (K:=K) rfl) (pv 0) zF (fun _ _=>rfl))) (zU (z1u (K:=K) rfl) (pv 0) zF (fun _ _=>rfl))) (zU (z1u (K:=K) rfl) (pv 0) zF (fun _ _=>rfl)) (zX _)))) zD)))),?_⟩;walk_at "wpd";have lx:=hP.1;refine⟨⟨_,hS⟩,y0L (rest:=[some (.int t)]) (fun j=>.bl (awk (ws.getD j (1,0,1)) t)) rfl hS (by omega) (fun j x H2 R hx g hR=>?_) fun D H2 g nD hD=>?_⟩
 ·refine pA fun Gz gX=>?_;obtain⟨p,u,e1,rfl,e3⟩:=hP.at hx;refine gX ?_;have hu:=hw u (List.mem_of_getElem? e1);have u1:=hu.1;have hT:SqT K H2 p [.int u.1,.int u.2.1,.int u.2.2]:=SqT.of (g _ _ e3);have eu:ws.getD j (1,0,1)=u:=by rw[List.getD_eq_getElem?_getD,e1];rfl
  rw[eu] at hR;walk_at "wpd";refine⟨_,_,_,.int u.2.1,rfl,rfl,hT,rfl,?_⟩;walk_at "wpd";refine⟨_,_,_,.int u.1,rfl,rfl,hT,rfl,?_⟩;walk_at "wpd";refine⟨by omega,?_⟩;refine⟨_,_,_,.int u.2.2,rfl,rfl,hT,rfl,?_⟩;walk_at "wpd";exact hR H2 (Same.refl H2)
 ·have el:(List.range xs.length).map (fun j=>V.bl (awk (ws.getD j (1,0,1)) t))=(ws.map fun u=>awk u t).map V.bl:=by
   rw[lx,z3J ws (1,0,1) fun u=>V.bl (awk u t),List.map_map];rfl
  rw[el] at hD;refine⟨D,_,rfl,SqL.of hD,?_⟩;have:=q H2 g;unfold zx at this;rw[List.any_map];exact this
theorem wx {u:T3} (hu:Wk u) (h1:u.1<=30):WOk u/\(wtx u).length<=303/\∀x∈wtx u,x<128:=by
 refine pA fun G0 gZ=>?_;obtain⟨a1,a2,a3,a4,a5⟩:=hu;refine gZ ?_;have e100:(30:Int)<10^100:=by decide +kernel
 have d1:=z7f (n:=u.1) (by omega) (by omega);have d2:=z7f (n:=u.2.1) a2 (by omega);have d3:=z7f (n:=u.2.2) (by omega) (by omega);have al:∀n:Int,DgOk n->∀x∈dg n,x<128:=fun n d x hx=>by
  have:=d.all x hx;omega
 have l1:=d1.len;have l2:=d2.len;have l3:=d3.len;refine⟨⟨d1,d2,d3⟩,by unfold wtx;simp [glu];omega,vz (Pz:=fun x=>x<128) (by decide) fun p hp=>?_⟩;simp only [List.mem_cons,List.not_mem_nil,or_false] at hp;rcases hp with rfl|rfl|rfl
 ·exact al _ d1
 ·exact al _ d2
 ·exact al _ d3
theorem y2Q {ws:List T3} (ne:ws≠[]) (hw:∀u∈ws,Wk u) (h1:∀u∈ws,u.1<=30) (hl:ws.length<=12):glu 32 (ws.map wtx)=jS ws false/\TxOk (jS ws false)/\(jS ws false).length<=4000:=by
 have sm:=fun u hu=>(wx (hw u hu) (h1 u hu)).2;have e:glu 32 (ws.map wtx)=jS ws false:=by
  unfold jS;rw[if_neg ne];congr 1
 rw[←e];have ln:(glu 32 (ws.map wtx)).length<=4000:=Nat.le_trans (wH (M:=303) fun p hp=>by
  refine pA fun Ga hC=>?_;obtain⟨u,hu,rfl⟩:=List.mem_map.mp hp;refine hC ?_;exact (sm u hu).1) (by rw[List.length_map];omega)
 exact⟨rfl,⟨by omega,vz (Pz:=fun x=>x<128) (by decide) fun p hp x hx=>by
  refine pA fun Gb hJ=>?_;obtain⟨u,hu,rfl⟩:=List.mem_map.mp hp;refine hJ ?_;exact (sm u hu).2 x hx⟩,ln⟩
noncomputable def wb (ws us:List T3) (s t:Int):Bool:=zx ws t && zx us (t-s)
noncomputable def z1Y (K:PySem.W.Frag):Sp:=fun vs H Q _=>∃(a b:Addr) (xs ys:List V) (ws us:List T3) (s t:Int),vs=[.ref a,.ref b,.int s,.int t]/\SqL K H a xs/\Pl H xs ws/\SqL K H b ys/\Pl H ys us/\(∀u∈ws,Wk u)/\(∀u∈us,Wk u)/\ws.length<=12/\us.length<=12/\∀H',Same H H'->Q (.bl (wb ws us s t)) H'
theorem z7c (T:TF K mg "_law_both" kr) (G_law_awake:Has P w K mg base 1 "_law_awake" ["plan", "turn"] (z2w K)):Has P w K mg base 2 "_law_both" ["one", "other", "shift", "turn"] (z1Y K):=by
 refine T.has z4o (fun _ _ _ _ _ _=>L2.bnd4 fun _ _ _ _=>rfl) (fun vs H Q E h=>?_) (fun f cdv A outer s H vs Q E hr h=>?_)
 ·refine pA fun Gc hU=>?_;obtain⟨a,b,xs,ys,ws,us,sh,t,rfl,_⟩:=h;refine hU ?_;rfl
 refine pA fun Ge hV=>?_;obtain⟨a,b,xs,ys,ws,us,sh,t,rfl,hS,hP,hS2,hP2,hw,hu,lw,lu,q⟩:=h;refine hV ?_;refine⟨_,(zE (zK (kP (zL (G_law_awake.mono (by first|decide|omega)) hr (zB (pv 0) (zB (pv 3) zD))) (wW (zL (G_law_awake.mono (by first|decide|omega)) hr (zB (pv 1) (zB (zW xD (pv 3) (pv 2)) zD))))))),?_⟩;walk_at "wpd";refine⟨a,xs,ws,t,rfl,hS,hP,hw,lw,fun H1 g1=>⟨_,rfl,fun c=>⟨b,ys,us,_,rfl,g1.seq hS2,hP2.same g1,hu,lu,fun H2 g2=>?_⟩,fun c=>?_⟩⟩
 ·have:=q H2 (g1.trans g2);unfold wb at this;rw[c,Bool.true_and] at this;exact this
 ·have:=q H1 g1;unfold wb at this;rw[Bool.eq_false_iff.mpr c,Bool.false_and] at this;exact this
noncomputable def qu (ws us:List T3) (wh s:Int):Bool:=(List.range wh.toNat).any fun j:Nat=>wb ws us s (0+(j:Int))
noncomputable def vI (K:PySem.W.Frag):Sp:=fun vs H Q _=>∃(a b:Addr) (xs ys:List V) (ws us:List T3) (wh:Int),vs=[.ref a,.ref b,.int wh]/\SqL K H a xs/\Pl H xs ws/\SqL K H b ys/\Pl H ys us/\(∀u∈ws,Wk u)/\(∀u∈us,Wk u)/\ws.length<=12/\us.length<=12/\1<=wh/\wh<=30/\∀D H',Same H H'->H D=none->H' D=some (.lst (((List.range wh.toNat).map fun j:Nat=>qu ws us wh (0+(j:Int))).map V.bl))->Q (.ref D) H'
theorem z5R (T:TF K mg "_law_meets" qj) (m_range:mg "range" = none) (m_any:mg "any" = none) (G_law_both:Has P w K mg base 2 "_law_both" ["one", "other", "shift", "turn"] (z1Y K)):Has P w K mg base 3 "_law_meets" ["one", "other", "whole"] (vI K):=by
 refine T.has j8 (fun _ _ _ _ _ _=>L2.bnd3 fun _ _ _=>rfl) (fun vs H Q E h=>?_) (fun f cdv A outer s H vs Q E hr h=>?_)
 ·refine pA fun Gf gC=>?_;obtain⟨a,b,xs,ys,ws,us,wh,rfl,_⟩:=h;refine gC ?_;rfl
 refine pA fun Gg gE=>?_;obtain⟨a,b,xs,ys,ws,us,wh,rfl,hS,hP,hS2,hP2,hw,hu,lw,lu,w0,w1,q⟩:=h;refine gE ?_;refine⟨_,(zC (zR (i:=3) j8.nd rfl (Or.inl rfl) (yq zD)) (zC (y6 PassesOwn.never rfl (xX rfl m_range (zB (pv 2) zD)) (zQ (i:=4) j8.nd rfl (Or.inr rfl)) (zE (yt (xn PySem.F.plainAttrs_list PySem.F.slot_list_append PySem.F.type_list_append yn (pv 3) (zB (zY (z4B rfl) rfl m_any (by decide +kernel) (zB (ya (CompSc.capt (own:=["turn"]) (capt:=["shift", "other", "one"]) (fr:=[4,1,0]) rfl ⟨rfl,rfl,rfl,rfl,rfl,⟨rfl,rfl,rfl,rfl,rfl,⟨rfl,rfl,rfl,rfl,rfl,trivial⟩⟩⟩ (by decide +kernel) (by decide +kernel) rfl (by decide +kernel)) rfl (xX rfl m_range (zB (pv 2) zD)) (fun _ _ _=>(zQ (i:=0) (show (["turn", "shift", "other", "one"]:List Str).Nodup from by decide +kernel) rfl (Or.inl rfl) (Or.inr rfl))) (fun _ _ _=>yX) (fun _ _ _=>(zL (G_law_both.mono (by first|decide|omega)) hr (zB (pv 3) (zB (pv 2) (zB (pv 1) (zB (pv 0) zD))))))) zD)) zD))))) (zE (zK (pv 3))))),?_⟩;walk_at "wpd";intro D nD;have gD:=zJ nD (.lst []);have hD:=zH (H:=H) (a:=D) (o:=.lst []);generalize upd H D (.lst [])=H1 at gD hD ⊢;refine⟨wh,rfl,by omega,by omega,?_⟩;obtain⟨W,hW⟩:∃W:Nat->St->Hp->Prop,W=fun i σ H3=>∃(o1:Option V),σ=[some (.ref a),some (.ref b),some (.int wh),some (.ref D),o1]/\Same H H3/\H3 D=some (.lst (((List.range i).map fun j:Nat=>qu ws us wh (0+(j:Int))).map V.bl)):=⟨_,rfl⟩
 refine xx W ?_ (fun i σ H3 hi z=>?_) (fun σ H3 z=>?_)
 ·rw[hW];exact⟨none,rfl,gD,hD⟩
 ·rw[hW] at z;refine pA fun Gh gF=>?_;obtain⟨o1,rfl,g,hD3⟩:=z;refine gF ?_;walk_at "wpd";refine⟨.inl ⟨rfl,_,SqL.of hD3⟩,wh,rfl,by omega,by omega,?_⟩;refine y3x (rest:=[some (.int (0+(i:Int))),some (.ref b),some (.ref a)]) (fun j=>.bl (wb ws us (0+(i:Int)) (0+(j:Int)))) rfl (by omega) (fun j H2 R hj g2 hR=>?_) fun D2 H2 g2 nD2 hD2=>?_
  ·walk_at "wpd";have G:=g.trans g2;exact⟨a,b,xs,ys,ws,us,_,_,rfl,G.seq hS,hP.same G,G.seq hS2,hP2.same G,hw,hu,lw,lu,fun H4 g4=>hR H4 g4⟩
  ·have el:(List.range wh.toNat).map (fun j:Nat=>V.bl (wb ws us (0+(i:Int)) (0+(j:Int))))=((List.range wh.toNat).map fun j:Nat=>wb ws us (0+(i:Int)) (0+(j:Int))).map V.bl:=by rw[List.map_map];rfl
   rw[el] at hD2;refine⟨D2,_,rfl,SqL.of hD2,?_⟩;have em:List.any ((List.range wh.toNat).map fun j:Nat=>wb ws us (0+(i:Int)) (0+(j:Int))) id=qu ws us wh (0+(i:Int)):=by rw[List.any_map];rfl
   rw[em];refine⟨D,_,_,rfl,rfl,g2 _ _ hD3,by rw[sizeLine_eq,List.length_map,List.length_map,List.length_range];omega,?_⟩;rw[hW];refine⟨_,rfl,(g.trans g2).write nD _,?_⟩;rw[zH,List.range_succ,List.map_append,List.map_append];rfl
 ·rw[hW] at z;refine pA fun Gi gG=>?_;obtain⟨o1,rfl,g,hD3⟩:=z;refine gG ?_;walk_at "wpd";exact q D H3 g nD hD3
noncomputable def tbl (wh:Int) (x:T3):List Bool:=(List.range wh.toNat).map fun j:Nat=>awk x (j:Int)
theorem z2c {u:T3} {t:Int}:awk u t=true ↔ awP u t:=by unfold awk awP;exact decide_eq_true_iff
theorem y1S {u v:T3} {wh:Int} (hu:Wk u) (hv:Wk v) (du:u.1∣wh) (dv:v.1∣wh) (w0:1<=wh) (s:Int):qu [u] [v] wh s=awk (sh2 u v) s:=by
 rw[Bool.eq_iff_iff,z2c];unfold qu wb zx;rw[List.any_eq_true];simp only [List.any_cons,List.any_nil,Bool.or_false,Bool.and_eq_true,z2c];refine Iff.trans ?_ (z1c hu hv s).symm;constructor
 ·rintro⟨j,_,h1,h2⟩;exact⟨_,h1,h2⟩
 ·rintro⟨t,h1,h2⟩;have m:=xv t w0;obtain⟨k,hk⟩:=yi t wh;refine⟨(t%wh).toNat,List.mem_range.mpr (by omega),?_,?_⟩
  ·have e:(0:Int)+(((t%wh).toNat:Nat):Int)=t+wh*(-k):=by rw[Int.mul_neg];omega
   rw[e];exact (wL (Int.dvd_trans du ⟨_,rfl⟩)).mpr h1
  ·have e:(0:Int)+(((t%wh).toNat:Nat):Int)-s=(t-s)+wh*(-k):=by rw[Int.mul_neg];omega
   rw[e];exact (wL (Int.dvd_trans dv ⟨_,rfl⟩)).mpr h2
theorem y2n {u v:T3} {wh:Int} (hu:Wk u) (hv:Wk v) (du:u.1∣wh) (dv:v.1∣wh) (w0:1<=wh):((List.range wh.toNat).map fun j:Nat=>qu [u] [v] wh (0+(j:Int)))=tbl wh (sh2 u v):=by
 unfold tbl;refine List.map_congr_left fun j _=>?_;rw[y1S hu hv du dv w0,Int.zero_add]
noncomputable def TbAt (N:Addr->Prop) (H:Hp) (zs:List V) (tb:List (List Bool)):Prop:=zs.length=tb.length/\∀(i:Nat) (t:List Bool),tb[i]?=some t->∃p:Addr,zs[i]?=some (V.ref p)/\N p/\H p=some (.lst (t.map V.bl))
theorem TbAt.same {N:Addr->Prop} {H H':Hp} {zs:List V} {tb:List (List Bool)} (h:TbAt N H zs tb) (g:Same H H'):TbAt N H' zs tb:=⟨h.1,fun i t e=>let ⟨p,e1,n,e2⟩:=h.2 i t e;⟨p,e1,n,g _ _ e2⟩⟩
theorem TbAt.upd {D:Addr} {H:Hp} {zs:List V} {tb:List (List Bool)} {o:HO} (h:TbAt (·≠D) H zs tb):TbAt (·≠D) (upd H D o) zs tb:=⟨h.1,fun i t e=>let ⟨p,e1,n,e2⟩:=h.2 i t e;⟨p,e1,n,by rw[za n];exact e2⟩⟩
theorem TbAt.snoc {N:Addr->Prop} {H:Hp} {zs:List V} {tb:List (List Bool)} {t:List Bool} {p:Addr} (h:TbAt N H zs tb) (n:N p) (hp:H p=some (.lst (t.map V.bl))):TbAt N H (zs++[.ref p]) (tb++[t]):=by
 refine⟨by simp [h.1],fun i t' e=>?_⟩;by_cases c:i<tb.length
 ·rw[List.getElem?_append_left c] at e;rw[List.getElem?_append_left (by rw[h.1];exact c)];exact h.2 i t' e
 ·rw[List.getElem?_append_right (by omega)] at e;have ei:i-tb.length=0:=by
   cases z:i-tb.length with
   | zero=>rfl
   | succ m=>rw[z] at e;simp at e
  rw[ei] at e;cases e;rw[List.getElem?_append_right (by rw[h.1];omega),h.1,ei];exact⟨p,rfl,n,hp⟩
noncomputable def z2u (K:PySem.W.Frag):Sp:=fun vs H Q _=>∃(a b:Addr) (xs ys:List V) (ws us:List T3) (wh:Int),vs=[.ref a,.ref b,.int wh]/\SqL K H a xs/\Pl H xs ws/\SqL K H b ys/\Pl H ys us/\(∀u∈ws,Wk u)/\(∀u∈us,Wk u)/\(∀u∈ws,u.1∣wh)/\(∀u∈us,u.1∣wh)/\ws.length<=12/\us.length<=12/\1<=wh/\wh<=30/\∀D zs H',Same H H'->H' D=some (.lst zs)->TbAt (fun _=>True) H' zs ((shs ws us).map (tbl wh))->Q (.ref D) H'
theorem z5Q (T:TF K mg "_law_pairs" qi) (G_law_meets:Has P w K mg base 3 "_law_meets" ["one", "other", "whole"] (vI K)):Has P w K mg base 4 "_law_pairs" ["one", "other", "whole"] (z2u K):=by
 refine T.has xa (fun _ _ _ _ _ _=>L2.bnd3 fun _ _ _=>rfl) (fun vs H Q E h=>?_) (fun f cdv A outer s H vs Q E hr h=>?_)
 ·refine pA fun Gj gH=>?_;obtain⟨a,b,xs,ys,ws,us,wh,rfl,_⟩:=h;refine gH ?_;rfl
 refine pA fun Gk gI=>?_;obtain⟨a,b,xs,ys,ws,us,wh,rfl,hS,hP,hS2,hP2,hw,hu,dw,du,lw,lu,w0,w1,q⟩:=h;refine gI ?_;refine⟨_,(zC (zR (i:=3) xa.nd rfl (Or.inl rfl) (yq zD)) (zC (y6 PassesOwn.never rfl (yC (pv 0)) (zQ (i:=4) xa.nd rfl (Or.inl rfl)) (zE (y6 PassesOwn.never rfl (yC (pv 1)) (zQ (i:=5) xa.nd rfl (Or.inl rfl)) (zE (yt (xn PySem.F.plainAttrs_list PySem.F.slot_list_append PySem.F.type_list_append yn (pv 3) (zB (zL (G_law_meets.mono (by first|decide|omega)) hr (zB (yq (zB (pv 4) zD)) (zB (yq (zB (pv 5) zD)) (zB (pv 2) zD)))) zD))))))) (zE (zK (pv 3))))),?_⟩;walk_at "wpd";intro D nD;have gD:=zJ nD (.lst []);have hD:=zH (H:=H) (a:=D) (o:=.lst []);generalize upd H D (.lst [])=H1 at gD hD ⊢;have lx:=hP.1;have ly:=hP2.1;obtain⟨W,hW⟩:∃W:Nat->St->Hp->Prop,W=fun i σ H3=>∃(o1 o2:Option V) (zs:List V),σ=[some (.ref a),some (.ref b),some (.int wh),some (.ref D),o1,o2]/\Same H H3/\H3 D=some (.lst zs)/\TbAt (·≠D) H3 zs ((shs (ws.take i) us).map (tbl wh)):=⟨_,rfl⟩
 refine⟨⟨_,gD.seq hS⟩,yR (xs:=xs) W ?_ (fun i σ H' _ z=>?_) (fun i x σ H' hx z=>?_) (fun σ H' z=>?_)⟩
 ·rw[hW];exact⟨none,none,[],rfl,gD,hD,rfl,fun i t e=>by simp [shs] at e⟩
 ·rw[hW] at z;refine pA fun Gm gJ=>?_;obtain⟨_,_,_,_,g,_⟩:=z;refine gJ ?_;exact g.seq hS
 ·rw[hW] at z;refine pA fun Gn gK=>?_;obtain⟨o1,o2,zs,rfl,g,hD2,tb⟩:=z;refine gK ?_;refine pA fun Go gL=>?_;obtain⟨p,u,e1,rfl,e3⟩:=hP.at hx;refine gL ?_;have mu:=List.mem_of_getElem? e1;have li:=(List.getElem?_eq_some_iff.mp e1).1;have lsh:(shs (ws.take i) us).length<=144:=by
   rw[jC,List.length_take];exact Nat.mul_le_mul (show min i ws.length<=12 by omega) lu
  walk_at "wpd";obtain⟨W2,hW2⟩:∃W2:Nat->St->Hp->Prop,W2=fun j σ H3=>∃(o2:Option V) (zs:List V),σ=[some (.ref a),some (.ref b),some (.int wh),some (.ref D),some (.ref p),o2]/\Same H H3/\H3 D=some (.lst zs)/\TbAt (·≠D) H3 zs ((shs (ws.take i) us++(us.take j).map (sh2 u)).map (tbl wh)):=⟨_,rfl⟩
  refine⟨⟨_,g.seq hS2⟩,yR (xs:=ys) W2 ?_ (fun j σ H3 _ z=>?_) (fun j x σ H3 hx2 z=>?_) (fun σ H3 z=>?_)⟩
  ·rw[hW2];exact⟨_,zs,rfl,g,hD2,by simpa using tb⟩
  ·rw[hW2] at z;refine pA fun Gp gM=>?_;obtain⟨_,_,_,g,_⟩:=z;refine gM ?_;exact g.seq hS2
  ·rw[hW2] at z;refine pA fun Gq gN=>?_;obtain⟨o3,zs3,rfl,g3,hD3,tb3⟩:=z;refine gN ?_;refine pA fun Gr gO=>?_;obtain⟨p2,v,f1,rfl,f3⟩:=hP2.at hx2;refine gO ?_;have mv:=List.mem_of_getElem? f1;have lj:=(List.getElem?_eq_some_iff.mp f1).1;walk_at "wpd";refine⟨.inl ⟨rfl,_,SqL.of hD3⟩,fun P1 nP1 P2 nP2=>?_⟩;have gA:=zJ nP1 (.lst [V.ref p]);have hA:=zH (H:=H3) (a:=P1) (o:=.lst [V.ref p]);generalize upd H3 P1 (.lst [V.ref p])=H4 at gA hA nP2 ⊢;have gB:=zJ nP2 (.lst [V.ref p2]);have hB:=zH (H:=H4) (a:=P2) (o:=.lst [V.ref p2]);generalize upd H4 P2 (.lst [V.ref p2])=H5 at gB hB ⊢;have G35:=gA.trans gB;have one:∀ {q0:Addr} {t:T3},H5 q0=some (z4N t)->Pl H5 [V.ref q0] [t]:=fun {q0 t} h=>⟨rfl,fun i t' e=>by
    cases i with
    | zero=>cases e;exact⟨q0,rfl,h⟩
    | succ n=>simp at e⟩
   refine⟨P1,P2,_,_,[u],[v],wh,rfl,SqL.of (gB _ _ hA),one (G35 _ _ (g3 _ _ e3)),SqL.of hB,one (G35 _ _ (g3 _ _ f3)),(fun t ht=>by rw[List.mem_singleton.mp ht];exact hw u mu),(fun t ht=>by rw[List.mem_singleton.mp ht];exact hu v mv),by simp,by simp,w0,w1,fun D2 H6 g6 nD2 hD6=>?_⟩;have G36:=G35.trans g6;rw[y2n (hw u mu) (hu v mv) (dw u mu) (du v mv) w0] at hD6;have ne2:D2≠D:=fun e=>by rw[e,G35 _ _ hD3] at nD2;cases nD2
   have l3:=tb3.1;rw[List.length_map,List.length_append,List.length_map,List.length_take] at l3;refine⟨D,_,_,rfl,rfl,G36 _ _ hD3,by rw[sizeLine_eq];omega,?_⟩;rw[hW2];refine⟨_,_,rfl,(g3.trans G36).write nD _,zH,?_⟩;have ek:(shs (ws.take i) us++(us.take (j+1)).map (sh2 u)).map (tbl wh)=(shs (ws.take i) us++(us.take j).map (sh2 u)).map (tbl wh)++[tbl wh (sh2 u v)]:=by
    rw[List.take_add_one,f1];simp
   rw[ek];exact ((tb3.same G36).snoc ne2 hD6).upd
  ·rw[hW2] at z;refine pA fun Gs gP=>?_;obtain⟨o3,zs3,rfl,g3,hD3,tb3⟩:=z;refine gP ?_;rw[hW];refine⟨_,_,zs3,rfl,g3,hD3,?_⟩;rw[z6E e1];rw[ly,List.take_length] at tb3;exact tb3
 ·rw[hW] at z;refine pA fun Gu gQ=>?_;obtain⟨o1,o2,zs,rfl,g,hD2,tb⟩:=z;refine gQ ?_;walk_at "wpd";rw[lx,List.take_length] at tb;exact q D zs H' g hD2 ⟨tb.1,fun i t e=>let ⟨p,e1,_,e2⟩:=tb.2 i t e;⟨p,e1,trivial,e2⟩⟩
noncomputable def xj:Sp:=fun vs H Q _=>∃a b:Int,vs=[.int a,.int b]/\0<=a/\0<=b/\Q (.int (zg a b)) H
theorem z2O (T:TF K mg "_law_divisor" jO):Has P w K mg base 1 "_law_divisor" ["one", "other"] xj:=by
 refine T.has qX (fun _ _ _ _ _ _=>L2.bnd2 fun _ _=>rfl) (fun vs H Q E h=>?_) (fun f cdv A outer s H vs Q E hr h=>?_)
 ·refine pA fun Gv gR=>?_;obtain⟨a,b,rfl,_⟩:=h;refine gR ?_;rfl
 refine pA fun Gw gS=>?_;obtain⟨a,b,rfl,ha,hb,q⟩:=h;refine gS ?_;refine⟨_,(zC (qG PassesOwn.never (zN z7M (pv 1) zF (zX _)) (zE (y4f (i:=0) (j:=1) rfl qX.nd rfl rfl (by decide) rfl rfl (zB (pv 1) (zB (zW yE (pv 0) (pv 1)) zD)) rfl))) (zE (zK (pv 0)))),?_⟩;walk_at "wp";obtain⟨W,hW⟩:∃W:Nat->St->Hp->Prop,W=fun m σ H'=>∃(x y:Int),σ=[some (.int x),some (.int y)]/\H'=H/\0<=x/\0<=y/\zg x y=zg a b/\m=y.toNat:=⟨_,rfl⟩
 refine⟨W,⟨b.toNat,by rw[hW];exact⟨a,b,rfl,rfl,ha,hb,rfl,rfl⟩⟩,fun m σ H' h=>?_⟩;rw[hW] at h;refine pA fun Gx gU=>?_;obtain⟨x,y,rfl,rfl,hx,hy,e,rfl⟩:=h;refine gU ?_;walk_at "wp";refine⟨fun c=>?_,fun c=>?_⟩
 ·have m1:=Int.emod_nonneg x (show y≠0 by omega);have m2:=Int.emod_lt_of_pos x (show 0<y by omega);refine⟨_,fun _ _ h=>h,?_⟩;walk_at "wp";refine⟨by omega,(x%y).toNat,by omega,?_⟩;rw[hW];exact⟨y,x%y,rfl,rfl,hy,m1,by rw[kX,e],rfl⟩
 ·have c':y=0:=by omega
  subst c';rw[z0A hx] at e;rw[e];exact q
theorem y6j {a b c:Int} (h:0<c) {i:Nat} (hi:a+i*c<b):i<(Builtin.Range.rangeSize a b c).toNat:=by
 have e:=rsN (a:=a) (b:=b) h;have ic:0<=(i:Int)*c:=Int.mul_nonneg (by omega) (by omega);have:(i:Int)<Builtin.Range.rangeSize a b c:=by
  unfold Builtin.Range.rangeSize;rw[if_pos h,if_pos (by omega)];have:=Int.le_ediv_of_mul_le h (show (i:Int)*c<=b-a-1 by omega);omega
 omega
theorem y1W {x:T3} {s r wh:Int} (hx:Wk x) (dx:x.1∣wh) (w0:1<=wh) (s1:1<=s):(∀j:Nat,j<(Builtin.Range.rangeSize (r%zg s wh) wh (zg s wh)).toNat->awk x (r%zg s wh+j*zg s wh)=true) ↔ qv x s r=true:=by
 have gp:=yK (a:=s) (b:=wh) (by omega);have gm:=xv r (show 1<=zg s wh by omega);constructor
 ·intro h;unfold qv;refine decide_eq_true ((z6W hx.1 hx.2.2.2.1 hx.2.2.2.2).mpr fun k hk=>?_);obtain⟨k1,h1⟩:=yi (r+s*k) wh;obtain⟨k2,h2⟩:=yi r (zg s wh);obtain⟨k3,h3⟩:=zt s wh;obtain⟨k4,h4⟩:=zr s wh;have m1:=xv (r+s*k) w0;obtain⟨j,hj⟩:∃j:Int,(r+s*k)%wh=r%zg s wh+j*zg s wh:=by
   refine⟨k2+k3*k-k4*k1,?_⟩;rw[Int.sub_mul,Int.add_mul,Int.mul_assoc,Int.mul_comm (k:Int),←Int.mul_assoc,Int.mul_comm k3,←h3,Int.mul_assoc,Int.mul_comm k1,←Int.mul_assoc,Int.mul_comm k4,←h4,Int.mul_comm k2];omega
  have j0:0<=j:=by
   rcases Int.lt_or_le j 0 with z|z
   ·have:=Int.mul_le_mul_of_nonneg_right (show j<=-1 by omega) (show 0<=zg s wh by omega);omega
   ·exact z
  have ej:((j.toNat:Nat):Int)=j:=by omega
  have a:=h j.toNat (y6j gp (by rw[ej];omega));rw[ej,←hj,z2c] at a;have e:r+s*k=(r+s*k)%wh+wh*k1:=by omega
  rw[e];exact (wL (Int.dvd_trans dx ⟨k1,rfl⟩)).mpr a
 ·intro h j hj;rw[z2c];obtain⟨t,⟨k,hk⟩,q2⟩:=crt (p:=s) (q:=wh) (A:=r) (B:=r%zg s wh+j*zg s wh) s1 w0 (by
   obtain⟨k2,h2⟩:=yi r (zg s wh);refine⟨k2-j,?_⟩;rw[Int.mul_sub,Int.mul_comm _ (j:Int)];omega)
  have l:=z6X hx h k;have e:r+s*k=(r%zg s wh+j*zg s wh)+(t-(r%zg s wh+j*zg s wh)):=by omega
  rw[e] at l;exact (wL (Int.dvd_trans dx q2)).mp l
theorem z0G {n:Nat} {f:Nat->Bool} {b:Bool} (h:(∀j,j<n->f j=true) ↔ b=true):((List.range n).map f).all id=b:=by
 rw[Bool.eq_iff_iff,←h,List.all_map,List.all_eq_true];exact⟨fun z j hj=>z j (List.mem_range.mpr hj),fun z j hj=>z j (List.mem_range.mp hj)⟩
theorem y2g {xs:List V} {k:Int} {v:V} (k0:0<=k) (h:xs[k.toNat]?=some v):atI xs k=some v:=by
 have e:k=((k.toNat:Nat):Int):=by omega
 rw[e];exact zj h
theorem y4K {wh t:Int} {x:T3} (t0:0<=t) (t1:t<wh):((tbl wh x).map V.bl)[t.toNat]?=some (.bl (awk x t)):=by
 unfold tbl;rw[List.getElem?_map,List.getElem?_map,List.getElem?_range (by omega)];show some (V.bl (awk x ((t.toNat:Nat):Int)))=_;rw[Int.toNat_of_nonneg t0]
theorem y0u {a b c:Int} (h:0<c) (a0:0<=a) (b1:b<=30):(Builtin.Range.rangeSize a b c).toNat<=1000000:=by
 rcases Nat.eq_zero_or_pos (Builtin.Range.rangeSize a b c).toNat with z|z
 ·omega
 ·have:=y5n (a:=a) (b:=b) h (i:=(Builtin.Range.rangeSize a b c).toNat-1) (by omega);have m:=Int.mul_le_mul_of_nonneg_left (show 1<=c by omega) (show 0<=(((Builtin.Range.rangeSize a b c).toNat-1:Nat):Int) by omega);omega
noncomputable def z2t (K:PySem.W.Frag) (d:Nat):Sp:=fun vs H Q _=>∃(a:Addr) (v:V) (zs:List V) (ss:List T3) (wh s r:Int) (p:Pap),vs=[.ref a,.int wh,.int s,.int r,v]/\H a=some (.lst zs)/\TbAt (fun _=>True) H zs (ss.map (tbl wh))/\(∀x∈ss,Wk x)/\(∀x∈ss,x.1∣wh)/\1<=wh/\wh<=30/\1<=s/\PapIn K y0Y H v p/\p.dep<d/\∀H',Same H H'->Q (.bl (zh ss s r p)) H'
theorem z5P (T:TF K mg "_law_right" qh) (m_len:mg "len" = none) (m_range:mg "range" = none) (m_all:mg "all" = none) (G_law_divisor:Has P w K mg base 1 "_law_divisor" ["one", "other"] xj) :
  ∀d:Nat,Has P w K mg base (d+2) "_law_right" ["tables", "whole", "step", "rest", "paper"] (z2t K d):=by
 intro d
 induction d with
 | zero=>
  refine T.has x9 (fun _ _ _ _ _ _=>L2.bnd5 fun _ _ _ _ _=>rfl) (fun vs H Q E h=>?_) (fun f cdv A outer s H vs Q E hr h=>?_)
  ·refine pA fun Gy gW=>?_;obtain⟨_,_,_,_,_,_,_,_,_,_,_,_,_,_,_,_,_,h,_⟩:=h;refine gW ?_;exact absurd h (Nat.not_lt_zero _)
  ·refine pA fun Gz gX=>?_;obtain⟨_,_,_,_,_,_,_,_,_,_,_,_,_,_,_,_,_,h,_⟩:=h;refine gX ?_;exact absurd h (Nat.not_lt_zero _)
 | succ d ih=>
 have G_law_right:=ih;refine T.has x9 (fun _ _ _ _ _ _=>L2.bnd5 fun _ _ _ _ _=>rfl) (fun vs H Q E h=>?_) (fun f cdv A outer s H vs Q E hr h=>?_)
 ·refine pA fun G0 gZ=>?_;obtain⟨a,v,zs,ss,wh,s,r,p,rfl,_⟩:=h;refine gZ ?_;rfl
 refine pA fun Ga hC=>?_;obtain⟨a,v,zs,ss,wh,st,r,p,rfl,ha,tb,hw,hd,w0,w1,s1,hv,dp,q⟩:=h;refine hC ?_;refine⟨_,(zC (zi (zN xE (zU zZ (pv 4) zF (fun _ _=>rfl)) zS (zX _)) (zC (zi (xc (y0z z1n wa zF (zU zZ (pv 4) zF (fun _ _=>rfl)) (zY zc rfl m_len PySem.boot_len (zB (pv 0) zD)))) (zE (zK xC)) zM) (zC (zR (i:=5) x9.nd rfl (Or.inl rfl) (zL (G_law_divisor.mono (by first|decide|omega)) hr (zB (pv 2) (zB (pv 1) zD)))) (zE (zK (zY (z0F rfl) rfl m_all (by decide +kernel) (zB (ya (CompSc.capt (own:=["shift"]) (capt:=["tables", "paper"]) (fr:=[0,4]) rfl ⟨rfl,rfl,rfl,rfl,rfl,⟨rfl,rfl,rfl,rfl,rfl,trivial⟩⟩ (by decide +kernel) (by decide +kernel) rfl (by decide +kernel)) rfl (z3O rfl m_range (zB (zW yE (pv 3) (pv 5)) (zB (pv 1) (zB (pv 5) zD)))) (fun _ _ _=>(zQ (i:=0) (show (["shift", "tables", "paper"]:List Str).Nodup from by decide +kernel) rfl (Or.inl rfl) (Or.inr rfl))) (fun _ _ _=>yX) (fun _ _ _=>(zU (kU (K:=K) rfl) (zU (kU (K:=K) rfl) (pv 1) (zU (z1u (K:=K) rfl) (pv 2) zF (fun _ _=>rfl)) (fun _ _=>rfl)) (pv 0) (fun _ _=>rfl)))) zD)))))) zM) (zC (zi (PW.pt (z7K (zN wa (zU zZ (pv 4) zF (fun _ _=>rfl)) zF (zX _)) (z3K (zN kQ (zY zc rfl m_len PySem.boot_len (zB (zU zZ (pv 4) zF (fun _ _=>rfl)) zD)) (zU zZ (pv 4) zF (fun _ _=>rfl)) (zX _))))) (zE (zK xC)) zM) (zC (y6 PassesOwn.never rfl (xX rfl m_range (zB (zU zZ (pv 4) zF (fun _ _=>rfl)) zD)) (zQ (i:=6) x9.nd rfl (Or.inl rfl)) (zE (zi (xc (yd (zL (G_law_right.mono (by first|decide|omega)) hr (zB (pv 0) (zB (pv 1) (zB (zW xY (pv 2) (zU zZ (pv 4) zF (fun _ _=>rfl))) (zB (zW ye (pv 3) (zW xY (pv 2) (pv 6))) (zB (zU zo (zU zZ (pv 4) zF (fun _ _=>rfl)) (pv 6) (fun _ _=>rfl)) zD)))))) (fun _=>rfl))) (zE (zK xC)) zM))) (zE (zK xC))))),?_⟩;have lz:=tb.1;rw[List.length_map] at lz;cases hv with
 | @inn b k hb=>
  have hT:SqT K H b [.str "in",.int k]:=SqT.of hb;walk_at "wpd";have q1:=q H (Same.refl H);unfold zh at q1;refine⟨_,_,_,.str "in",rfl,rfl,hT,rfl,rfl,_,rfl,fun _=>?_,fun c=>absurd (decide_eq_true rfl) c⟩;refine⟨_,_,_,.int k,rfl,rfl,hT,rfl,?_⟩;walk_at "wpd";refine⟨fun c0=>⟨a,zs,rfl,.inl (SqL.of ha),?_⟩,fun c0=>?_⟩
  ·rw[decide_eq_true c0,Bool.true_and] at q1;walk_at "wpd";refine⟨fun c=>?_,fun c=>?_⟩
   ·rw[decide_eq_false (by rw[←lz];exact c),Bool.false_and] at q1;exact q1
   have kz:k<zs.length:=by omega
   have kl:k.toNat<ss.length:=by omega
   rw[decide_eq_true (show k<ss.length by omega),Bool.true_and,List.getD_eq_getElem?_getD,List.getElem?_eq_getElem kl] at q1;have mx:=List.getElem_mem kl;obtain⟨p,e1,_,hp⟩:=tb.2 k.toNat (tbl wh ss[k.toNat]) (by rw[List.getElem?_map,List.getElem?_eq_getElem kl];rfl);generalize hx:ss[k.toNat]=x at q1 mx hp;have q1:Q (.bl (qv x st r)) H:=q1;have gp:=yK (a:=st) (b:=wh) (by omega);have gl:zg st wh<=wh:=by rw[z0B];exact yM _ (by omega)
   have rm:=xv r (show 1<=zg st wh by omega);refine⟨st,wh,rfl,by omega,by omega,_,_,rfl,rfl,gp,_,_,_,(Builtin.Range.rangeSize (r%zg st wh) wh (zg st wh)).toNat,rfl,gp,by omega,rsN gp,?_⟩;have lt:=y1W (r:=r) (hw x mx) (hd x mx) w0 s1;refine y3w (rest:=[some (.ref a),some (.ref b)]) (fun j=>.bl (awk x (r%zg st wh+j*zg st wh))) rfl (y0u gp rm.1 w1) (fun j H2 R hj g2 hR=>?_) fun D H2 g2 nD hD=>?_
   ·have jl:=y5n gp hj;have j0:0<=(j:Int)*zg st wh:=Int.mul_nonneg (by omega) (by omega);walk_at "wpd";exact⟨_,_,_,.int k,rfl,rfl,Same.seqT g2 hT,rfl,zf (SqL.of (g2 _ _ ha)) (y2g c0 e1) (zf (SqL.of (g2 _ _ hp)) (y2g (by omega) (y4K (by omega) (by omega))) (hR H2 (Same.refl H2)))⟩
   ·have el:(List.range (Builtin.Range.rangeSize (r%zg st wh) wh (zg st wh)).toNat).map (fun j:Nat=>V.bl (awk x (r%zg st wh+j*zg st wh)))=((List.range (Builtin.Range.rangeSize (r%zg st wh) wh (zg st wh)).toNat).map fun j:Nat=>awk x (r%zg st wh+j*zg st wh)).map V.bl:=by rw[List.map_map];rfl
    rw[el] at hD;refine⟨D,_,rfl,SqL.of hD,?_⟩;rw[z0G lt];have q2:=q H2 g2;unfold zh at q2;rw[decide_eq_true c0,decide_eq_true (show k<ss.length by omega),Bool.true_and,Bool.true_and,List.getD_eq_getElem?_getD,List.getElem?_eq_getElem kl,hx] at q2;exact q2
  ·rw[decide_eq_false c0,Bool.false_and] at q1;exact q1
 | @par b l bb ys ps hb hl _ lz2 hs=>
  have hT:SqT K H b [.str "parted",.int bb,.ref l]:=SqT.of hb;simp only [Pap.dep] at dp;have hlen:=hs.len;walk_at "wpd";refine⟨_,_,_,.str "parted",rfl,rfl,hT,rfl,rfl,_,rfl,fun c=>absurd (of_decide_eq_true c) (by decide +kernel),fun _=>?_⟩;refine⟨_,_,_,.int bb,rfl,rfl,hT,rfl,?_⟩;walk_at "wpd";refine⟨fun c1=>?_,fun c1=>?_⟩
  ·have q1:=q H (Same.refl H);unfold zh at q1;rw[decide_eq_false (show ¬2<=bb by omega),Bool.false_and] at q1;exact q1
  ·refine⟨_,_,_,.ref l,rfl,rfl,hT,rfl,?_⟩;refine⟨_,_,rfl,.inl (SqL.of hl),?_⟩;refine⟨_,_,_,.int bb,rfl,rfl,hT,rfl,?_⟩;walk_at "wpd";refine⟨fun c2=>?_,fun c2=>?_⟩
   ·have q1:=q H (Same.refl H);unfold zh at q1;rw[decide_eq_true (show 2<=bb by omega),decide_eq_false (show ¬(ps.length:Int)=bb by rw[←hlen];exact c2)] at q1;simpa using q1
   ·have c2':(ys.length:Int)=bb:=by omega
    refine⟨_,_,_,.int bb,rfl,rfl,hT,rfl,?_⟩;refine⟨_,rfl,by omega,by omega,?_⟩;obtain⟨W,hW⟩:∃W:Nat->St->Hp->Prop,W=fun i σ H'=>∃o1 o2:Option V,σ=[some (.ref a),some (.int wh),some (.int st),some (.int r),some (.ref b),o1,o2]/\Same H H'/\zn ss st r bb 0 (ps.take i)=true:=⟨_,rfl⟩
    refine xx W ?_ (fun i σ H' hi z=>?_) (fun σ H' z=>?_)
    ·rw[hW];exact⟨none,none,rfl,Same.refl _,by simp [zn]⟩
    ·rw[hW] at z;refine pA fun Gb hJ=>?_;obtain⟨o1,o2,rfl,g,hr2⟩:=z;refine hJ ?_;have hi2:i<ys.length:=by omega
     refine pA fun Gc hU=>?_;obtain⟨p,e1,hp⟩:=hs.at (List.getElem?_eq_getElem hi2)
     refine hU ?_;have e0:(0:Int)+(i:Int)=i:=by omega
     walk_at "wpd";rw[e0];refine⟨_,_,_,.int bb,rfl,rfl,Same.seqT g hT,rfl,?_⟩;walk_at "wpd";have sp:1<=st*bb:=by
      have:=Int.mul_le_mul s1 (show 1<=bb by omega) (by decide) (by omega);omega
     refine⟨y4H (by omega) (by omega),y4H (by omega) (by omega),?_⟩;refine⟨_,_,_,.ref l,rfl,rfl,Same.seqT g hT,rfl,?_⟩;refine zf (SqL.of (g _ _ hl)) (v:=ys[i]) (zj (List.getElem?_eq_getElem hi2)) ?_;refine⟨a,_,zs,ss,wh,st*bb,r+st*i,p,rfl,g _ _ ha,tb.same g,hw,hd,w0,w1,sp,hp.mono g,?_,fun H3 g3=>?_⟩
     ·have:=Pap.dep_mem (List.mem_of_getElem? e1);omega
     have gg:=g.trans g3;cases c:zh ss (st*bb) (r+st*i) p with
     | true=>
      walk_at "wpd";rw[hW];refine⟨_,_,rfl,gg,?_⟩;rw[xb e1,hr2,Nat.zero_add,c];rfl
     | false=>
      walk_at "wpd";have q1:=q H3 gg;unfold zh at q1;rw[jR e1 (by rw[Nat.zero_add];exact c),Bool.and_false,Bool.and_false] at q1;exact q1
    ·rw[hW] at z;refine pA fun Ge hV=>?_;obtain⟨o1,o2,rfl,g,hr2⟩:=z;refine hV ?_;have et:bb.toNat=ps.length:=by omega
     rw[et,List.take_length] at hr2;walk_at "wpd";have q1:=q H' g;unfold zh at q1;rw[decide_eq_true (show 2<=bb by omega),decide_eq_true (show (ps.length:Int)=bb by omega),hr2] at q1;exact q1
noncomputable def z5w (K:PySem.W.Frag) (d:Nat):Sp:=fun vs H Q _=>∃(a b:Addr) (v:V) (xs ys:List V) (ws us:List T3) (p:Pap) (ss:List T3) (s r:Int),vs=[.ref a,.ref b,v]/\SqL K H a xs/\Pl H xs ws/\SqL K H b ys/\Pl H ys us/\(∀u∈ws,1<=u.1/\u.1<=30)/\(∀u∈us,1<=u.1/\u.1<=30)/\us.length<=100/\ss.length=ws.length*us.length/\PapIn K y0Y H v p/\p.kn<=1000/\p.dep<d/\zh ss s r p=true/\∀M H',Same H H'->IsMx (prd ws us) p.nm M->Q (.int M) H'
theorem z7Y (T:TF K mg "_law_wait" kj) (m_len:mg "len" = none) (m_max:mg "max" = none) (G_law_divisor:Has P w K mg base 1 "_law_divisor" ["one", "other"] xj) :
  ∀d:Nat,Has P w K mg base (d+2) "_law_wait" ["one", "other", "paper"] (z5w K d):=by
 intro d
 induction d with
 | zero=>
  refine T.has jF (fun _ _ _ _ _ _=>L2.bnd3 fun _ _ _=>rfl) (fun vs H Q E h=>?_) (fun f cdv A outer s H vs Q E hr h=>?_)
  ·refine pA fun Gf gC=>?_;obtain⟨_,_,_,_,_,_,_,_,_,_,_,_,_,_,_,_,_,_,_,_,_,_,h,_⟩:=h;refine gC ?_;exact absurd h (Nat.not_lt_zero _)
  ·refine pA fun Gg gE=>?_;obtain⟨_,_,_,_,_,_,_,_,_,_,_,_,_,_,_,_,_,_,_,_,_,_,h,_⟩:=h;refine gE ?_;exact absurd h (Nat.not_lt_zero _)
 | succ d ih=>
 have G_law_wait:=ih;refine T.has jF (fun _ _ _ _ _ _=>L2.bnd3 fun _ _ _=>rfl) (fun vs H Q E h=>?_) (fun f cdv A outer s H vs Q E hr h=>?_)
 ·refine pA fun Gh gF=>?_;obtain⟨a,b,v,xs,ys,ws,us,p,ss,s,r,rfl,_⟩:=h;refine gF ?_;rfl
 refine pA fun Gi gG=>?_;obtain⟨a,b,v,xs,ys,ws,us,p,ss,st,r,rfl,hS,hP,hS2,hP2,hw,hu,lu,ls,hv,kp,dp,hr2,q⟩:=h;refine gG ?_;refine⟨_,(zC (zi (zN xE (zU zZ (pv 2) zF (fun _ _=>rfl)) zS (zX _)) (zC (zR (i:=3) jF.nd rfl (Or.inl rfl) (zU zZ (zU zo (pv 0) (zW yz (zU zZ (pv 2) zF (fun _ _=>rfl)) (zY zc rfl m_len PySem.boot_len (zB (pv 1) zD))) (fun _ _=>rfl)) zF (fun _ _=>rfl))) (zC (zR (i:=4) jF.nd rfl (Or.inl rfl) (zU zZ (zU zo (pv 1) (zW yE (zU zZ (pv 2) zF (fun _ _=>rfl)) (zY zc rfl m_len PySem.boot_len (zB (pv 1) zD))) (fun _ _=>rfl)) zF (fun _ _=>rfl))) (zE (zK (zW xY (zW yz (pv 3) (zL (G_law_divisor.mono (by first|decide|omega)) hr (zB (pv 3) (zB (pv 4) zD)))) (pv 4)))))) zM) (zE (zK (zY (z3z rfl) rfl m_max (by decide +kernel) (zB (ya (CompSc.capt (own:=["part"]) (capt:=["other", "one"]) (fr:=[1,0]) rfl ⟨rfl,rfl,rfl,rfl,rfl,⟨rfl,rfl,rfl,rfl,rfl,trivial⟩⟩ (by decide +kernel) (by decide +kernel) rfl (by decide +kernel)) rfl (yC (zU zZ (pv 2) zF (fun _ _=>rfl))) (fun _ _ _=>(zQ (i:=0) (show (["part", "other", "one"]:List Str).Nodup from by decide +kernel) rfl (Or.inl rfl) (Or.inr rfl))) (fun _ _ _=>yX) (fun _ _ _=>(zL (G_law_wait.mono (by first|decide|omega)) hr (zB (pv 2) (zB (pv 1) (zB (pv 0) zD)))))) zD))))),?_⟩;cases hv with
 | @inn b0 k hb=>
  have hT:SqT K H b0 [.str "in",.int k]:=SqT.of hb;have rn:=vZ hr2;rw[ls] at rn;have kb:=rn.1 k (by simp [Pap.nm]);rw[Int.natCast_mul] at kb;have ul:0<us.length:=by
   rcases Nat.eq_zero_or_pos us.length with z|z
   ·rw[z] at kb;simp at kb;omega
   ·exact z
  have ly:=hP2.1;walk_at "wpd";refine⟨_,_,_,.str "in",rfl,rfl,hT,rfl,rfl,_,rfl,fun _=>?_,fun c=>absurd (decide_eq_true rfl) c⟩;refine⟨_,_,_,.int k,rfl,rfl,hT,rfl,?_⟩;refine⟨b,_,rfl,.inl hS2,?_⟩;rw[ly];have q0:0<=k/(us.length:Int):=Int.ediv_nonneg kb.1 (by omega);have q1:k/(us.length:Int)<ws.length:=Int.ediv_lt_of_lt_mul (by omega) kb.2;have r0:=Int.emod_nonneg k (show (us.length:Int)≠0 by omega);have r1:=Int.emod_lt_of_pos k (show (0:Int)<us.length by omega);refine pA fun Gj gH=>?_;obtain⟨p1,t1,e1,f1,m1,z1⟩:=hP.ix q0 q1;refine gH ?_;refine pA fun Gk gI=>?_;obtain⟨p2,t2,e2,f2,m2,z2⟩:=hP2.ix r0 r1;refine gI ?_;refine⟨_,_,rfl,rfl,y0b 20 (by omega) (by omega) (by decide),zf hS e1 ⟨p1,_,_,_,rfl,rfl,SqT.of z1,zj (j:=0) rfl,?_⟩⟩;refine⟨_,_,_,.int k,rfl,rfl,hT,rfl,b,_,rfl,.inl hS2,?_⟩;rw[ly];refine⟨_,_,rfl,rfl,by show (0:Int)<_;omega,zf hS2 e2 ⟨p2,_,_,_,rfl,rfl,SqT.of z2,zj (j:=0) rfl,?_⟩⟩;have b1:=hw t1 m1;have b2:=hu t2 m2;have gp:=yK (a:=t1.1) (b:=t2.1) (by omega);have gl:zg t1.1 t2.1<=t1.1:=yM _ (by omega);have dl:t1.1/zg t1.1 t2.1<=t1.1:=Int.ediv_le_self _ (by omega);have d0:0<=t1.1/zg t1.1 t2.1:=Int.ediv_nonneg (by omega) (by omega);refine⟨_,_,rfl,by omega,by omega,?_⟩;refine⟨_,_,rfl,rfl,y0b 20 gp (by omega) (by decide),_,_,rfl,rfl,y4H (by omega) (by omega),?_⟩;refine q _ H (Same.refl H) ?_;have ep:t1.1/zg t1.1 t2.1*t2.1=prd ws us k:=by
   rw[y4h b1.1 b2.1];unfold prd;rw[List.getD_eq_getElem?_getD,f1,List.getD_eq_getElem?_getD,f2];rfl
  rw[ep];exact⟨⟨k,by simp [Pap.nm],rfl⟩,fun j hj=>by
   simp only [Pap.nm,List.mem_cons,List.not_mem_nil,or_false] at hj;rw[hj];exact Int.le_refl _⟩
 | @par b0 l bb zs ps hb hl _ lz2 hs=>
  have hT:SqT K H b0 [.str "parted",.int bb,.ref l]:=SqT.of hb;simp only [Pap.dep] at dp;simp only [zh,Bool.and_eq_true,decide_eq_true_eq] at hr2;have hlen:=hs.len;have kl:=Pap.kns_len ps;simp only [Pap.kn] at kp;walk_at "wpd";refine⟨_,_,_,.str "parted",rfl,rfl,hT,rfl,rfl,_,rfl,fun c=>absurd (of_decide_eq_true c) (by decide +kernel),fun _=>?_⟩;refine⟨_,_,_,.ref l,rfl,rfl,hT,rfl,?_⟩;refine⟨l,rfl,⟨_,SqL.of hl⟩,?_⟩;obtain⟨Sv,hSv⟩:∃Sv:St->Prop,Sv=fun σ=>∃o1,σ=[o1,some (.ref b),some (.ref a)]:=⟨_,rfl⟩
  obtain⟨Pv,hPv⟩:∃Pv:Addr->Nat->List V->Hp->Prop,Pv=fun D2 i ws2 H4=>H D2=none/\Same H H4/\∃Ms:List Int,ws2=Ms.map V.int/\Ms.length=i/\∀(j:Nat) (m:Int) (p:Pap),Ms[j]?=some m->ps[j]?=some p->IsMx (prd ws us) p.nm m:=⟨_,rfl⟩
  refine yL (xs:=zs) Sv Pv (by rw[hSv];exact⟨none,rfl⟩) (fun D2 hD2=>?_) (fun D2 i ys2 H4 hD2 h=>?_) (fun D2 i x ys2 σ H4 hx hi hs2 hD2 hy h=>?_) (fun D2 ys2 H4 hD2 h=>?_)
  ·rw[hPv];exact⟨hD2,zJ hD2 _,[],rfl,rfl,fun j m p e=>by simp at e⟩
  ·rw[hPv] at h;exact SqL.of (h.2.1 _ _ hl)
  ·rw[hSv] at hs2;rw[hPv] at h;obtain⟨o1,rfl⟩:=hs2;refine pA fun Gm gJ=>?_;obtain⟨nD2,g,Ms,rfl,lM,hM⟩:=h;refine gJ ?_;refine pA fun Gn gK=>?_;obtain⟨p,e1,hp⟩:=hs.at hx;refine gK ?_;have mp:=List.mem_of_getElem? e1;have k1:=Pap.kn_mem mp;have k2:=Pap.dep_mem mp;walk_at "wpd";refine⟨a,b,x,xs,ys,ws,us,p,ss,_,_,rfl,g.seq hS,hP.same g,g.seq hS2,hP2.same g,hw,hu,lu,ls,hp.mono g,by omega,by omega,qq hr2.2.2 e1,fun M H5 g5 hM5=>?_⟩;refine CompP.mk (g5 _ _ hD2) hy (by rw[sizeLine_eq];omega) (by rw[hSv];exact⟨_,rfl⟩) (by
    rw[hPv];refine⟨nD2,(g.trans g5).write nD2 _,Ms++[M],by simp,by simp [lM],fun j m p' e f=>?_⟩;by_cases c:j<Ms.length
    ·rw[List.getElem?_append_left c] at e;exact hM j m p' e f
    ·rw[List.getElem?_append_right (by omega)] at e;have ej:j-Ms.length=0:=by
      cases z:j-Ms.length with
      | zero=>rfl
      | succ n=>rw[z] at e;simp at e
     rw[ej] at e;cases e;have:j=i:=by omega
     rw[this,e1] at f;cases f;exact hM5)
  ·rw[hPv] at h;refine pA fun Go gL=>?_;obtain⟨nD2,g,Ms,rfl,lM,hM⟩:=h;refine gL ?_;refine⟨D2,Ms,rfl,SqL.of hD2,fun e=>?_,fun M h1 h2=>q M H4 g ?_⟩
   ·rw[e] at lM;simp at lM;omega
   ·exact y1f (by omega) hM h1 h2
end
section
variable {P:Program} {w:World} {K:PySem.W.Frag} {mg:Str->Option Value} {base:Heap}
local macro_rules | `(tactic| walk_at "wpd")=>`(tactic| try simp only [z4Q,z5n,z6c,z5m,z8I,z0W,z6G,z2n,y2J,z4Y,z4e,z2S,z4S,z1G,z1J,vA,z1Q,z1P,y2q,z7z,z7y,z8D,z8A,z8g,y3F,y3D,z4u,z4t,z1F,y2r,y3p,z9z,y0A,z4f,z8C,z4V,z1U,z4U,z1I,z8G,z4W,z1R,z4P,z4X,z1T,z8K,wz,z4T,z9y,z4d,z9Y,z8B,kd,z1H,z8L,z4c,z1E,z5X,z2T,z5Y,z4Z,z2B,z2A,z1y,z1z,z1x,z2C,z4R,z2D,z5F,z5H,z5E,z1w,z2E,vm,z5G,z4a,z5C,z1t,z1O,z4b,z4s,kx,z1L,z1N,qZ,z1K,z1M,z1S,z5D,L2.qc,y0I,z2X,z0C,List.map_cons,List.map_nil,List.length_cons,List.length_nil,List.replicate,List.cons_append,List.nil_append,List.append_nil,List.set_cons_zero,List.set_cons_succ,decide_eq_true_eq,Bool.not_eq_true',decide_eq_false_iff_not,Bool.not_eq_eq_eq_not,Bool.not_true,Bool.not_false,sizeLine_eq,oV,reduceCtorEq,z9V,z9W,z9U,z9X,Nat.reduceAdd,Nat.reduceSub,Nat.reduceLeDiff,Nat.zero_add,true_and,and_true,forall_const,Bool.false_eq_true,if_true,if_false,false_implies,true_implies,not_false_eq_true,not_true_eq_false,implies_true])
noncomputable def sp_law (K:PySem.W.Frag):Sp:=fun vs H Q _=>∃(a:Addr) (ns:List Int),vs=[.ref a]/\SqL K H a (ns.map V.int)/\ns.length<=63/\(∀z∈ns,Builtin.Int.intBits z<=2^20)/\∀H',Q (.bl true) H'
theorem sp_start (K:PySem.W.Frag) (H:Hp) (a:Addr) (ns:List Int) (h1:ns.length<=63) (hb:∀z∈ns,Builtin.Int.intBits z<=2^20) (h2:SqL K H a (ns.map V.int)):sp_law K [.ref a] H (fun v _=>v=.bl true) fun _ _ _=>False:=⟨a,ns,rfl,h2,h1,hb,fun _=>rfl⟩
noncomputable def z4K:List Nat:=[97,110,110]
noncomputable def z4C:List Nat:=[98,111,98]
noncomputable def y5d:Str:=tx z4K
noncomputable def y5b:Str:=tx z4C
theorem jA (k l:List Nat):tx k++tx l=tx (k++l):=by
 show Str.mk _=Str.mk _;congr 1;simp [tx]
theorem z7w (v:V):List.lookup (Str.ofString "told") [((Str.ofString "plans"),v)]=none:=by
 rw[List.lookup_cons,show ((Str.ofString "told") == (Str.ofString "plans"))=false by decide +kernel];rfl
theorem z6R (z y:Str) (hi i f:Nat):∀(n k:Nat),(forIn (List.range' k n) (#[i],f) (StrLaws.occBody z y hi 1)).run=(#[i],f)
 | 0,k=>rfl
 | n+1,k=>by
  show (forIn (k::List.range' (k+1) n) (#[i],f) (StrLaws.occBody z y hi 1)).run=_;rw[List.forIn_cons];have hb:StrLaws.occBody z y hi 1 k (#[i],f)=pure (ForInStep.yield (#[i],f)):=by
   unfold StrLaws.occBody;exact if_neg fun h=>by have:=h.1.1.1;simp at this
  rw[hb];exact z6R z y hi i f n (k+1)
theorem z6Q (z y:Str) (hi i m:Nat) (h1:i+y.length<=hi) (h2:Builtin.Str.subAt z y i=true):∀(n k:Nat),k+n=i->(∀j,k<=j->j<i->Builtin.Str.subAt z y j=false)->(forIn (List.range' k (n+(m+1))) (#[],0) (StrLaws.occBody z y hi 1)).run=(#[i],i+y.length)
 | 0,k,e,_=>by
  have e:k=i:=by omega
  subst e;rw[Nat.zero_add];show (forIn (k::List.range' (k+1) m) (#[],0) (StrLaws.occBody z y hi 1)).run=_;rw[List.forIn_cons];have hb:StrLaws.occBody z y hi 1 k (#[],0)=pure (ForInStep.yield (#[k],k+y.length)):=by
   unfold StrLaws.occBody;exact if_pos ⟨⟨⟨by simp,Nat.zero_le _⟩,h1⟩,h2⟩
  rw[hb];exact z6R z y hi k _ m (k+1)
 | n+1,k,e,hn=>by
  rw[show n+1+(m+1)=(n+(m+1))+1 by omega];show (forIn (k::List.range' (k+1) (n+(m+1))) (#[],0) (StrLaws.occBody z y hi 1)).run=_;rw[List.forIn_cons];have hb:StrLaws.occBody z y hi 1 k (#[],0)=pure (ForInStep.yield (#[],0)):=by
   unfold StrLaws.occBody;exact if_neg fun h=>by rw[hn k (Nat.le_refl _) (by omega)] at h;exact nomatch h.2
  rw[hb];exact z6Q z y hi i m h1 h2 n (k+1) (by omega) fun j h3 h4=>hn j (by omega) h4
theorem z8y {z y:Str} {i:Nat} (h1:i+y.length<=z.length) (h2:Builtin.Str.subAt z y i=true) (h3:∀j,j<i->Builtin.Str.subAt z y j=false):Builtin.Str.occurrences z y 0 z.length 1=[i]:=by
 rw[StrLaws.occ_eq];have e:z.length+1-0=i+((z.length-i)+1):=by omega
 rw[e,z6Q z y z.length i (z.length-i) h1 h2 i 0 (by omega) fun j _ hj=>h3 j hj]
theorem y3W {l r:List Nat} (hl:∀c∈l,c≠32):Txt.partition (tx (l++bbL++r)) (tx bbL)=(tx l,tx bbL,tx r):=by
 have nb:bbL.length=4:=by decide +kernel
 have b0:bbL[0]?=some 32:=by decide +kernel
 have sb:∀j,Builtin.Str.subAt (tx (l++bbL++r)) (tx bbL) j=true->j+bbL.length<=(l++bbL++r).length->((l++bbL++r).drop j).take bbL.length=bbL:=fun j h h2=>by
  have:=z5o (l++bbL++r) bbL j (by rw[nb];decide);rw[h,zP,zP,decide_eq_true h2] at this;exact of_decide_eq_true this.symm
 have occ:Builtin.Str.occurrences (tx (l++bbL++r)) (tx bbL) 0 (tx (l++bbL++r)).length 1=[l.length]:=by
  refine z8y ?_ ?_ fun j hj=>?_
  ·rw[zP,zP];simp only [List.length_append];omega
  ·have:=z5o (l++bbL++r) bbL l.length (by rw[nb];decide);have e:((l++bbL++r).drop l.length).take bbL.length=bbL:=by
    rw[List.append_assoc,List.drop_left,List.take_left]
   rw[decide_eq_true e] at this;rw[Bool.and_eq_true] at this;exact this.2
  ·cases c:Builtin.Str.subAt (tx (l++bbL++r)) (tx bbL) j with
   | false=>rfl
   | true=>
    exfalso;have e:=sb j c (by simp only [List.length_append];omega);have e0:(((l++bbL++r).drop j).take bbL.length)[0]?=some 32:=by rw[e];exact b0
    rw[List.getElem?_take_of_lt (by omega),List.getElem?_drop,Nat.add_zero,List.append_assoc,List.getElem?_append_left hj] at e0;exact hl 32 (List.mem_of_getElem? e0) rfl
 unfold Txt.partition;rw[occ];show (Builtin.Str.strSub (tx (l++bbL++r)) 0 l.length,tx bbL,Builtin.Str.strSub (tx (l++bbL++r)) (l.length+(tx bbL).length) (tx (l++bbL++r)).length)=_;have e1:Builtin.Str.strSub (tx (l++bbL++r)) 0 l.length=tx l:=by
  rw[yv,zd,List.drop_zero,Nat.sub_zero,List.append_assoc,List.take_left]
 have e2:Builtin.Str.strSub (tx (l++bbL++r)) (l.length+(tx bbL).length) (tx (l++bbL++r)).length=tx r:=by
  rw[yv,zd,zP,zP,List.drop_append_of_le_length (by simp),List.drop_of_length_le (by simp)];simp only [List.nil_append];rw[List.take_of_length_le];simp only [List.length_append];omega
 rw[e1,e2]
theorem z8W (l:List Nat) (k:Nat):Txt.slice (tx l) none (some (k:Int))=tx (l.take k):=by
 rcases Nat.le_total k l.length with h|h
 ·have e:Txt.slice (tx l) none (some (k:Int))=Txt.slice (tx l) (some ((0:Nat):Int)) (some (k:Int)):=by
   show StrLaws.sliceText _ _ _=StrLaws.sliceText _ _ _;unfold StrLaws.sliceText;have m0:max 0 (min 0 (l.length:Int))=0:=by omega
   rw[zP];simp [Builtin.Str.strSliceIndices,m0]
  rw[e,wf (Nat.zero_le _) h];simp
 ·have e:Txt.slice (tx l) none (some (k:Int))=Txt.slice (tx l) (some ((0:Nat):Int)) (some (l.length:Int)):=by
   show StrLaws.sliceText _ _ _=StrLaws.sliceText _ _ _;unfold StrLaws.sliceText;rw[zP];have m0:max 0 (min 0 (l.length:Int))=0:=by omega
   have a:¬((k:Int)<0):=by omega
   have b:¬((l.length:Int)<0):=by omega
   have m1:min (k:Int) (l.length:Int)=l.length:=by omega
   simp [Builtin.Str.strSliceIndices,m0,m1,a,b]
  rw[e,wf (Nat.zero_le _) (Nat.le_refl _),List.take_of_length_le h];simp
theorem z8M {H H':Hp} {c pd:Addr} {xs:List V} {kv:List (Key×V)} (h:SqL K H c xs) (hp:H pd=some (.dK kv)) (g:y6C pd H H'):SqL K H' c xs:=by
 rcases h with (h|⟨o,h⟩)|h
 ·exact .inl (.inl (g _ _ (wC h hp (by intro z;cases z)) h))
 ·exact .inl (.inr ⟨o,g _ _ (wC h hp (by intro z;cases z)) h⟩)
 ·exact .inr h
noncomputable def z0h:Sp:=fun vs H Q _=>∃c:Int,vs=[.int c]/\∀(t:Int) (H':Hp),Same H H'->-(10^40)<=t->t<=10^40->Q (.int t) H'
theorem z5S (T:TF K mg "_law_great" qk):Has P w K mg base 1 "_law_great" ["cell"] z0h:=by
 refine T.has wU (fun _ _ _ _ _ _=>L2.bnd1 fun _=>rfl) (fun vs H Q E h=>?_) (fun f cdv A outer s H vs Q E hr h=>?_)
 ·refine pA fun Gp gM=>?_;obtain⟨c,rfl,_⟩:=h;refine gM ?_;rfl
 refine pA fun Gq gN=>?_;obtain⟨c,rfl,q⟩:=h;refine gN ?_;refine⟨_,(zC (zR (i:=1) wU.nd rfl (Or.inl rfl) (zW yE (zW yz (pv 0) zF) (zW y4o zF zF))) (zE (zK (zU zo (yq (zB (pv 1) (zB (zW xD zF (pv 1)) zD))) (zW yE (pv 0) zF) (fun _ _=>rfl))))),?_⟩;walk_at "wpd";have b2:=y2T (c/2) (show (0:Int)<10^Int.toNat 40 by decide);have e:(10:Int)^Int.toNat 40=10^40:=rfl;have bc:=y2T c (show (0:Int)<2 by decide);refine⟨y0b 10 (by decide) (by decide) (by decide),⟨by decide,by decide,by decide⟩,by decide,fun p np=>⟨by decide,?_⟩⟩;have v:=wq (Pz:=fun z=>-(10^40)<=z/\z<=10^40) (zs:=[c/2%10^Int.toNat 40,0-c/2%10^Int.toNat 40]) (i:=(c%2).toNat) (by
  intro z hz;simp only [List.mem_cons,List.not_mem_nil,or_false] at hz;rw[e] at hz b2;rcases hz with rfl|rfl <;> omega) (by simp;omega)
 exact zf (SqL.of zH) (xg (zs:=[c/2%10^Int.toNat 40,0-c/2%10^Int.toNat 40]) bc.1 (by simp;omega)) (q _ _ (zJ np _) v.1 v.2)
noncomputable def z8Q:Sp:=fun vs H Q _=>∃n:Int,vs=[.str (tx (dg n))]/\0<=n/\n<=1000/\Q (.int n) H
theorem kW (T:TF K mg "_law_whole_number" ym) (m_len:mg "len" = none) (m_int:mg "int" = none):Has P w K mg base 1 "_law_whole_number" ["word"] z8Q:=by
 refine T.has xR (fun _ _ _ _ _ _=>L2.bnd1 fun _=>rfl) (fun vs H Q E h=>?_) (fun f cdv A outer s H vs Q E hr h=>?_)
 ·refine pA fun Gr gO=>?_;obtain⟨n,rfl,_⟩:=h;refine gO ?_;rfl
 refine pA fun Gs gP=>?_;obtain⟨n,rfl,n0,n1,q⟩:=h;refine gP ?_;refine⟨_,(zC (zi (PW.pt (z7K (zN xE (pv 0) zS (zX _)) (z7K (zN z7M (zY yO rfl m_len PySem.boot_len (zB (pv 0) zD)) zF (zX _)) (z3K (PW.pt (z8h (zN kQ (pv 0) zS (zX _)) (z4v (zN xE (zU z9S (pv 0) zF (fun _ _=>rfl)) zS (zX _))))))))) (zE (zK (z7L z0V zF))) zM) (zC (y6 PassesOwn.never rfl (z8m (pv 0)) (zQ (i:=1) xR.nd rfl (Or.inl rfl)) (zE (zi (zN z3R (pv 1) zS rfl) (zE (zK (z7L z0V zF))) zM))) (zE (zK (yA xN rfl m_int (by decide +kernel) (zB (pv 0) zD)))))),?_⟩;walk_at "wpd";have d:DgOk n:=z7f n0 (Int.lt_of_le_of_lt n1 (by decide +kernel));have em:Str.ofString "" = tx []:=by decide +kernel
 have ze:Str.ofString "0" = tx [48]:=by decide +kernel
 have ln:(dg n).length<=4:=by
  refine pA fun Gu gQ=>?_;obtain⟨l,e,_,_,_,_,f⟩:=z6S n0;refine gQ ?_;have el:dg n=l:=by
   unfold dg;rw[e,zd]
  rw[el];exact f 3 (by omega)
 obtain⟨c0,r0,e0⟩:∃c r,dg n=c::r:=by
  cases h:dg n with
  | nil=>exact absurd h d.ne
  | cons c r=>exact⟨c,r,rfl⟩
 have both:∀ {k A B:Prop},(B->k->A)->B->(k->A)/\(¬k->B):=fun f b=>⟨f b,fun _=>b⟩
 rw[em,ze];refine eqT ⟨_,rfl,fun c=>absurd (of_decide_eq_true c) d.ne,fun _=>⟨_,rfl,by rw[zP];omega,fun c=>?_,fun _=>neT ⟨_,rfl,both (fun b c=>?_) ?_⟩⟩⟩
 ·rw[zP] at c;omega
 ·refine⟨_,_,c0,rfl,rfl,by rw[zP];show _<=16777216;omega,by rw[zd,e0];exact zj (j:=0) rfl,?_⟩;refine eqT (l:=[c0]) ⟨_,rfl,fun c1=>?_,fun _=>b⟩;exfalso;have c1:c0=48:=by simpa using c1
  have z1:=d.zero (by rw[e0,c1];rfl);have e2:dg n=[48]:=by
   rw[e0] at z1 ⊢;have:r0=[]:=List.length_eq_zero_iff.mp (by simpa using z1);rw[this,c1]
  rw[e2] at c;exact absurd c (by decide)
 ·refine⟨_,rfl,y0W.mpr fun x hx=>?_,?_⟩
  ·rw[zd] at hx;have:=d.all x hx;omega
  obtain⟨Pv,hPv⟩:∃Pv:Nat->St->Hp->Prop,Pv=fun i σ H3=>∃o,σ=[some (.str (tx (dg n))),o]/\H3=H:=⟨_,rfl⟩
  refine y1r Pv (by rw[hPv];exact⟨none,rfl,rfl⟩) (fun i c σ H3 hx h=>?_) (fun σ H3 h=>?_)
  ·rw[hPv] at h;refine pA fun Gv gR=>?_;obtain⟨o,rfl,rfl⟩:=h;refine gR ?_;have hx':(dg n)[i]?=some c:=by
    rw[←zd (dg n),Array.getElem?_toList];exact hx
   have fc:=d.all c (List.mem_of_getElem? hx');walk_at "wpd";have fb:=y2a c;have ft:y1w c=true:=by unfold y1w;simp;omega
   rw[ft] at fb;refine⟨_,_,rfl,rfl,fun z=>?_,fun _=>?_⟩
   ·rw[z] at fb;cases fb
   ·rw[hPv];exact⟨_,rfl,rfl⟩
  ·rw[hPv] at h;refine pA fun Gw gS=>?_;obtain⟨o,rfl,rfl⟩:=h;refine gS ?_;walk_at "wpd";have rd:=intText_digits (x:=tx (dg n)) (by rw[zd];exact d.all) (by rw[zd];exact d.ne) (by rw[zP];omega);rw[zd,d.val] at rd;exact⟨_,_,rfl,rd,by rw[zP];omega,q⟩
theorem z5f {ws:List T3} {t:Int}:zx ws t=true ↔ ∃u∈ws,awP u t:=by
 unfold zx;rw[List.any_eq_true];refine⟨fun⟨u,h,e⟩=>⟨u,h,by unfold awk at e;exact (of_decide_eq_true e:(t-u.2.1)%u.1<u.2.2)⟩,fun⟨u,h,e⟩=>⟨u,h,by unfold awk;exact decide_eq_true (show (t-u.2.1)%u.1<u.2.2 from e)⟩⟩
theorem y2O {ws us:List T3} {d:Int} (hw:∀u∈ws,Wk u) (hu:∀u∈us,Wk u):zx (shs ws us) d=true ↔ ∃x,ka ws us d x:=by
 rw[z5f];constructor
 ·rintro⟨x,hx,a⟩;refine pA fun Gx gU=>?_;obtain⟨u,mu,v,mv,rfl⟩:=wD.mp hx;refine gU ?_;refine pA fun Gy gW=>?_;obtain⟨t,h1,h2⟩:=(z1c (hw u mu) (hu v mv) d).mp a;refine gW ?_;exact⟨t,⟨u,mu,h1⟩,v,mv,h2⟩
 ·rintro⟨t,⟨u,mu,h1⟩,v,mv,h2⟩;exact⟨sh2 u v,wD.mpr ⟨u,mu,v,mv,rfl⟩,(z1c (hw u mu) (hu v mv) d).mpr ⟨t,h1,h2⟩⟩
theorem vY {ws:List T3} (hw:∀u∈ws,Wk u):∀(n:Nat) {p:Pap} {s r:Int},p.dep<n->zh ws s r p=true->∀k:Int,∃j∈p.nm,0<=j/\j<ws.length/\y6B (ws.getD j.toNat (1,0,1)) (r+s*k)
 | 0,_,_,_,h,_,_=>absurd h (Nat.not_lt_zero _)
 | n+1,.inn j,s,r,_,h,k=>by
  unfold zh at h;simp only [Bool.and_eq_true,decide_eq_true_eq] at h;refine pA fun Gz gX=>?_;obtain⟨h0,h1,h2⟩:=h;refine gX ?_;have hj:j.toNat<ws.length:=by omega
  have e:ws.getD j.toNat (1,0,1)=ws[j.toNat]:=by rw[List.getD_eq_getElem?_getD,List.getElem?_eq_getElem hj];rfl
  rw[e] at h2;refine⟨j,by simp [Pap.nm],h0,h1,?_⟩;rw[e];exact z6X (hw _ (List.getElem_mem hj)) h2 k
 | n+1,.par b ps,s,r,hd,h,k=>by
  unfold zh at h;simp only [Bool.and_eq_true,decide_eq_true_eq] at h;refine pA fun G0 gZ=>?_;obtain⟨h0,h1,h2⟩:=h;refine gZ ?_;simp only [Pap.dep] at hd;have m0:=Int.emod_nonneg k (show b≠0 by omega);have m1:=Int.emod_lt_of_pos k (show 0<b by omega);have hc:(k%b).toNat<ps.length:=by omega
  have g:=qq h2 (List.getElem?_eq_getElem hc);have dm:=Pap.dep_mem (List.getElem_mem hc);rw[Nat.zero_add] at g;have e0:(((k%b).toNat:Nat):Int)=k%b:=by omega
  rw[e0] at g;refine pA fun Ga hC=>?_;obtain⟨j,hj,j0,j1,ha⟩:=vY hw n (by omega) g (k/b);refine hC ?_;refine⟨j,z1q.mpr ⟨_,List.getElem_mem hc,hj⟩,j0,j1,?_⟩;have e:=Int.mul_ediv_add_emod k b;have e3:r+s*k=r+s*(k%b)+s*b*(k/b):=by
   have:k=k%b+b*(k/b):=by omega
   calc r+s*k=r+s*(k%b+b*(k/b)):=by rw[←this]
    _=r+s*(k%b)+s*b*(k/b):=by rw[Int.mul_add,←Int.mul_assoc];omega
  rw[e3];exact ha
theorem y3J {a b:Int} (ha:1<=a) (hb:1<=b):0<yp [a,b]/\a∣yp [a,b]/\b∣yp [a,b]:=by
 have h:∀x∈[a,b],1<=x:=fun x hx=>by
  simp only [List.mem_cons,List.not_mem_nil,or_false] at hx;rcases hx with rfl|rfl <;> assumption
 have:=xM h;exact⟨by omega,qM h a (by simp),qM h b (by simp)⟩
theorem z6t {ws us:List T3} (hw:∀u∈ws,Wk u) (hu:∀u∈us,Wk u) {p:Pap} (hR:zh (shs ws us) 1 0 p=true) {M:Int} (hM:IsMx (prd ws us) p.nm M) {d t:Int} {r:Option Int} (h:NextOf (ka ws us d) t r):∃x,r=some x/\t<=x/\x<t+M/\ka ws us d x:=by
 refine pA fun Gb hJ=>?_;obtain⟨j,hj,j0,j1,a⟩:=vY (z3B hw hu) (p.dep+1) (by omega) hR d;refine hJ ?_;rw[jC] at j1;rw[Int.zero_add,Int.one_mul] at a;have jn:j.toNat<ws.length*us.length:=by omega
 rw[y2P jn] at a;have n0:0<us.length:=by
  rcases Nat.eq_zero_or_pos us.length with z|z
  ·rw[z] at jn;simp at jn
  ·exact z
 have i1:j.toNat/us.length<ws.length:=Nat.div_lt_of_lt_mul (by rw[Nat.mul_comm];exact jn);have i2:j.toNat%us.length<us.length:=Nat.mod_lt _ n0;have e1:ws.getD (j.toNat/us.length) (1,0,1)=ws[j.toNat/us.length]:=by rw[List.getD_eq_getElem?_getD,List.getElem?_eq_getElem i1];rfl
 have e2:us.getD (j.toNat%us.length) (1,0,1)=us[j.toNat%us.length]:=by rw[List.getD_eq_getElem?_getD,List.getElem?_eq_getElem i2];rfl
 rw[e1,e2] at a;have mu:=List.getElem_mem i1;have mv:=List.getElem_mem i2;refine pA fun Gc hU=>?_;obtain⟨x0,x1,x2⟩:=(z1c (hw _ mu) (hu _ mv) d).mp a;refine hU ?_;have P0:=y3J (hw _ mu).1 (hu _ mv).1;refine pA fun Ge hV=>?_;obtain⟨x,h1,h2,h3,h4⟩:=z9A mu mv x1 x2 P0.1 P0.2.1 P0.2.2 h;refine hV ?_;refine⟨x,h1,h2,?_,h4⟩;have hb:=hM.2 j hj;have ed:(j/(us.length:Int)).toNat=j.toNat/us.length:=by
  have:j=(j.toNat:Int):=by omega
  rw[this,←Int.natCast_ediv,Int.toNat_natCast,Int.toNat_natCast]
 have em:(j%(us.length:Int)).toNat=j.toNat%us.length:=by
  have:j=(j.toNat:Int):=by omega
  rw[this,←Int.natCast_emod,Int.toNat_natCast,Int.toNat_natCast]
 unfold prd at hb;rw[ed,em,e1,e2] at hb;omega
theorem wu {ws us:List T3} {s t:Int}:wb ws us s t=true ↔ ka ws us s t:=by
 unfold wb ka;rw[Bool.and_eq_true,z5f,z5f]
noncomputable def y2M (K:PySem.W.Frag) (C:Addr):Sp:=fun vs H Q _=>∃(d pd a b:Addr) (n:Nat) (L:z7n) (xs ys:List V) (ws us:List T3) (sh t M:Int),vs=[.ref d,.ref a,.ref b,.int sh,.int t,.int M]/\Dsk C H d pd n L/\n<=1000/\L y5d=some ws/\L y5b=some us/\KpP ws/\KpP us/\H a=some (.lst xs)/\Pl H xs ws/\H b=some (.lst ys)/\Pl H ys us/\-(10^60)<=sh/\sh<=10^60/\-(10^60)<=t/\t<=10^60/\0<=M/\M<=1000/\(∀r,NextOf (ka ws us sh) t r->∃x,r=some x/\t<=x/\x<t+M/\ka ws us sh x)/\∀H',Same H H'->Q (.bl true) H'
theorem z6V {sh t:Int} (h0:-(10^60)<=sh) (h1:sh<=10^60) (t0:-(10^60)<=t) (t1:t<=10^60):SgOk sh/\SgOk t/\y5V (dg sh) sh/\y5V (dg t) t/\kM (glu 32 [z0P,z4K,z4C,dg sh,dg t])=some [z0P,z4K,z4C,dg sh,dg t]/\TxOk (glu 32 [z0P,z4K,z4C,dg sh,dg t]):=by
 have e100:(10:Int)^60<10^100:=by decide +kernel
 have sg1:=y5Y (n:=sh) (by omega) (by omega);have sg2:=y5Y (n:=t) (by omega) (by omega);have ld1:=sg1.len;have ld2:=sg2.len;refine⟨sg1,sg2,y4w h0 h1,y4w t0 t1,y0w (by decide) (by decide) sg1 sg2,?_⟩;refine⟨Nat.le_trans (wH (M:=101) fun x hx=>?_) (by show 5*102<=100000;decide),vz (Pz:=fun x=>x<128) (by decide) fun x hx=>?_⟩
 ·simp only [List.mem_cons,List.not_mem_nil,or_false] at hx;rcases hx with rfl|rfl|rfl|rfl|rfl
  ·decide
  ·decide
  ·decide
  ·omega
  ·omega
 ·simp only [List.mem_cons,List.not_mem_nil,or_false] at hx;rcases hx with rfl|rfl|rfl|rfl|rfl
  ·decide
  ·decide
  ·decide
  ·exact z6F sg1
  ·exact z6F sg2
noncomputable def y4t:List Nat:=z0P++[32]++z4K++[32]++z4C++[32]
theorem y2U:Str.ofString "meet ann bob " = tx y4t:=by decide +kernel
theorem z9L (k l:List Nat):y4t++k++[32]++l=glu 32 [z0P,z4K,z4C,k,l]:=by simp [glu,y4t]
theorem z6k:Str.ofString " " = tx [32]:=by decide +kernel
theorem qP {C:Addr} (cl_Desk:Cls K C) (T:TF K mg "_law_first_together" y7) (m_str:mg "str" = none) (m_isinstance:mg "isinstance" = none) (m_range:mg "range" = none) (G_Desk_told:HasM P w K mg base 22 C "told" ["self", "row"] (vE K C)) (G_law_both:Has P w K mg base 2 "_law_both" ["one", "other", "shift", "turn"] (z1Y K)):Has P w K mg base 23 "_law_first_together" ["desk", "one", "other", "shift", "turn", "most"] (y2M K C):=by
 refine T.has yW (fun _ _ _ _ _ _=>L2.bnd6 fun _ _ _ _ _ _=>rfl) (fun vs H Q E h=>?_) (fun f cdv A outer s H vs Q E hr h=>?_)
 ·refine pA fun Gf gC=>?_;obtain⟨d,pd,a,b,n,L,xs,ys,ws,us,sh,t,M,rfl,_⟩:=h;refine gC ?_;rfl
 refine pA fun Gg gE=>?_;obtain⟨d,pd,a,b,n,L,xs,ys,ws,us,sh,t,M,rfl,hk,hn,hA,hB,kw,ku,ha,hP,hb,hP2,s0,s1,t0,t1,M0,M1,hx,q⟩:=h;refine gE ?_;refine⟨_,(zC (yU (zR (i:=6) yW.nd rfl (Or.inl rfl) (xJ (pv 0) cl_Desk (G_Desk_told.mono (by first|decide|omega)) hr (zB (zW yY (zW yY (zW yY zS (yA yN rfl m_str (by decide +kernel) (zB (pv 3) zD))) zS) (yA yN rfl m_str (by decide +kernel) (zB (pv 4) zD))) zD)))) (zC (y6 PassesOwn.never rfl (xX rfl m_range (zB (pv 5) zD)) (zQ (i:=7) yW.nd rfl (Or.inl rfl)) (zE (zi (yd (zL (G_law_both.mono (by first|decide|omega)) hr (zB (pv 1) (zB (pv 2) (zB (pv 3) (zB (zW ye (pv 4) (pv 7)) zD))))) (fun _=>rfl)) (zE (zK (kP (zY z2a rfl m_isinstance (by decide +kernel) (zB (pv 6) (zB (z4x (v:=.ty "str") rfl m_str (by decide +kernel) rfl) zD))) (wW (jU xE (pv 6) (yA yN rfl m_str (by decide +kernel) (zB (zW ye (pv 4) (pv 7)) zD)) (zX _)))))) zM))) (zE (zK xC)))),?_⟩;walk_at "wpd";refine pA fun Gh gF=>?_;obtain⟨sg1,sg2,kt1,kt2,row,tok⟩:=z6V s0 s1 t0 t1;refine gF ?_;have ld1:=sg1.len;have ld2:=sg2.len;have lm:y4t.length=13:=rfl;refine⟨fun σ H'=>∃y,σ=[some (.ref d),some (.ref a),some (.ref b),some (.int sh),some (.int t),some (.int M),some (.str (tx (dg y))),none]/\Same H H'/\t<=y/\y<t+M/\ka ws us sh y/\∀z,t<=z->z<y->¬ka ws us sh z,?_,?_⟩
 ·walk_at "wpd";obtain⟨dx,hd⟩:=hk.1;refine⟨d,dx,_,rfl,hd,z7w _,sh,rfl,sg1.sz,?_⟩;rw[xI,y2U,z6k];refine⟨_,_,rfl,rfl,by rw[zP,zP];omega,?_⟩;rw[jA];refine⟨_,_,rfl,rfl,by rw[zP,zP,List.length_append,List.length_singleton];omega,t,rfl,sg2.sz,?_⟩;rw[jA,xI];refine⟨_,_,rfl,rfl,by rw[zP,zP,List.length_append,List.length_append,List.length_singleton];omega,?_⟩;rw[jA,z9L];refine⟨d,pd,_,n,L,rfl,hk,hn,tok,.inr (.inr ⟨z4K,z4C,dg sh,dg t,sh,t,ws,us,row,kt1,kt2,hA,hB,fun r H' g hr=>?_⟩)⟩;refine pA fun Gi gG=>?_;obtain⟨y,rfl,y0,y1,y2⟩:=hx r hr;refine gG ?_;refine⟨y,?_,g,y0,y1,y2,hr.2.2⟩;rw[show y5c (some y)=tx (dg y) from xI y]
 rintro σ H1 ⟨y,rfl,g1,y0,y1,y2,y3⟩;walk_at "wpd";refine⟨M,rfl,by omega,by omega,?_⟩;obtain⟨W,hW⟩:∃W:Nat->St->Hp->Prop,W=fun (i:Nat) (σ:St) (H':Hp)=>∃o,σ=[some (.ref d),some (.ref a),some (.ref b),some (.int sh),some (.int t),some (.int M),some (.str (tx (dg y))),o]/\Same H H'/\t+(i:Int)<=y:=⟨_,rfl⟩
 refine xx W ?_ (fun i σ H' hi z=>?_) (fun σ H' z=>?_)
 ·rw[hW];exact⟨none,rfl,g1,by omega⟩
 ·rw[hW] at z;refine pA fun Gj gH=>?_;obtain⟨o,rfl,g,hy⟩:=z;refine gH ?_;have e0:(0:Int)+(i:Int)=i:=by omega
  walk_at "wpd";rw[e0];refine⟨a,b,xs,ys,ws,us,sh,t+i,rfl,SqL.of (g _ _ ha),hP.same g,SqL.of (g _ _ hb),hP2.same g,kw.1,ku.1,by have:=kw.2.2;omega,by have:=ku.2.2;omega,fun H2 g2=>⟨_,rfl,fun c=>?_,fun c=>?_⟩⟩
  ·have ey:t+(i:Int)=y:=by
    rcases Int.lt_or_eq_of_le hy with z|z
    ·exact absurd (wu.mp c) (y3 _ (by omega) z)
    ·exact z
   rw[ey];refine⟨_,_,_,true,rfl,.str _,rfl,true,rfl,fun _=>?_,fun c=>absurd rfl c⟩;have e900:(10:Int)^60+1000<10^100:=by decide +kernel
   have sgy:=y5Y (n:=y) (by omega) (by omega);refine⟨y,rfl,sgy.sz,?_⟩;rw[xI];refine eqT ?_;rw[decide_eq_true rfl];exact q H2 (g.trans g2)
  ·rw[hW];refine⟨_,rfl,g.trans g2,?_⟩;rcases Int.lt_or_eq_of_le hy with z|z
   ·omega
   ·rw[z] at c;exact absurd (wu.mpr y2) c
 ·rw[hW] at z;refine pA fun Gk gI=>?_;obtain⟨o,rfl,g,hy⟩:=z;refine gI ?_;omega
theorem z0n {ws:List T3} {s r b:Int}:∀ {ps:List Pap} {c:Nat},(∀(i:Nat) (p:Pap),ps[i]?=some p->zh ws (s*b) (r+s*((c+i:Nat):Int)) p=true)->zn ws s r b c ps=true
 | [],c,_=>by unfold zn;rfl
 | p::ps,c,h=>by
  unfold zn;have h0:=h 0 p rfl;rw[Nat.add_zero] at h0;rw[h0,z0n (c:=c+1) fun i q e=>by
   have:=h (i+1) q (by simpa using e);rw[show c+(i+1)=c+1+i by omega] at this;exact this]
  rfl
theorem PopR.right {ws:List T3} {s r:Int} {ks:List Int} {p:Pap} (h:PopR ws s r ks p):(∀k∈ks,0<=k/\k<ws.length)->zh ws s r p=true:=by
 induction h with
 | @inn s r ks ms k i e1 e2 e3 e4=>
  intro hk;have mk:k∈ks:=by
   have:=List.mem_of_getElem? e2;rw[←e1] at this;exact (List.mem_filter.mp this).1
  unfold zh;rw[decide_eq_true (hk k mk).1,decide_eq_true (hk k mk).2,Bool.true_and,Bool.true_and];exact e4
 | @par s r ks ms m0 b ps e1 e2 e3 e4 e5 e6 ih=>
  intro hk;have hm:∀k∈ms,0<=k/\k<ws.length:=fun k h=>by
   rw[←e1] at h;exact hk k (List.mem_filter.mp h).1
  unfold zh;rw[decide_eq_true e4.two,decide_eq_true e5,z0n fun i p e=>by
   rw[Nat.zero_add];exact ih i p e hm]
  rfl
theorem y2l {n:Nat}:∀k∈z2j n,0<=k/\k<n:=fun k hk=>by
 refine pA fun Gm gJ=>?_;obtain⟨i,hi,rfl⟩:=List.mem_map.mp hk;refine gJ ?_;have:=List.mem_range.mp hi;omega
noncomputable def PrAt (H:Hp) (ss:List V):Prop:=∀x∈ss,∃(q:Addr) (s t:Int),x=.ref q/\H q=some (.tup [.int s,.int t])/\-(10^40)<=s/\s<=10^40/\-(10^40)<=t/\t<=10^40
theorem PrAt.same {H H':Hp} {ss:List V} (h:PrAt H ss) (g:Same H H'):PrAt H' ss:=fun x hx=>let ⟨q,s,t,e,hq,b⟩:=h x hx;⟨q,s,t,e,g _ _ hq,b⟩
noncomputable def z5y (K:PySem.W.Frag) (C:Addr):Sp:=fun vs H Q _=>∃(d pd a b S:Addr) (n:Nat) (L:z7n) (xs ys ss:List V) (ws us:List T3) (wh M:Int) (p:Pap),vs=[.ref d,.ref a,.ref b,.int wh,.str (tx (suL++dg M++bbL++ptx p)),.ref S]/\Dsk C H d pd n L/\n<=1000/\L y5d=some ws/\L y5b=some us/\Sml ws us wh/\H a=some (.lst xs)/\Pl H xs ws/\H b=some (.lst ys)/\Pl H ys us/\H S=some (.lst ss)/\PrAt H ss/\PopR (shs ws us) 1 0 (z2j (shs ws us).length) p/\IsMx (prd ws us) p.nm M/\POk p/\p.kn<64/\p.dep<=13/\∀H',Same H H'->Q (.bl true) H'
theorem z7a {C:Addr} (T:TF K mg "_law_sure" ko) (G_law_whole_number:Has P w K mg base 1 "_law_whole_number" ["word"] z8Q) (G_read_paper:Has P w K mg base 87 "read_paper" ["text"] (z2s K)) (G_law_pairs:Has P w K mg base 4 "_law_pairs" ["one", "other", "whole"] (z2u K)) (G_law_right:Has P w K mg base 16 "_law_right" ["tables", "whole", "step", "rest", "paper"] (z2t K 14)) (G_law_wait:Has P w K mg base 16 "_law_wait" ["one", "other", "paper"] (z5w K 14)) (G_law_first_together:Has P w K mg base 23 "_law_first_together" ["desk", "one", "other", "shift", "turn", "most"] (y2M K C)):Has P w K mg base 88 "_law_sure" ["desk", "one", "other", "whole", "answer", "pairs"] (z5y K C):=by
 refine T.has yr (fun _ _ _ _ _ _=>L2.bnd6 fun _ _ _ _ _ _=>rfl) (fun vs H Q E h=>?_) (fun f cdv A outer s H vs Q E hr h=>?_)
 ·refine pA fun Gn gK=>?_;obtain⟨d,pd,a,b,S,n,L,xs,ys,ss,ws,us,wh,M,p,rfl,_⟩:=h;refine gK ?_;rfl
 refine pA fun Go gL=>?_;obtain⟨d,pd,a,b,S,n,L,xs,ys,ss,ws,us,wh,M,p,rfl,hk,hn,hA,hB,⟨kw,ku,dw,du,W1,W3⟩,ha,hP,hb,hP2,hS,prs,po,hM,ok,kp,dp,q⟩:=h;refine gL ?_;refine⟨_,(zC (yU (zR (i:=6) yr.nd rfl (Or.inl rfl) (xn PySem.F.plainAttrs_str PySem.F.slot_str_partition PySem.F.type_str_partition wX (qI z6C (pv 4) (jp zF) z1k) (zB zS zD)))) (zC (yU (zR (i:=7) yr.nd rfl (Or.inl rfl) (zL (G_law_whole_number.mono (by first|decide|omega)) hr (zB (zU zZ (pv 6) zF (fun _ _=>rfl)) zD)))) (zC (yU (zR (i:=8) yr.nd rfl (Or.inl rfl) (zL (G_read_paper.mono (by first|decide|omega)) hr (zB (zU zZ (pv 6) zF (fun _ _=>rfl)) zD)))) (zC (yU (zi (xc (yd (zL (G_law_right.mono (by first|decide|omega)) hr (zB (zL (G_law_pairs.mono (by first|decide|omega)) hr (zB (pv 1) (zB (pv 2) (zB (pv 3) zD)))) (zB (pv 3) (zB zF (zB zF (zB (pv 8) zD)))))) (fun _=>rfl))) (zE (zK xC)) zM)) (zC (yU (zi (zN kQ (pv 7) (zL (G_law_wait.mono (by first|decide|omega)) hr (zB (pv 1) (zB (pv 2) (zB (pv 8) zD)))) (zX _)) (zE (zK xC)) zM)) (zC (y6 PassesOwn.never rfl (yC (pv 5)) (kO rfl (zm (zQ (i:=9) yr.nd rfl (Or.inl rfl)) (zm (zQ (i:=10) yr.nd rfl (Or.inl rfl)) jT))) (zE (zi (xc (yd (zL (G_law_first_together.mono (by first|decide|omega)) hr (zB (pv 0) (zB (pv 1) (zB (pv 2) (zB (pv 9) (zB (pv 10) (zB (pv 7) zD))))))) (fun _=>rfl))) (zE (zK xC)) zM))) (zE (zK xC)))))))),?_⟩;walk_at "wpd";have mb:1<=M/\M<=wh:=by
  refine pA fun Gp gM=>?_;obtain⟨k,_,rfl⟩:=hM.1;refine gM ?_;exact z8k kw.1 ku.1 dw du W1 k
 have e100:(30:Int)<10^100:=by decide +kernel
 have dk:=z7f (n:=M) (by omega) (by omega);have l1:=dk.len;have l2:=qr p ok;have n2:suL.length=12:=by decide +kernel
 have n3:bbL.length=4:=by decide +kernel
 have rt:=po.right fun k hk=>y2l k hk;have kwl:=kw.2.2;have kul:=ku.2.2;have e30:(30:Int)<2^900:=by decide +kernel
 have h30:∀ {l:List T3},(∀u∈l,Wk u)->(∀u∈l,u.1∣wh)->∀u∈l,1<=u.1/\u.1<=30:=fun {l} h1 h2 u hu=>⟨(h1 u hu).1,Int.le_trans (Int.le_of_dvd (by omega) (h2 u hu)) W3⟩
 have dsh:∀x∈shs ws us,x.1∣wh:=fun x hx=>Int.dvd_trans (z4k dw du x hx) (zt _ _);refine⟨fun σ H'=>∃D,σ=[some (.ref d),some (.ref a),some (.ref b),some (.int wh),some (.str (tx (suL++dg M++bbL++ptx p))),some (.ref S),some (.ref D),none,none,none,none]/\Same H H'/\H' D=some (.tup [.str (tx (dg M)),.str (tx bbL),.str (tx (ptx p))]),?_,?_⟩
 ·walk_at "wpd";refine⟨_,rfl,by rw[zP,sizeLine_eq];simp only [List.length_append];omega,?_⟩;have e13:Txt.slice (tx (suL++dg M++bbL++ptx p)) (some 12) none=tx (dg M++bbL++ptx p):=by
   have:=z0j (l:=suL++dg M++bbL++ptx p) (i:=12) (by simp only [List.length_append];omega);have e2:(suL++dg M++bbL++ptx p).drop 12=dg M++bbL++ptx p:=by
    rw[List.append_assoc,List.append_assoc,←n2,List.drop_left,List.append_assoc]
   rw[e2] at this;exact this
  rw[e13,show Str.ofString " by " = tx bbL from (x6 _).symm];refine⟨rfl,_,_,rfl,rfl,by rw[zP,n3];rfl,by rw[zP];simp only [List.length_append];omega,fun D nD=>?_⟩;rw[y3W fun x hx e=>by have:=dk.all x hx;omega];exact⟨D,rfl,zJ nD _,zH⟩
 rintro σ H1 ⟨D,rfl,g1,hD⟩;walk_at "wpd";refine⟨fun σ H'=>σ=[some (.ref d),some (.ref a),some (.ref b),some (.int wh),some (.str (tx (suL++dg M++bbL++ptx p))),some (.ref S),some (.ref D),some (.int M),none,none,none]/\H'=H1,?_,?_⟩
 ·walk_at "wpd";exact⟨_,_,_,.str (tx (dg M)),rfl,rfl,SqT.of hD,rfl,M,rfl,by omega,by omega,rfl,rfl⟩
 rintro σ H2 ⟨rfl,rfl⟩;walk_at "wpd";refine⟨fun σ H'=>∃v,σ=[some (.ref d),some (.ref a),some (.ref b),some (.int wh),some (.str (tx (suL++dg M++bbL++ptx p))),some (.ref S),some (.ref D),some (.int M),some v,none,none]/\Same H H'/\PapIn K y0Y H' v p,?_,?_⟩
 ·walk_at "wpd";exact⟨_,_,_,.str (tx (ptx p)),rfl,rfl,SqT.of hD,rfl,p,rfl,ok,by omega,by omega,fun v H' g hv=>⟨v,rfl,g1.trans g,hv.any⟩⟩
 clear g1 hD;rintro σ H3 ⟨v,rfl,g3,hv⟩;walk_at "wpd";refine⟨fun σ H'=>σ=[some (.ref d),some (.ref a),some (.ref b),some (.int wh),some (.str (tx (suL++dg M++bbL++ptx p))),some (.ref S),some (.ref D),some (.int M),some v,none,none]/\Same H3 H',?_,?_⟩
 ·walk_at "wpd";refine⟨a,b,xs,ys,ws,us,wh,rfl,SqL.of (g3 _ _ ha),hP.same g3,SqL.of (g3 _ _ hb),hP2.same g3,kw.1,ku.1,dw,du,by omega,by omega,W1,W3,fun tb zs H4 g4 htb tbs=>?_⟩;refine⟨tb,v,zs,shs ws us,wh,1,0,p,rfl,htb,tbs,z3B kw.1 ku.1,dsh,W1,W3,by decide,hv.mono g4,by omega,fun H5 g5=>?_⟩;rw[rt];exact⟨_,rfl,(fun c=>nomatch c),fun _=>g4.trans g5⟩
 rintro σ H4 ⟨rfl,g4⟩;walk_at "wpd";refine⟨fun σ H'=>σ=[some (.ref d),some (.ref a),some (.ref b),some (.int wh),some (.str (tx (suL++dg M++bbL++ptx p))),some (.ref S),some (.ref D),some (.int M),some v,none,none]/\Same H3 H',?_,?_⟩
 ·walk_at "wpd";have G:=g3.trans g4;refine⟨a,b,v,xs,ys,ws,us,p,shs ws us,1,0,rfl,SqL.of (G _ _ ha),hP.same G,SqL.of (G _ _ hb),hP2.same G,h30 kw.1 dw,h30 ku.1 du,by omega,jC ..,hv.mono g4,by omega,by omega,rt,fun M' H5 g5 hM'=>?_⟩;obtain rfl:=hM'.uniq hM;exact⟨rfl,_,rfl,(fun c=>absurd c (by simp)),fun _=>g4.trans g5⟩
 rintro σ H5 ⟨rfl,g5⟩;walk_at "wpd";have G:=g3.trans g5;refine⟨⟨_,SqL.of (G _ _ hS)⟩,?_⟩;obtain⟨W,hW⟩:∃W:Nat->St->Hp->Prop,W=fun i σ H'=>∃o1 o2,σ=[some (.ref d),some (.ref a),some (.ref b),some (.int wh),some (.str (tx (suL++dg M++bbL++ptx p))),some (.ref S),some (.ref D),some (.int M),some v,o1,o2]/\Same H H':=⟨_,rfl⟩
 refine yR (xs:=ss) W ?_ (fun i σ H' _ z=>?_) (fun i x σ H' hx z=>?_) (fun σ H' z=>?_)
 ·rw[hW];exact⟨none,none,rfl,G⟩
 ·rw[hW] at z;refine pA fun Gq gN=>?_;obtain⟨_,_,_,g⟩:=z;refine gN ?_;exact SqL.of (g _ _ hS)
 ·rw[hW] at z;refine pA fun Gr gO=>?_;obtain⟨o1,o2,rfl,g⟩:=z;refine gO ?_;refine pA fun Gs gP=>?_;obtain⟨qa,sh,tu,rfl,hq,s0,s1,t0,t1⟩:=prs x (List.mem_of_getElem? hx);refine gP ?_;have e60:(10:Int)^40<10^60:=by decide +kernel
  refine⟨qa,_,rfl,SqT.of (g _ _ hq),rfl,?_⟩;walk_at "wpd";refine⟨d,pd,a,b,n,L,xs,ys,ws,us,sh,tu,M,rfl,hk.same g,hn,hA,hB,kw,ku,g _ _ ha,hP.same g,g _ _ hb,hP2.same g,by omega,by omega,by omega,by omega,by omega,by omega,fun r hr=>z6t kw.1 ku.1 rt hM hr,fun H6 g6=>⟨_,rfl,(fun c=>nomatch c),fun _=>?_⟩⟩;rw[hW];exact⟨_,_,rfl,g.trans g6⟩
 ·rw[hW] at z;refine pA fun Gu gQ=>?_;obtain⟨o1,o2,rfl,g⟩:=z;refine gQ ?_;walk_at "wpd";exact q H' g
theorem y1R {ws us:List T3} {wh:Int} (hw:∀u∈ws,Wk u) (hu:∀u∈us,Wk u) (dw:∀u∈ws,u.1∣wh) (du:∀u∈us,u.1∣wh) (w0:1<=wh) (s:Int):qu ws us wh s=zx (shs ws us) s:=by
 rw[Bool.eq_iff_iff,y2O hw hu];unfold qu;rw[List.any_eq_true];constructor
 ·rintro⟨j,_,h⟩;exact⟨_,wu.mp h⟩
 ·rintro⟨t,⟨u,mu,h1⟩,v,mv,h2⟩;have m:=xv t w0;obtain⟨k,hk⟩:=yi t wh;refine⟨(t%wh).toNat,List.mem_range.mpr (by omega),wu.mpr ⟨⟨u,mu,?_⟩,v,mv,?_⟩⟩
  ·have e:(0:Int)+(((t%wh).toNat:Nat):Int)=t+wh*(-k):=by rw[Int.mul_neg];omega
   rw[e];exact (wL (Int.dvd_trans (dw u mu) ⟨_,rfl⟩)).mpr h1
  ·have e:(0:Int)+(((t%wh).toNat:Nat):Int)-s=(t-s)+wh*(-k):=by rw[Int.mul_neg];omega
   rw[e];exact (wL (Int.dvd_trans (du v mv) ⟨_,rfl⟩)).mpr h2
theorem y1g {ss:List T3} {wh:Int} (hw:∀x∈ss,1<=x.1) (dw:∀x∈ss,x.1∣wh) (w0:1<=wh) :
  (x5 ss (yp (ss.map (·.1))).toNat=none->∀i:Nat,i<wh.toNat->zx ss (i:Int)=true)/\
  ∀j:Int,x5 ss (yp (ss.map (·.1))).toNat=some j->0<=j/\j.toNat<wh.toNat/\zx ss j=false/\∀i:Nat,i<j.toNat->zx ss (i:Int)=true:=by
 have h1:∀x∈ss.map (·.1),1<=x:=fun x hx=>by
  refine pA fun Gv gR=>?_;obtain⟨y,hy,rfl⟩:=List.mem_map.mp hx;refine gR ?_;exact hw y hy
 have L1:=xM h1;have Ld:yp (ss.map (·.1))∣wh:=(xf h1).mpr fun x hx=>by
  refine pA fun Gw gS=>?_;obtain⟨y,hy,rfl⟩:=List.mem_map.mp hx;refine gS ?_;exact dw y hy
 have Ll:=Int.le_of_dvd (show 0<wh by omega) Ld;have dv:∀u∈ss,u.1∣yp (ss.map (·.1)):=fun u hu=>qM h1 _ (List.mem_map_of_mem hu);generalize yp (ss.map (·.1))=N at *
 refine⟨fun e i hi=>?_,fun j e=>?_⟩
 ·rcases qK (ws:=ss) (n:=N.toNat) with⟨k,e2,_⟩|⟨_,all⟩
  ·rw[e] at e2;cases e2
  ·have m:=xv (i:Int) L1;obtain⟨k,hk⟩:=yi (i:Int) N;have a:=all ((i:Int)%N).toNat (by omega);have e1:((((i:Int)%N).toNat:Nat):Int)=(i:Int)%N:=by omega
   rw[e1,←kB (L:=N*k) (fun u hu=>Int.dvd_trans (dv u hu) ⟨k,rfl⟩)] at a;have e2:(i:Int)%N+N*k=i:=by omega
   rw[e2] at a;exact a
 ·rcases qK (ws:=ss) (n:=N.toNat) with⟨k,e2,h⟩|⟨e2,_⟩
  ·rw[e] at e2;cases e2;exact⟨by omega,by omega,h.2.1,fun i hi=>h.2.2 i (by omega)⟩
  ·rw[e] at e2;cases e2
theorem y5v {C:Addr} (cl_Desk:Cls K C) (mk_Desk:PySem.W.makesIn K C=true) (kc_Desk:PySem.W.keepIn K (.ref C)=true) (mg_Desk:mg "Desk" = some (.ref C)) (T:TF K mg "law" y3C) (m_len:mg "len" = none) (m_str:mg "str" = none) (m_isinstance:mg "isinstance" = none) (m_range:mg "range" = none) (G_Desk___init__:HasM P w K mg base 1 C "__init__" ["self"] (z6A C)) (G_Desk_told:HasM P w K mg base 22 C "told" ["self", "row"] (vE K C)) (G_law_cell_at:Has P w K mg base 1 "_law_cell_at" ["script", "k"] (qC K)) (G_law_plan:Has P w K mg base 2 "_law_plan" ["script", "at", "whole"] (z5z K)) (G_law_text:Has P w K mg base 1 "_law_text" ["plan"] (z5x K)) (G_law_great:Has P w K mg base 1 "_law_great" ["cell"] z0h) (G_law_meets:Has P w K mg base 3 "_law_meets" ["one", "other", "whole"] (vI K)) (G_law_sure:Has P w K mg base 88 "_law_sure" ["desk", "one", "other", "whole", "answer", "pairs"] (z5y K C)):Has P w K mg base 89 "law" ["script"] (sp_law K):=by
 refine T.has xo (fun _ _ _ _ _ _=>L2.bnd1 fun _=>rfl) (fun vs H Q E h=>?_) (fun f cdv A outer s H vs Q E hr h=>?_)
 ·refine pA fun Gx gU=>?_;obtain⟨a,ns,rfl,_⟩:=h;refine gU ?_;rfl
 refine pA fun Gy gW=>?_;obtain⟨a,ns,rfl,hS,h63,hbits,q⟩:=h;refine gW ?_;refine⟨_,(zC (yU (zR (i:=1) xo.nd rfl (Or.inl rfl) (zU zo (yq (zB zF (zB zF (zB zF (zB zF (zB zF zD)))))) (zW yE (zL (G_law_cell_at.mono (by first|decide|omega)) hr (zB (pv 0) (zB zF zD))) zF) (fun _ _=>rfl)))) (zC (yU (zR (i:=2) xo.nd rfl (Or.inl rfl) (zL (G_law_plan.mono (by first|decide|omega)) hr (zB (pv 0) (zB zF (zB (pv 1) zD)))))) (zC (yU (zR (i:=3) xo.nd rfl (Or.inl rfl) (zL (G_law_plan.mono (by first|decide|omega)) hr (zB (pv 0) (zB zF (zB (pv 1) zD)))))) (zC (yU (zR (i:=4) xo.nd rfl (Or.inl rfl) (y4m (G_Desk___init__.mono (by first|decide|omega)) mk_Desk kc_Desk hr rfl mg_Desk))) (zC (yU (zi (PW.pt (z7K (zN kQ (xJ (pv 4) cl_Desk (G_Desk_told.mono (by first|decide|omega)) hr (zB (zW yY zS (zL (G_law_text.mono (by first|decide|omega)) hr (zB (pv 2) zD))) zD)) zS (zX _)) (z3K (zN kQ (xJ (pv 4) cl_Desk (G_Desk_told.mono (by first|decide|omega)) hr (zB (zW yY zS (zL (G_law_text.mono (by first|decide|omega)) hr (zB (pv 3) zD))) zD)) zS (zX _))))) (zE (zK xC)) zM)) (zC (yU (zR (i:=5) xo.nd rfl (Or.inr rfl) (zW y4r (qI z8X (pv 0) (jp zF) (jp zF)) (yq (zB (zL (G_law_cell_at.mono (by first|decide|omega)) hr (zB (pv 0) (zB zF zD))) (zB zF zD)))))) (zC (yU (qH (i:=6) xo.nd rfl (Or.inl rfl) (CompSc.capt (own:=["k"]) (capt:=["cells"]) (fr:=[5]) rfl ⟨rfl,rfl,rfl,rfl,rfl,trivial⟩ (by decide +kernel) (by decide +kernel) rfl (by decide +kernel)) rfl (z3O rfl m_range (zB zF (zB (zW xD (zY zc rfl m_len PySem.boot_len (zB (pv 5) zD)) zF) (zB zF zD)))) (fun _ _ _=>(zQ (i:=0) (show (["k", "cells"]:List Str).Nodup from by decide +kernel) rfl (Or.inl rfl) (Or.inr rfl))) (fun _ _ _=>yX) (fun _ _ _=>(xq (zB (zL (G_law_great.mono (by first|decide|omega)) hr (zB (zU (kU (K:=K) rfl) (pv 1) (pv 0) (fun _ _=>rfl)) zD)) (zB (zL (G_law_great.mono (by first|decide|omega)) hr (zB (zU (kU (K:=K) rfl) (pv 1) (zW ye (pv 0) zF) (fun _ _=>rfl)) zD)) zD)))))) (zC (yU (zR (i:=7) xo.nd rfl (Or.inl rfl) (zL (G_law_meets.mono (by first|decide|omega)) hr (zB (pv 2) (zB (pv 3) (zB (pv 1) zD)))))) (zC (yU (zR (i:=8) xo.nd rfl (Or.inl rfl) (xJ (pv 4) cl_Desk (G_Desk_told.mono (by first|decide|omega)) hr (zB zS zD)))) (zC (yU (zi (xc (yd (zY z2a rfl m_isinstance (by decide +kernel) (zB (pv 8) (zB (z4x (v:=.ty "str") rfl m_str (by decide +kernel) rfl) zD))) (fun _=>rfl))) (zE (zK xC)) zM)) (zC (yU (zi (zN z8w xC (pv 7) rfl) (zE (zK (kP (jU xE (qI z6C (pv 8) z1k (jp zF)) zS (zX _)) (wW (zL (G_law_sure.mono (by first|decide|omega)) hr (zB (pv 4) (zB (pv 2) (zB (pv 3) (zB (pv 1) (zB (pv 8) (zB (pv 6) zD))))))))))) zM)) (zC (yU (zR (i:=9) xo.nd rfl (Or.inl rfl) (xn PySem.F.plainAttrs_list PySem.F.slot_list_index PySem.F.type_list_index z9H (pv 7) (zB xC zD)))) (zC (yU (zi (zN kQ (pv 8) (zW yY zS (yA yN rfl m_str (by decide +kernel) (zB (pv 9) zD))) (zX _)) (zE (zK xC)) zM)) (zC (y6 PassesOwn.never rfl (yC (pv 6)) (kO rfl (zm (zQ (i:=10) xo.nd rfl (Or.inl rfl)) (zm (zQ (i:=11) xo.nd rfl (Or.inl rfl)) jT))) (zC (zR (i:=12) xo.nd rfl (Or.inl rfl) (zW ye (pv 9) (zW xY (pv 1) (pv 10)))) (zE (zi (zN kQ (xJ (pv 4) cl_Desk (G_Desk_told.mono (by first|decide|omega)) hr (zB (zW yY (zW yY (zW yY zS (yA yN rfl m_str (by decide +kernel) (zB (pv 12) zD))) zS) (yA yN rfl m_str (by decide +kernel) (zB (pv 11) zD))) zD)) zS (zX _)) (zE (zK xC)) zM)))) (zE (zK xC)))))))))))))))),?_⟩;walk_at "wpd";refine⟨fun σ H'=>∃wh:Int,σ=[some (.ref a),some (.int wh),none,none,none,none,none,none,none,none,none,none,none]/\Same H H'/\12<=wh/\wh<=30,?_,?_⟩
 ·walk_at "wpd";intro p np;have gp:=zJ np (.lst ([12,18,20,24,30].map V.int));have hp:=zH (H:=H) (a:=p) (o:=.lst ([12,18,20,24,30].map V.int));change qC K _ (upd H p (.lst ([12,18,20,24,30].map V.int))) _ _;generalize upd H p (.lst ([12,18,20,24,30].map V.int))=H1 at gp hp ⊢;refine⟨a,ns,0,rfl,gp.seq hS,by decide,_,_,rfl,rfl,by show (0:Int)<5;decide,?_⟩;have c5:=y2T (ns.getD (Int.toNat 0) 0) (show (0:Int)<5 by decide);have pl:=wq (Pz:=fun z=>12<=z/\z<=30) (zs:=[12,18,20,24,30]) (i:=(ns.getD (Int.toNat 0) 0%5).toNat) (by decide) (by simp;omega);exact zf (SqL.of hp) (xg (zs:=[12,18,20,24,30]) c5.1 (by simp;omega)) ⟨_,rfl,gp,pl.1,pl.2⟩
 rintro σ H1 ⟨wh,rfl,g1,w0,w1⟩;have hS1:=g1.seq hS;walk_at "wpd";obtain⟨Gd,hGd⟩:∃Gd:Addr->List V->List T3->Hp->Prop,Gd=fun A xs ws H'=>H' A=some (.lst xs)/\Pl H' xs ws/\(∀u∈ws,Wk u)/\(∀u∈ws,u.1∣wh)/\1<=ws.length/\ws.length<=3:=⟨_,rfl⟩
 have gdS:∀ {A xs ws H2 H3},Gd A xs ws H2->Same H2 H3->Gd A xs ws H3:=fun {A xs ws H2 H3} h g=>by
  rw[hGd] at h ⊢;exact⟨g _ _ h.1,h.2.1.same g,h.2.2⟩
 refine⟨fun σ H'=>∃A xs ws,σ=[some (.ref a),some (.int wh),some (.ref A),none,none,none,none,none,none,none,none,none,none]/\Same H1 H'/\Gd A xs ws H',?_,?_⟩
 ·walk_at "wpd";exact⟨a,ns,1,wh,rfl,hS1,by decide,by decide,by omega,w1,fun D xs ws H' g hD hP hw hd l1 l2=>⟨D,xs,ws,rfl,g,by rw[hGd];exact⟨hD,hP,hw,hd,l1,l2⟩⟩⟩
 rintro σ H2 ⟨A1,xs,ws,rfl,g2,hA⟩;have hS2:=g2.seq hS1;walk_at "wpd";refine⟨fun σ H'=>∃B ys us,σ=[some (.ref a),some (.int wh),some (.ref A1),some (.ref B),none,none,none,none,none,none,none,none,none]/\Same H2 H'/\Gd B ys us H',?_,?_⟩
 ·walk_at "wpd";exact⟨a,ns,5,wh,rfl,hS2,by decide,by decide,by omega,w1,fun D xs ws H' g hD hP hw hd l1 l2=>⟨D,xs,ws,rfl,g,by rw[hGd];exact⟨hD,hP,hw,hd,l1,l2⟩⟩⟩
 rintro σ H3 ⟨B1,ys,us,rfl,g3,hB⟩;have hS3:=g3.seq hS2;have hA:=gdS hA g3;walk_at "wpd";obtain⟨M,hM⟩:∃M:Addr->Addr->Nat->z7n->Hp->Prop,M=fun d pd n L H'=>Dsk C H' d pd n L/\Gd A1 xs ws H'/\Gd B1 ys us H'/\SqL K H' a (ns.map V.int):=⟨_,rfl⟩
 have mS:∀ {d pd n L H2 H3},M d pd n L H2->Same H2 H3->M d pd n L H3:=fun {d pd n L H2 H3} h g=>by
  rw[hM] at h ⊢;exact⟨h.1.same g,gdS h.2.1 g,gdS h.2.2.1 g,g.seq h.2.2.2⟩
 have gdO:∀ {A xs ws H2 H3 pd kv},Gd A xs ws H2->H2 pd=some (.dK kv)->y6C pd H2 H3->Gd A xs ws H3:=fun {A xs ws H2 H3 pd kv} h hp off=>by
  rw[hGd] at h ⊢;exact⟨off _ _ (wC h.1 hp (by intro z;cases z)) h.1,y4i h.2.1 fun b ys e=>off _ _ (wC e hp (by intro z;cases z)) e,h.2.2⟩
 refine⟨fun σ H'=>∃d pd,σ=[some (.ref a),some (.int wh),some (.ref A1),some (.ref B1),some (.ref d),none,none,none,none,none,none,none,none]/\M d pd 0 (fun _=>none) H',?_,?_⟩
 ·walk_at "wpd";intro x dx nx ndx _;refine⟨x,dx,rfl,zH,fun pd H4 dk np off=>⟨rfl,x,pd,rfl,?_⟩⟩;have S1:Same H3 H4:=fun b o e=>off b o (zV e nx) (by rw[za (zV e nx),za (zV e ndx)];exact e);rw[hM];exact⟨dk,gdS hA S1,gdS hB S1,S1.seq hS3⟩
 have fA:Gd A1 xs ws H3:=hA;have fB:Gd B1 ys us H3:=hB;rw[hGd] at fA fB;refine pA fun Gz gX=>?_;obtain⟨_,_,hw,dw,lw1,lw3⟩:=fA;refine gX ?_;refine pA fun G0 gZ=>?_;obtain⟨_,_,hu,du,lu1,lu3⟩:=fB;refine gZ ?_;have b30:∀ {l:List T3},(∀u∈l,Wk u)->(∀u∈l,u.1∣wh)->∀u∈l,u.1<=30:=fun {l} h1 h2 u hu=>Int.le_trans (Int.le_of_dvd (by omega) (h2 u hu)) w1;have hw30:=b30 hw dw;have hu30:=b30 hu du;have wne:ws≠[]:=fun e=>by rw[e] at lw1;simp at lw1
 have une:us≠[]:=fun e=>by rw[e] at lu1;simp at lu1
 have e900:(30:Int)<2^900:=by decide +kernel
 have kw:KpP ws:=⟨hw,fun u h=>by have:=hw30 u h;omega,by omega⟩
 have ku:KpP us:=⟨hu,fun u h=>by have:=hu30 u h;omega,by omega⟩
 have sm:Sml ws us wh:=⟨kw,ku,dw,du,by omega,w1⟩
 refine pA fun Ga hC=>?_;obtain⟨rdA,okA,lnA⟩:=y2Q wne hw hw30 (by omega);refine hC ?_;refine pA fun Gb hJ=>?_;obtain⟨rdB,okB,lnB⟩:=y2Q une hu hu30 (by omega);refine hJ ?_;have isw:∀ {l:List T3},(∀u∈l,Wk u)->∀u∈l,isW u=true:=fun {l} h u hu=>by
  refine pA fun Gc hU=>?_;obtain⟨a1,a2,a3,a4,a5⟩:=h u hu;refine hU ?_;unfold isW;simp [a1,a2,a3,a4,a5]
 have hA':nmB z4K=true:=by decide
 have hB':nmB z4C=true:=by decide
 have tokP:∀ {nm:List Nat} {t:List Nat},nmB nm=true->TxOk t->t.length<=4000->TxOk (glu 32 [qt,nm,t]):=fun {nm t} h ht l4=>by
  have ln:=y1L h;refine⟨Nat.le_trans (wH (M:=4000) fun x hx=>?_) (by show 3*4001<=100000;decide),vz (Pz:=fun x=>x<128) (by decide) fun x hx=>?_⟩
  ·simp only [List.mem_cons,List.not_mem_nil,or_false] at hx;rcases hx with rfl|rfl|rfl
   ·decide
   ·omega
   ·omega
  ·simp only [List.mem_cons,List.not_mem_nil,or_false] at hx;rcases hx with rfl|rfl|rfl
   ·decide
   ·exact ln.2
   ·exact ht.2
 have eA:Str.ofString "plan ann " = tx (qt++[32]++z4K++[32]):=by decide +kernel
 have eB:Str.ofString "plan bob " = tx (qt++[32]++z4C++[32]):=by decide +kernel
 have lA:(qt++[32]++z4K++[32]).length=9:=rfl;have lB:(qt++[32]++z4C++[32]).length=9:=rfl;rintro σ H4 ⟨d,pd,rfl,h⟩;walk_at "wpd";have wokA:∀u∈ws,WOk u:=fun u h=>(wx (hw u h) (hw30 u h)).1;have wokB:∀u∈us,WOk u:=fun u h=>(wx (hu u h) (hu30 u h)).1;obtain⟨WA,hWA⟩:∃WA,WA=jS ws false:=⟨_,rfl⟩
 obtain⟨WB,hWB⟩:∃WB,WB=jS us false:=⟨_,rfl⟩
 rw[←hWA] at rdA okA lnA;rw[←hWB] at rdB okB lnB;have eGA:qt++[32]++z4K++[32]++WA=glu 32 [qt,z4K,WA]:=by simp [glu]
 have eGB:qt++[32]++z4C++[32]++WB=glu 32 [qt,z4C,WB]:=by simp [glu]
 obtain⟨L,hL⟩:∃L:z7n,L=y3A (y3A (fun _=>none) y5d ws) y5b us:=⟨_,rfl⟩
 refine⟨fun σ H'=>σ=[some (.ref a),some (.int wh),some (.ref A1),some (.ref B1),some (.ref d),none,none,none,none,none,none,none,none]/\M d pd 2 L H',?_,?_⟩
 ·walk_at "wpd";rw[hM] at h;refine pA fun Ge hV=>?_;obtain⟨hk,gA,gB,hS4⟩:=h;refine hV ?_;obtain⟨dx,hd⟩:=hk.1;refine pA fun Gf gC=>?_;obtain⟨kv,hp,_⟩:=hk.2;refine gC ?_;have gA':=gA;rw[hGd] at gA';refine⟨d,dx,_,rfl,hd,z7w _,A1,xs,ws,rfl,SqL.of gA'.1,gA'.2.1,hw,hw30,wne,by omega,fun H5 g5=>?_⟩;rw[eA,rdA];refine⟨_,_,rfl,rfl,by rw[zP,zP];omega,?_⟩;rw[jA,eGA];have hp5:=g5 _ _ hp;refine⟨d,pd,_,0,_,rfl,hk.same g5,by decide,tokP hA' okA lnA,.inl ⟨z4K,ws,by rw[←hWA];exact z6I hA',wokA,isw hw,kw,fun H6 off dk=>⟨rfl,_,rfl,(fun c=>absurd c (by simp)),fun _=>?_⟩⟩⟩;obtain⟨dx2,hd2⟩:=dk.1;refine pA fun Gg gE=>?_;obtain⟨kv2,hp2,_⟩:=dk.2;refine gE ?_;have gA6:=gdO (gdS gA g5) hp5 off;have gB6:=gdO (gdS gB g5) hp5 off;have hS6:=z8M (g5.seq hS4) hp5 off;have gB6':=gB6;rw[hGd] at gB6';refine⟨d,dx2,_,rfl,hd2,z7w _,B1,ys,us,rfl,SqL.of gB6'.1,gB6'.2.1,hu,hu30,une,by omega,fun H7 g7=>?_⟩;rw[eB,rdB];refine⟨_,_,rfl,rfl,by rw[zP,zP];omega,?_⟩;rw[jA,eGB];have hp7:=g7 _ _ hp2;refine⟨d,pd,_,1,_,rfl,dk.same g7,by decide,tokP hB' okB lnB,.inl ⟨z4C,us,by rw[←hWB];exact z6I hB',wokB,isw hu,ku,fun H8 off8 dk8=>⟨rfl,_,rfl,(fun c=>absurd c (by simp)),fun _=>?_⟩⟩⟩;rw[hM];refine⟨?_,gdO (gdS gA6 g7) hp7 off8,gdO (gdS gB6 g7) hp7 off8,z8M (g7.seq hS6) hp7 off8⟩;rw[hL];exact dk8
 have LA:L y5d=some ws:=by
  rw[hL];unfold y3A;rw[if_neg (by decide +kernel),if_pos rfl]
 have LB:L y5b=some us:=by
  rw[hL];unfold y3A;rw[if_pos rfl]
 clear h;rintro σ H5 ⟨rfl,h5⟩;walk_at "wpd";refine⟨fun σ H'=>∃(D:Addr) (cs:List Int),σ=[some (.ref a),some (.int wh),some (.ref A1),some (.ref B1),some (.ref d),some (.ref D),none,none,none,none,none,none,none]/\Same H5 H'/\H' D=some (.lst (cs.map V.int))/\cs.length<=100,?_,?_⟩
 ·walk_at "wpd";have h5':=h5;rw[hM] at h5';have hS7:=h5'.2.2.2;refine⟨a,_,rfl,hS7,fun p np=>?_⟩;rw[y2D];have lc:(y5O ns (some 9) (some 49)).length<=63:=by unfold y5O;simp;omega
  generalize y5O ns (some 9) (some 49)=cs at lc ⊢;have gq:=zJ np (.lst (cs.map V.int));have hq:=zH (H:=H5) (a:=p) (o:=.lst (cs.map V.int));generalize upd H5 p (.lst (cs.map V.int))=H8 at gq hq ⊢;refine⟨a,ns,1,rfl,gq.seq hS7,by decide,fun p2 np2=>?_⟩;have gr:=zJ np2 (.lst [V.int (ns.getD (1:Int).toNat 0),V.int 7]);have hr2:=zH (H:=H8) (a:=p2) (o:=.lst [V.int (ns.getD (1:Int).toNat 0),V.int 7]);generalize upd H8 p2 (.lst [V.int (ns.getD (1:Int).toNat 0),V.int 7])=H9 at gr hr2 ⊢;refine⟨p,p2,_,_,rfl,rfl,gr _ _ hq,hr2,by rw[sizeLine_eq,List.length_map];show _+2<=_;omega,fun p3 np3=>⟨p3,cs++[ns.getD (1:Int).toNat 0,7],rfl,?_⟩⟩;have g3:=(gq.trans gr).trans (zJ np3 (.lst (cs.map V.int++[V.int (ns.getD (1:Int).toNat 0),V.int 7])));exact⟨g3,by rw[zH,List.map_append];rfl,by simp;omega⟩
 rintro σ H6 ⟨D,cs,rfl,g6,hD,cl⟩;have h6:=mS h5 g6;walk_at "wpd";refine⟨fun σ H'=>∃S ss,σ=[some (.ref a),some (.int wh),some (.ref A1),some (.ref B1),some (.ref d),some (.ref D),some (.ref S),none,none,none,none,none,none]/\Same H6 H'/\H' S=some (.lst ss)/\PrAt H' ss,?_,?_⟩
 ·walk_at "wpd";refine⟨D,_,rfl,.inl (SqL.of hD),0,_,2,(Builtin.Range.rangeSize 0 _ 2).toNat,rfl,by decide,by decide,rsN (by decide),?_⟩;obtain⟨Sv,hSv⟩:∃Sv:St->Prop,Sv=fun σ=>∃o,σ=[o,some (.ref D)]:=⟨_,rfl⟩
  obtain⟨Pv,hPv⟩:∃Pv:Addr->Nat->List V->Hp->Prop,Pv=fun B i zs H2=>H6 B=none/\Same H6 H2/\PrAt H2 zs:=⟨_,rfl⟩
  refine z3t Sv Pv (by rw[hSv];exact⟨none,rfl⟩) (fun B hB=>?_) (fun B j zs σ H2 hj hs hB hy h=>?_) (fun B zs H2 hB h=>?_)
  ·rw[hPv];exact⟨hB,zJ hB _,fun x hx=>nomatch hx⟩
  ·rw[hSv] at hs;rw[hPv] at h;obtain⟨o,rfl⟩:=hs;refine pA fun Gh gF=>?_;obtain⟨nB,g,pr⟩:=h;refine gF ?_;have jl:=y5n (by decide) hj;rw[List.length_map] at jl;have hD2:=g _ _ hD;walk_at "wpd";refine zf (SqL.of hD2) (xg (by omega) (by omega)) ⟨_,rfl,fun s1 H3 g3 a0 a1=>zf (SqL.of (g3 _ _ hD2)) (xg (by omega) (by omega)) ⟨_,rfl,fun s2 H4 g4 b0 b1=>fun q1 nq=>?_⟩⟩;have g5:=zJ nq (.tup [V.int s1,V.int s2]);have G:=(g3.trans g4).trans g5;have hB2:=G _ _ hB;refine CompP.mk hB2 hy (by rw[sizeLine_eq];omega) (by rw[hSv];exact⟨_,rfl⟩) (by
    rw[hPv];refine⟨nB,(g.trans G).write nB _,fun x hx=>?_⟩;rcases List.mem_append.mp hx with z|z
    ·refine pA fun Gi gG=>?_;obtain⟨q0,s,t,e,hq,b⟩:=pr x z;refine gG ?_;exact⟨q0,s,t,e,by rw[za (wC (G _ _ hq) hB2 (by intro z;cases z))];exact G _ _ hq,b⟩
    ·rw[List.mem_singleton.mp z];exact⟨q1,s1,s2,rfl,by rw[za (wC (zH) hB2 (by intro z;cases z))];exact zH,a0,a1,b0,b1⟩)
  ·rw[hPv] at h;exact⟨B,zs,rfl,h.2.1,hB,h.2.2⟩
 rintro σ H7 ⟨S,ss,rfl,g7,hSS,prs⟩;have h7:=mS h6 g7;clear h5 h6 hD g6;walk_at "wpd";refine⟨fun σ H'=>∃mt,σ=[some (.ref a),some (.int wh),some (.ref A1),some (.ref B1),some (.ref d),some (.ref D),some (.ref S),some (.ref mt),none,none,none,none,none]/\Same H7 H'/\H' mt=some (.lst (((List.range wh.toNat).map fun j:Nat=>qu ws us wh (0+(j:Int))).map V.bl)),?_,?_⟩
 ·walk_at "wpd";have h7':=h7;rw[hM] at h7';refine pA fun Gj gH=>?_;obtain⟨_,gA,gB,_⟩:=h7';refine gH ?_;rw[hGd] at gA gB;exact⟨A1,B1,xs,ys,ws,us,wh,rfl,SqL.of gA.1,gA.2.1,SqL.of gB.1,gB.2.1,hw,hu,by omega,by omega,by omega,w1,fun D2 H' g _ hD2=>⟨D2,rfl,g,hD2⟩⟩
 rintro σ H8 ⟨mt,rfl,g8,hmt⟩;have h8:=mS h7 g8;have hSS8:=g8 _ _ hSS;have prs8:=prs.same g8;clear h7 hSS prs g7;walk_at "wpd";have eS:Str.ofString "sure ann bob" = tx (glu 32 [z4g,z4K,z4C]):=by decide +kernel
 have tokS:TxOk (glu 32 [z4g,z4K,z4C]):=⟨by decide,by decide⟩
 have pm:∀s,qu ws us wh s=zx (shs ws us) s:=y1R hw hu dw du (by omega);have dsh:∀x∈shs ws us,x.1∣wh:=fun x hx=>Int.dvd_trans (z4k dw du x hx) (zt _ _);have hol:=y1g (ss:=shs ws us) (wh:=wh) (fun x hx=>(z3B hw hu x hx).1) dsh (by omega);refine⟨fun σ H'=>∃z,σ=[some (.ref a),some (.int wh),some (.ref A1),some (.ref B1),some (.ref d),some (.ref D),some (.ref S),some (.ref mt),some (.str (tx z)),none,none,none,none]/\Same H8 H'/\SureA ws us z,?_,?_⟩
 ·walk_at "wpd";have h8':=h8;rw[hM] at h8';obtain⟨hk,_⟩:=h8';obtain⟨dx,hd⟩:=hk.1;refine⟨d,dx,_,rfl,hd,z7w _,?_⟩;rw[eS];exact⟨d,pd,_,2,L,rfl,hk,by decide,tokS,.inr (.inl ⟨z4K,z4C,ws,us,wh,y0v hA' hB',LA,LB,sm,fun z H' g hz=>⟨z,rfl,g,hz⟩⟩)⟩
 rintro σ H9 ⟨z,rfl,g9,hz⟩;have h9:=mS h8 g9;have hSS9:=g9 _ _ hSS8;have prs9:=prs8.same g9;have hmt9:=g9 _ _ hmt;clear h8 hSS8 prs8 hmt g9;walk_at "wpd";refine⟨fun σ H'=>σ=[some (.ref a),some (.int wh),some (.ref A1),some (.ref B1),some (.ref d),some (.ref D),some (.ref S),some (.ref mt),some (.str (tx z)),none,none,none,none]/\H'=H9,?_,?_⟩
 ·walk_at "wpd";exact⟨_,_,_,true,rfl,.str _,rfl,true,rfl,(fun c=>nomatch c),fun _=>rfl⟩
 rintro σ H10 ⟨rfl,rfl⟩;walk_at "wpd";refine⟨fun σ H'=>σ=[some (.ref a),some (.int wh),some (.ref A1),some (.ref B1),some (.ref d),some (.ref D),some (.ref S),some (.ref mt),some (.str (tx z)),none,none,none,none]/\H'=H10/\∃j,x5 (shs ws us) (yp ((shs ws us).map (·.1))).toNat=some j/\z=y1V++dg j,?_,?_⟩
 ·walk_at "wpd";refine⟨false,mt,_,rfl,rfl,SqL.of hmt9,?_⟩;rcases hz with⟨i,e,rfl⟩|⟨e,p,Mx,po,hMx,dk,ok,kp,dp,rfl⟩
  ·refine pA fun Gk gI=>?_;obtain⟨j0,jl,jf,jt⟩:=hol.2 i e;refine gI ?_;refine⟨fun c=>?_,fun _=>⟨i,e,rfl⟩⟩;exfalso;have m:false∈(List.range wh.toNat).map fun j:Nat=>qu ws us wh (0+(j:Int)):=List.mem_map.mpr ⟨i.toNat,List.mem_range.mpr jl,by rw[pm,Int.zero_add,Int.toNat_of_nonneg j0,jf]⟩;rw[List.contains_iff_mem.mpr m] at c;cases c
  ·have nm:((List.range wh.toNat).map fun j:Nat=>qu ws us wh (0+(j:Int))).contains false=false:=by
    cases c:((List.range wh.toNat).map fun j:Nat=>qu ws us wh (0+(j:Int))).contains false with
    | false=>rfl
    | true=>
     exfalso;refine pA fun Gm gJ=>?_;obtain⟨i,hi,e2⟩:=List.mem_map.mp (List.contains_iff_mem.mp c);refine gJ ?_;rw[pm,Int.zero_add,hol.1 e i (List.mem_range.mp hi)] at e2;cases e2
   have l1:=dk.len;have l2:=qr p ok;have n2:suL.length=12:=by decide +kernel
   have n3:bbL.length=4:=by decide +kernel
   refine⟨fun _=>⟨_,rfl,by rw[zP,sizeLine_eq];simp only [List.length_append];omega,?_⟩,fun c=>absurd nm c⟩;have e12:Txt.slice (tx (suL++dg Mx++bbL++ptx p)) none (some 12)=tx suL:=by
    have:=z8W (suL++dg Mx++bbL++ptx p) 12;have e2:(suL++dg Mx++bbL++ptx p).take 12=suL:=by rw[List.append_assoc,List.append_assoc,←n2,List.take_left]
    rw[e2] at this;exact this
   rw[e12,show Str.ofString "sure within " = tx suL from (x6 _).symm];refine eqT ⟨_,rfl,fun _=>?_,fun c=>absurd (decide_eq_true rfl) c⟩;have h9':=h9;rw[hM] at h9';refine pA fun Gn gK=>?_;obtain⟨hk,gA,gB,_⟩:=h9';refine gK ?_;rw[hGd] at gA gB;exact⟨d,pd,A1,B1,S,2,L,xs,ys,ss,ws,us,wh,Mx,p,rfl,hk,by decide,LA,LB,sm,gA.1,gA.2.1,gB.1,gB.2.1,hSS9,prs9,po,hMx,ok,kp,dp,fun H' _=>q H'⟩
 rintro σ H11 ⟨rfl,rfl,j,hj,rfl⟩;refine pA fun Go gL=>?_;obtain⟨j0,jl,jf,jt⟩:=hol.2 j hj;refine gL ?_;walk_at "wpd";refine⟨fun σ H'=>σ=[some (.ref a),some (.int wh),some (.ref A1),some (.ref B1),some (.ref d),some (.ref D),some (.ref S),some (.ref mt),some (.str (tx (y1V++dg j))),some (.int j),none,none,none]/\H'=H11,?_,?_⟩
 ·walk_at "wpd";refine⟨.inl ⟨rfl,_,SqL.of hmt9⟩,mt,_,j.toNat,false,rfl,rfl,hmt9,?_,fun i hi=>?_,?_⟩
  ·rw[List.getElem?_map,List.getElem?_range jl];show some (qu ws us wh (0+((j.toNat:Nat):Int)))=some false;rw[pm,Int.zero_add,Int.toNat_of_nonneg j0,jf]
  ·rw[List.getElem?_map,List.getElem?_range (by omega)];show some (qu ws us wh (0+(i:Int)))=some (!false);rw[pm,Int.zero_add,jt i hi];rfl
  ·rw[Int.toNat_of_nonneg j0];exact⟨rfl,rfl⟩
 rintro σ H12 ⟨rfl,rfl⟩;walk_at "wpd";have e100:(30:Int)<10^100:=by decide +kernel
 have dkj:=z7f (n:=j) j0 (by omega);refine⟨fun σ H'=>σ=[some (.ref a),some (.int wh),some (.ref A1),some (.ref B1),some (.ref d),some (.ref D),some (.ref S),some (.ref mt),some (.str (tx (y1V++dg j))),some (.int j),none,none,none]/\H'=H12,?_,?_⟩
 ·walk_at "wpd";have l1:=dkj.len;have n1:y1V.length=10:=by decide +kernel
  refine⟨j,rfl,dkj.sz,?_⟩;rw[xI,show Str.ofString "lonely at " = tx y1V from (x6 _).symm];refine⟨_,_,rfl,rfl,by rw[zP,zP];omega,?_⟩;rw[jA];refine neT ⟨_,rfl,(fun c=>absurd c (by simp)),fun _=>rfl⟩
 rintro σ H13 ⟨rfl,rfl⟩;walk_at "wpd";refine⟨⟨_,SqL.of hSS9⟩,?_⟩;obtain⟨W,hW⟩:∃W:Nat->St->Hp->Prop,W=fun i σ H'=>∃o1 o2 o3,σ=[some (.ref a),some (.int wh),some (.ref A1),some (.ref B1),some (.ref d),some (.ref D),some (.ref S),some (.ref mt),some (.str (tx (y1V++dg j))),some (.int j),o1,o2,o3]/\Same H13 H':=⟨_,rfl⟩
 refine yR (xs:=ss) W ?_ (fun i σ H' _ z=>?_) (fun i x σ H' hx z=>?_) (fun σ H' z=>?_)
 ·rw[hW];exact⟨none,none,none,rfl,Same.refl _⟩
 ·rw[hW] at z;refine pA fun Gp gM=>?_;obtain⟨_,_,_,_,g⟩:=z;refine gM ?_;exact SqL.of (g _ _ hSS9)
 ·rw[hW] at z;refine pA fun Gq gN=>?_;obtain⟨o1,o2,o3,rfl,g⟩:=z;refine gN ?_;refine pA fun Gr gO=>?_;obtain⟨qa,sh,tu,rfl,hq,s0,s1,t0,t1⟩:=prs9 x (List.mem_of_getElem? hx);refine gO ?_;refine⟨qa,_,rfl,SqT.of (g _ _ hq),rfl,?_⟩;walk_at "wpd";have e60:(10:Int)^40*31<10^60:=by decide +kernel
  have u1:=Int.mul_le_mul_of_nonneg_left s1 (show 0<=wh by omega);have u2:=Int.mul_le_mul_of_nonneg_left s0 (show 0<=wh by omega);have u3:=Int.mul_le_mul_of_nonneg_right w1 (show (0:Int)<=10^40 by decide);have e6:(10:Int)^40<10^60:=by decide +kernel
  rw[Int.mul_neg] at u2;obtain⟨far,hfar⟩:∃far,far=j+wh*sh:=⟨_,rfl⟩
  have f0:-(10^60)<=far:=by omega
  have f1:far<=10^60:=by omega
  have fa:zx (shs ws us) far=false:=by
   rw[hfar,kB (L:=wh*sh) (fun u hu=>Int.dvd_trans (dsh u hu) ⟨sh,rfl⟩)];exact jf
  refine pA fun Gs gP=>?_;obtain⟨sg1,sg2,kt1,kt2,row,tok⟩:=z6V f0 f1 (show -(10^60)<=tu by omega) (show tu<=10^60 by omega);refine gP ?_;have ld1:=sg1.len;have ld2:=sg2.len;have lm:y4t.length=13:=rfl;have h:=mS h9 g;rw[hM] at h;obtain⟨hk,_⟩:=h;obtain⟨dx,hd⟩:=hk.1;rw[←hfar];refine⟨mok 100 400 (by omega) (by omega) (by decide),d,dx,_,rfl,hd,z7w _,far,rfl,sg1.sz,?_⟩;rw[xI,y2U,z6k];refine⟨_,_,rfl,rfl,by rw[zP,zP];omega,?_⟩;rw[jA];refine⟨_,_,rfl,rfl,by rw[zP,zP,List.length_append,List.length_singleton];omega,tu,rfl,sg2.sz,?_⟩;rw[jA,xI];refine⟨_,_,rfl,rfl,by rw[zP,zP,List.length_append,List.length_append,List.length_singleton];omega,?_⟩;rw[jA,z9L];refine⟨d,pd,_,2,L,rfl,hk,by decide,tok,.inr (.inr ⟨z4K,z4C,dg far,dg tu,far,tu,ws,us,row,kt1,kt2,LA,LB,fun r H2 g2 hr=>?_⟩)⟩;have rn:r=none:=(z8z hw hu hr).mpr fun⟨x,hx⟩=>by
   have:=(y2O hw hu).mpr ⟨x,hx⟩;rw[fa] at this;cases this
  rw[rn];refine⟨rfl,_,rfl,(fun c=>absurd c (by simp [y5c])),fun _=>?_⟩;rw[hW];exact⟨_,_,_,rfl,g.trans g2⟩
 ·rw[hW] at z;refine pA fun Gu gQ=>?_;obtain⟨o1,o2,o3,rfl,g⟩:=z;refine gQ ?_;walk_at "wpd";exact q H'
theorem fin {fa:Addr} {h:Heap} (KX:K.In h) (G:h.Ns mainGlobals mg) (hfa:mg "law" = some (.ref fa)) (T_divisor:TF K mg "divisor" vW) (T_least_round:TF K mg "least_round" jN) (T_least_part:TF K mg "least_part" jg) (T_lies_in:TF K mg "lies_in" vS) (T_right_for:TF K mg "right_for" qe) (T_part_of_part:TF K mg "part_of_part" xk) (T_lets_by:TF K mg "lets_by" vT) (T_lets_meet:TF K mg "lets_meet" qg) (T_awake:TF K mg "awake" z4r) (T_plan_round:TF K mg "plan_round" jb) (T_hole:TF K mg "hole" z8a) (T_cover_paper:TF K mg "cover_paper" jQ) (T_paper_of_part:TF K mg "paper_of_part" xT) (T_meets:TF K mg "meets" z4q) (T_parting:TF K mg "parting" vQ) (T_shifts_of_two:TF K mg "shifts_of_two" xS) (T_shifts:TF K mg "shifts" z1h) (T_lonely_shift:TF K mg "lonely_shift" xl) (T_meeting_paper:TF K mg "meeting_paper" xV) (T_paper_names:TF K mg "paper_names" jM) (T_pair_of:TF K mg "pair_of" vR) (T_pair_round:TF K mg "pair_round" jd) (T_paper_wait:TF K mg "paper_wait" jc) (T_divided_up:TF K mg "divided_up" jm) (T_climbed:TF K mg "climbed" vX) (T_first_hit:TF K mg "first_hit" qo) (T_shifted:TF K mg "shifted" vO) (T_together:TF K mg "together" ki) (T_next_together:TF K mg "next_together" xU) (T_next_begin:TF K mg "next_begin" je) (T_plan_of:TF K mg "plan_of" vP) (T_is_waking:TF K mg "is_waking" qm) (T_read_plan:TF K mg "read_plan" qf) (T_read_waking:TF K mg "read_waking" jK) (T_read_number:TF K mg "read_number" jL) (T_is_figures:TF K mg "is_figures" ji) (T_shown_paper:TF K mg "shown_paper" jJ) (T_read_paper:TF K mg "read_paper" ja) (T_words_of:TF K mg "words_of" kh) (T_fits:TF K mg "fits" z8b) (T_is_name:TF K mg "is_name" vV) (T_is_turn:TF K mg "is_turn" vU) (T_told_plan:TF K mg "told_plan" qd) (T_turn_answer:TF K mg "turn_answer" jH) (T_sure_answer:TF K mg "sure_answer" jI) (T_law_cell_at:TF K mg "_law_cell_at" jP) (T_law_plan:TF K mg "_law_plan" kq) (T_law_text:TF K mg "_law_text" km) (T_law_awake:TF K mg "_law_awake" ql) (T_law_both:TF K mg "_law_both" kr) (T_law_meets:TF K mg "_law_meets" qj) (T_law_divisor:TF K mg "_law_divisor" jO) (T_law_pairs:TF K mg "_law_pairs" qi) (T_law_right:TF K mg "_law_right" qh) (T_law_wait:TF K mg "_law_wait" kj) (T_law_whole_number:TF K mg "_law_whole_number" ym) (T_law_great:TF K mg "_law_great" qk) (T_law_first_together:TF K mg "_law_first_together" y7) (T_law_sure:TF K mg "_law_sure" ko) (T_law:TF K mg "law" y3C) (m_len:mg "len" = none) (m_min:mg "min" = none) (m_max:mg "max" = none) (m_all:mg "all" = none) (m_any:mg "any" = none) (m_zip:mg "zip" = none) (m_int:mg "int" = none) (m_str:mg "str" = none) (m_list:mg "list" = none) (m_tuple:mg "tuple" = none) (m_range:mg "range" = none) (m_reversed:mg "reversed" = none) (m_isinstance:mg "isinstance" = none) (m_enumerate:mg "enumerate" = none) (m_set:mg "set" = none) (m_sorted:mg "sorted" = none) (D_FORMS:CDT P w K mg "FORMS" z0H) (c_MOST_FIGURES:CI mg "MOST_FIGURES" 100) (c_MOST_WAKINGS:CI mg "MOST_WAKINGS" 12) (c_MOST_DEPTH:CI mg "MOST_DEPTH" 40) (c_MOST_LETTERS:CI mg "MOST_LETTERS" 8) (c_PRIME_FIGURES:CI mg "PRIME_FIGURES" 12) (c_GRID_FIGURES:CI mg "GRID_FIGURES" 50) (c_LONGEST_ROUND:CI mg "LONGEST_ROUND" 5000) (c_FIGURES:CS mg "FIGURES" "0123456789") (c_LETTERS:CS mg "LETTERS" "abcdefghijklmnopqrstuvwxyz") (C_ALL_TURNS:CT K mg "ALL_TURNS" [1,0]) {c_MeetError c_NoName c_NoRow:Addr} (O_MeetError:OX K mg "MeetError" c_MeetError VE) (O_NoName:OX K mg "NoName" c_NoName (.ref c_MeetError::VE)) (O_NoRow:OX K mg "NoRow" c_NoRow (.ref c_MeetError::VE)) (ndE:[c_MeetError,c_NoName,c_NoRow].Nodup) {C_Desk:Addr} (cl_Desk:Cls K C_Desk) (na_Desk_plans:NoAttr K C_Desk "plans") (mk_Desk:PySem.W.makesIn K C_Desk=true) (kc_Desk:PySem.W.keepIn K (.ref C_Desk)=true) (mg_Desk:mg "Desk" = some (.ref C_Desk)) (T_Desk___init__:TM K C_Desk "__init__" "Desk.__init__" xW) (T_Desk_told:TM K C_Desk "told" "Desk.told" qp) (T_Desk_plan_by:TM K C_Desk "plan_by" "Desk.plan_by" xm) {C_PaperReader:Addr} (cl_PaperReader:Cls K C_PaperReader) (na_PaperReader_text:NoAttr K C_PaperReader "text") (na_PaperReader_place:NoAttr K C_PaperReader "place") (mk_PaperReader:PySem.W.makesIn K C_PaperReader=true) (kc_PaperReader:PySem.W.keepIn K (.ref C_PaperReader)=true) (mg_PaperReader:mg "PaperReader" = some (.ref C_PaperReader)) (T_PaperReader___init__:TM K C_PaperReader "__init__" "PaperReader.__init__" yS) (T_PaperReader_passes:TM K C_PaperReader "passes" "PaperReader.passes" y8) (T_PaperReader_needs:TM K C_PaperReader "needs" "PaperReader.needs" yh) (T_PaperReader_next_number:TM K C_PaperReader "next_number" "PaperReader.next_number" yI) (T_PaperReader_next_papers:TM K C_PaperReader "next_papers" "PaperReader.next_papers" zq) (T_PaperReader_next_paper:TM K C_PaperReader "next_paper" "PaperReader.next_paper" zk) :
  ∃fd:FuncData,(∀(s:Shared) (v:Value),BindsTo s fd ⟨[v],[]⟩ [("script",v)])/\∀base:Heap,K.In base->base.Ns mainGlobals mg->FnOk P w K mg base CX0 89 fa fd ["script"] (sp_law K):=
 y3g KX G hfa fun _ _ _=>
  have X:DkTx K C_Desk:=⟨cl_Desk,na_Desk_plans⟩
  have XR:RdTx K C_PaperReader:=⟨cl_PaperReader,na_PaperReader_text,na_PaperReader_place⟩
  have ca:=z2P T_law_cell_at m_len;have fgM:=z2Q T_is_figures m_len m_all c_FIGURES;have rn:=z0Q T_read_number m_int c_MOST_FIGURES fgM;have rp:=z5M T_read_plan m_len c_MOST_WAKINGS (z2J T_read_waking m_len m_tuple rn) (z9h T_plan_of m_list (z5U T_is_waking));have ps:=y1m XR T_PaperReader_passes m_len;have ne:=y3i cl_PaperReader T_PaperReader_needs ps;have nn:=z2M XR T_PaperReader_next_number m_len c_FIGURES rn;have np:=z0w cl_PaperReader T_PaperReader_next_paper T_PaperReader_next_papers c_MOST_DEPTH ps ne nn 41;have rpa:=z3f XR cl_PaperReader mk_PaperReader kc_PaperReader mg_PaperReader T_read_paper m_len (y3h XR T_PaperReader___init__) np;have sp:=z2I T_shown_paper 14;have dv:=z9p T_divisor;have sh:=y1l T_shifts (vq T_shifts_of_two m_min dv);have li:=z9l T_lies_in dv;have po:=z0R T_part_of_part;have lr:=z2N T_least_round dv;have ho:=y5K T_hole m_range c_LONGEST_ROUND (z3g T_plan_round lr) (z9r T_awake);have co:=z2R T_cover_paper m_len m_range m_list C_ALL_TURNS ho (vt T_paper_of_part m_range (y3j T_meets dv) li (z9j T_parting dv (z3l T_least_part)) po 13);have lm:=z5O T_lets_meet sh (z9m T_lets_by C_ALL_TURNS (z5L T_right_for m_len m_enumerate li po 14));have pr:=z3i T_pair_round (z9k T_pair_of m_len) lr;have pw:=z3h T_paper_wait m_max m_set m_sorted lm (z2K T_paper_names 14) pr;have sa:=z2H T_sure_answer (vx T_meeting_paper sh co) (z0S T_lonely_shift sh ho) pw sp;have d:=z3m T_divided_up;have nt:=vw T_next_together m_min (z7X T_together (z9r T_awake)) (z9g T_shifted) (z3k T_next_begin (z5V T_first_hit d (z9q T_climbed m_reversed d)));have wo:=z7W T_words_of m_len m_zip m_isinstance m_str O_NoRow D_FORMS (y5L T_fits c_PRIME_FIGURES c_GRID_FIGURES fgM (z9o T_is_name m_len m_all c_LETTERS c_MOST_LETTERS) (z9n T_is_turn c_MOST_FIGURES fgM));have tdX:=y1k X cl_Desk T_Desk_told m_int wo (z5K T_told_plan rp) (z9i X T_Desk_plan_by O_NoName) sa (z2G T_turn_answer m_str) nt;have td:=z5J tdX fun _ _ _ _ q=>q;have ld:=z2O T_law_divisor;have bo:=z7c T_law_both (z5T T_law_awake m_any);have me:=z5R T_law_meets m_range m_any bo;have su:=z7a T_law_sure (kW T_law_whole_number m_len m_int) rpa (z5Q T_law_pairs me) (z5P T_law_right m_len m_range m_all ld 14) (z7Y T_law_wait m_len m_max ld 14) (qP cl_Desk T_law_first_together m_str m_isinstance m_range td bo)
  y5v cl_Desk mk_Desk kc_Desk mg_Desk T_law m_len m_str m_isinstance m_range (y3k X T_Desk___init__) td ca (z7b T_law_plan m_len m_range ca) (z7Z T_law_text m_str) (z5S T_law_great) me su
end
end SMk91
local macro_rules | `(tactic| walk_at "cdt_one")=>`(tactic| (refine' L2.CPairs.cons ?kk ?hh ?vv ?ll ?cc ?dd ?zz ?ww ?rr;(case kk=>rfl);(case vv=>rfl);(case ll=>k_is);(case cc=>rfl);(case dd=>rfl);(case zz=>decide);(case hh=>rfl);(case ww=>repeat (first|exact Paired.nil|refine Paired.cons ⟨_,rfl⟩ ?_))))
local macro_rules | `(tactic| walk_at "cdt_all")=>`(tactic| (walk_at "cdt_one";walk_at "cdt_one";walk_at "cdt_one";walk_at "cdt_one";walk_at "cdt_one";walk_at "cdt_one";walk_at "cdt_one";walk_at "cdt_one";exact L2.CPairs.nil))
namespace PySem.W.Fast
def tw10010911418012924731:=0
def tw10010993442692166392:=0
def tw10019040629609336259:=0
def tw10056007178571821118:=0
def tw1007845906690967765:=0
def tw10146119231754391795:=0
def tw10257856807692818966:=0
def tw10288914044132302516:=0
def tw10289737683623866041:=0
def tw10296295465424816427:=0
def tw10313108925141785600:=0
def tw1032908226553552032:=0
def tw10330670902552274113:=0
def tw10348356949729390655:=0
def tw1035699612067383704:=0
def tw10441179807347594417:=0
def tw10455479094451457137:=0
def tw10455918219936442888:=0
def tw10464400137349341588:=0
def tw10496684771291871566:=0
def tw10500631573626749581:=0
def tw10534201226814058232:=0
def tw10558369155609511408:=0
def tw10563519911209072943:=0
def tw10593156583624258285:=0
def tw10597264310072510161:=0
def tw10618567944495673971:=0
def tw10632999069545088904:=0
def tw10638532648431157200:=0
def tw10638996142499045595:=0
def tw10648328558502145758:=0
def tw10694196281825474107:=0
def tw10724142230577169344:=0
def tw107379780666637316:=0
def tw1075858448156818770:=0
def tw10787055923495534206:=0
def tw10790328717133823889:=0
def tw10791908953928648136:=0
def tw10807815331464113917:=0
def tw10828349846535156738:=0
def tw10833891918143140708:=0
def tw1087102228164857739:=0
def tw10873514937509385838:=0
def tw10910326237663903116:=0
def tw10974632412640889101:=0
def tw11000574810843622541:=0
def tw11017445430636805427:=0
def tw11054415356869888683:=0
def tw11058287144273454510:=0
def tw11089095909000937971:=0
def tw11104117617216327807:=0
def tw11139509726050422783:=0
def tw11158297599007759520:=0
def tw11174478312591973396:=0
def tw11182014816068910286:=0
def tw11227068447739425433:=0
def tw11279261823438833588:=0
def tw1130724242617911387:=0
def tw11324723860678758565:=0
def tw11368584405829335201:=0
def tw11382699855592972825:=0
def tw11393304271573303951:=0
def tw11395606263377268350:=0
def tw11398918690917178621:=0
def tw11404764888719453177:=0
def tw11406727065524255317:=0
def tw11435154193236240528:=0
def tw11437067070681739910:=0
def tw11437466422276978323:=0
def tw11446012291416928089:=0
def tw11455193787107076095:=0
def tw11491024084343433139:=0
def tw11551448411556798678:=0
def tw11652637123864573985:=0
def tw11657118582194004765:=0
def tw11666868080235065036:=0
def tw11696369203843651416:=0
def tw11710237993231249527:=0
def tw11719143070136442974:=0
def tw11720723806648354387:=0
def tw11721822864280057050:=0
def tw11737088811125760889:=0
def tw11742785998396653974:=0
def tw11759064186709258257:=0
def tw11875818822550601452:=0
def tw11877038812602719224:=0
def tw11907660838872125089:=0
def tw11937407369191320059:=0
def tw1199240162521803636:=0
def tw11996552795349708378:=0
def tw1201019183874118385:=0
def tw12017479090956073609:=0
def tw12021919585005496546:=0
def tw12109197786135613214:=0
def tw12135441387135977135:=0
def tw12168050928931519134:=0
def tw1218231003673817765:=0
def tw12193627066554581192:=0
def tw12229741425223354239:=0
def tw12237989837443173352:=0
def tw12267804506361795218:=0
def tw1229255546637369611:=0
def tw12293821844632141605:=0
def tw12361187048634996315:=0
def tw12370605397446671860:=0
def tw12379817688499032539:=0
def tw12452264460193770421:=0
def tw12476356872767143405:=0
def tw12532127076159813563:=0
def tw12575335422951381399:=0
def tw12625799328200159932:=0
def tw12635285341432394996:=0
def tw12661731581457910733:=0
def tw12663364283623705166:=0
def tw12663450943599585061:=0
def tw12675108775574641913:=0
def tw12741241566600339716:=0
def tw12764592518523053053:=0
def tw12769015087747087668:=0
def tw12772760746141607679:=0
def tw12778237180827013088:=0
def tw12801040396496843550:=0
def tw12812793031382454404:=0
def tw1287701542784562237:=0
def tw12897660555575295874:=0
def tw12954584738616351515:=0
def tw12960813095475406084:=0
def tw12966175323928022902:=0
def tw12969066073716718873:=0
def tw12981828097716672339:=0
def tw12988031069666513947:=0
def tw13040755000125083562:=0
def tw1306721885967942364:=0
def tw13074520218875921796:=0
def tw13074751311953188208:=0
def tw13106218722685336221:=0
def tw13123756188826563953:=0
def tw13170115315889357254:=0
def tw13200147055987364064:=0
def tw13287409803246846127:=0
def tw13290333117361398883:=0
def tw13296605245280015597:=0
def tw13309155218588985179:=0
def tw13332013835657002514:=0
def tw13349210046022953363:=0
def tw13414148744405458381:=0
def tw13530533943432287754:=0
def tw13533033362850917932:=0
def tw13547119248789784156:=0
def tw13553185753133375562:=0
def tw13559290754313196780:=0
def tw13579395979275844334:=0
def tw13664736842954808519:=0
def tw13670083246247644721:=0
def tw13729164871401397304:=0
def tw1375925548387770335:=0
def tw13769016154860954258:=0
def tw1379510774148589873:=0
def tw13838893061090796462:=0
def tw1389021091320546167:=0
def tw13910377690656562150:=0
def tw13931997962248383145:=0
def tw13934771500654999295:=0
def tw13936480050954705211:=0
def tw13938349159512078296:=0
def tw13941462744087446999:=0
def tw13997619257841975885:=0
def tw14002869554858400514:=0
def tw14026102063951876296:=0
def tw14059046824412062186:=0
def tw14062717608692915888:=0
def tw14070369690328155636:=0
def tw14182663451488240321:=0
def tw14262486437268756200:=0
def tw14273290629877058113:=0
def tw1429771906732678997:=0
def tw14351210049442301415:=0
def tw14367788899871793684:=0
def tw14381545443222267314:=0
def tw14389713903101596426:=0
def tw14406974759524797354:=0
def tw14459043528270854854:=0
def tw14464205742356635515:=0
def tw1449042976808462854:=0
def tw14505922653114195467:=0
def tw1451638249744062537:=0
def tw14556522662202354831:=0
def tw1455906119237591254:=0
def tw14570865449721760155:=0
def tw14578650104559869481:=0
def tw14580942054362916067:=0
def tw14593609987048837416:=0
def tw14596308655057315424:=0
def tw1460555726867214925:=0
def tw14638302389368928164:=0
def tw14647209270218245187:=0
def tw14668147925254538849:=0
def tw14672600669742255860:=0
def tw14713177983901306992:=0
def tw14750747979954051937:=0
def tw14754130140821019087:=0
def tw14764650493792334364:=0
def tw14777512645866326854:=0
def tw14791530527021770239:=0
def tw14795491305000407581:=0
def tw14815183270194144080:=0
def tw14861455231561664329:=0
def tw14874667959227826618:=0
def tw14943356436538538323:=0
def tw14946290545026293286:=0
def tw14978726750785303788:=0
def tw14979918658163536319:=0
def tw14983377772103539119:=0
def tw14994599181011618364:=0
def tw14995789958180968167:=0
def tw14999844798383975310:=0
def tw15008678895134435997:=0
def tw15080317877945641997:=0
def tw15094040754878596109:=0
def tw1509732688957761119:=0
def tw1511474198687263589:=0
def tw15152815470017557770:=0
def tw15187383501025361990:=0
def tw15207880510944643325:=0
def tw15258828982912684372:=0
def tw15261908202273710126:=0
def tw15273301884233133493:=0
def tw15285849652825474470:=0
def tw15291544298188802768:=0
def tw15303842122652788167:=0
def tw15309875152154614520:=0
def tw153172699221014940:=0
def tw1533497549186623430:=0
def tw15355856447274316524:=0
def tw15372665631110852602:=0
def tw15466470905516821186:=0
def tw15487674924474749705:=0
def tw15489119393596541503:=0
def tw15602496153882394315:=0
def tw15632389607083579356:=0
def tw15638806449412813783:=0
def tw15654614985078836470:=0
def tw15664705242138535617:=0
def tw15703751457707568528:=0
def tw15717986638136331745:=0
def tw15720726825427415393:=0
def tw15757141639516598647:=0
def tw15762187318046604753:=0
def tw15767322737500265206:=0
def tw15783856046314856840:=0
def tw15815096888191985581:=0
def tw15857108656445000822:=0
def tw1585879721490349891:=0
def tw15889179561655630316:=0
def tw15968641182032627552:=0
def tw16027088562190380725:=0
def tw16043728460025724201:=0
def tw16047597743989241151:=0
def tw16058567918324881863:=0
def tw16088480673237925789:=0
def tw16110054008046035050:=0
def tw16110830205550251:=0
def tw16130709426152758611:=0
def tw16193865774303246537:=0
def tw1623495908450360819:=0
def tw16244267094257575882:=0
def tw16251788938003406626:=0
def tw16271679499365405593:=0
def tw1628840240424163061:=0
def tw16300381006381643391:=0
def tw16301398070342266172:=0
def tw16325281567583751998:=0
def tw16346589613877345757:=0
def tw1635663643929213165:=0
def tw16362909069506941060:=0
def tw16401179471462836058:=0
def tw16407094603429037217:=0
def tw16409976554794437090:=0
def tw16411580016407966575:=0
def tw16467495617565905218:=0
def tw16514696478720258343:=0
def tw16515606034496789051:=0
def tw16529781902964333240:=0
def tw16564971344580692487:=0
def tw16606149816916658346:=0
def tw16609895208029197016:=0
def tw16620452366696423988:=0
def tw16652316902145963955:=0
def tw16655235378532448211:=0
def tw16656178981083718293:=0
def tw16672105507994926221:=0
def tw16752939947486456013:=0
def tw16798256851284608779:=0
def tw16802770837462273087:=0
def tw16807324783561712237:=0
def tw16852694809118377990:=0
def tw16911188114262068283:=0
def tw16943405775707715117:=0
def tw16961968049070187950:=0
def tw16982826684166190556:=0
def tw16988243039131813126:=0
def tw16988684363533980367:=0
def tw16990719088969610365:=0
def tw17001708567934188160:=0
def tw17023312628869738767:=0
def tw17026510714347384624:=0
def tw17062393033397045541:=0
def tw17081711499253715194:=0
def tw17114332080843712091:=0
def tw17170891245517934714:=0
def tw17187979112160922287:=0
def tw17221191497888805285:=0
def tw17248592751114491984:=0
def tw17266988201098794732:=0
def tw17302315126212453358:=0
def tw1733781675705117034:=0
def tw17351509586116750240:=0
def tw17355612800124958144:=0
def tw1736558570840764870:=0
def tw17370560471660507084:=0
def tw17378998260068067307:=0
def tw1740413920341987145:=0
def tw17411777364581043933:=0
def tw17423355731327638155:=0
def tw17449944937079750688:=0
def tw17523159397720990855:=0
def tw17546675872572193798:=0
def tw17566069557343183644:=0
def tw17567908945691204450:=0
def tw17606186001315264097:=0
def tw17609868300571519779:=0
def tw17619902866225877444:=0
def tw17658097707456652630:=0
def tw17675238547688579468:=0
def tw17702092853288554168:=0
def tw17723608376033766232:=0
def tw17776087808558126431:=0
def tw1777988045680169430:=0
def tw17806889502669446102:=0
def tw17822593845890349336:=0
def tw1784282736952274459:=0
def tw17846791981580857751:=0
def tw17864742903561742159:=0
def tw1787003292358748342:=0
def tw17877730350439406614:=0
def tw17879047659109260392:=0
def tw17880074409095442416:=0
def tw17880084495774806342:=0
def tw17884045637601422688:=0
def tw17890676588815916979:=0
def tw1790973392102310629:=0
def tw17940400151378411984:=0
def tw17954335998429342604:=0
def tw17958970576533230370:=0
def tw17966683422697330749:=0
def tw18042116915536432423:=0
def tw18050739988203584568:=0
def tw18068291277945637564:=0
def tw18077828860221772575:=0
def tw18080536410763194371:=0
def tw18087891224150008410:=0
def tw18088640428980621121:=0
def tw1809173090694796269:=0
def tw18106034655778165884:=0
def tw18137970368589629408:=0
def tw18149679223714864724:=0
def tw18167984740716553109:=0
def tw18207831300827089935:=0
def tw18211969492917434510:=0
def tw18223981253021460956:=0
def tw18247565311769768953:=0
def tw18256342683880198024:=0
def tw18295466181378876247:=0
def tw18309593535282576225:=0
def tw18337816966851347450:=0
def tw18341465718811223794:=0
def tw18415840980260943818:=0
def tw18430526968845793429:=0
def tw1874218147766836312:=0
def tw1922277032555893342:=0
def tw193816983579289658:=0
def tw1957164982516748805:=0
def tw1971702490079185942:=0
def tw2020690341849509150:=0
def tw203753243638523996:=0
def tw2047940592976347060:=0
def tw2073624782852697130:=0
def tw2131614823495288236:=0
def tw2177562825435214095:=0
def tw2206512683104847280:=0
def tw2210454152747287341:=0
def tw2211902583007143512:=0
def tw2234266218517321528:=0
def tw2266566242810403544:=0
def tw2267260419172242195:=0
def tw2275261844317701291:=0
def tw2291472107264868741:=0
def tw2310026481878736563:=0
def tw2322208305870988756:=0
def tw2334871643184035219:=0
def tw2342374797297176647:=0
def tw2342773656634913252:=0
def tw236610143387052216:=0
def tw2429376700947190194:=0
def tw2466717283220237664:=0
def tw2490632726491221409:=0
def tw2510896683306067148:=0
def tw2537097713446302597:=0
def tw2542098093352406375:=0
def tw2550199205326975610:=0
def tw2559642244429885250:=0
def tw2649582468771117356:=0
def tw2692506769375525245:=0
def tw2711922746708215812:=0
def tw2740247660174684432:=0
def tw2744342577584054638:=0
def tw2746183993703530973:=0
def tw2747039297076858510:=0
def tw2750700358157943568:=0
def tw2767651655418527781:=0
def tw2783637800643003426:=0
def tw2810730710471456785:=0
def tw2824145153019691232:=0
def tw2826190484615165282:=0
def tw2848922310073853499:=0
def tw288477993909526486:=0
def tw2909718168993625757:=0
def tw2938298199188902477:=0
def tw295221514286627802:=0
def tw2953651979300604715:=0
def tw2960197954026803122:=0
def tw2968667808140304015:=0
def tw2990782515422621255:=0
def tw3044012595567156446:=0
def tw3053776323281704409:=0
def tw3056036452052340292:=0
def tw3073433771021969912:=0
def tw307990393668304774:=0
def tw3090089074155787075:=0
def tw3134815664324986592:=0
def tw3139060365225318680:=0
def tw3153584803880665613:=0
def tw315610947324522141:=0
def tw3160984214138379435:=0
def tw3183928708904632039:=0
def tw3189105408345406463:=0
def tw3197581523787546329:=0
def tw3220686878000048421:=0
def tw3225325861177494235:=0
def tw323397549656885580:=0
def tw3238411853559679494:=0
def tw3256059996309218252:=0
def tw331018338830258595:=0
def tw3329042204454518339:=0
def tw3343530679375145471:=0
def tw3348347665235548993:=0
def tw3370043760862419491:=0
def tw3375401653713397704:=0
def tw3421417542531949734:=0
def tw3424089535367871857:=0
def tw3439804224716789894:=0
def tw3485265767085191128:=0
def tw348815861734679929:=0
def tw3505086334467818316:=0
def tw3510650553692234115:=0
def tw3532420949198754420:=0
def tw3546300746607712609:=0
def tw3574879064488092431:=0
def tw3582966383526608360:=0
def tw3585190558231674262:=0
def tw361272461664228927:=0
def tw3653550178327168472:=0
def tw3681034000830767440:=0
def tw3700265074132435323:=0
def tw3701982875742946614:=0
def tw3721857422670266610:=0
def tw3754130823833394898:=0
def tw3769799077917900393:=0
def tw378526786410356131:=0
def tw3815889784277629373:=0
def tw381856323098432859:=0
def tw3825706388666289593:=0
def tw3870715268221592940:=0
def tw3875498752351439371:=0
def tw3898388195766201472:=0
def tw3910497827597828921:=0
def tw3943088676680270948:=0
def tw3944138020811326066:=0
def tw3948866115677719897:=0
def tw3995036385531103329:=0
def tw4012548285691523975:=0
def tw401760718996229674:=0
def tw402363995643199943:=0
def tw4031319219049659904:=0
def tw405703776573046769:=0
def tw4108398800512978173:=0
def tw4131548880570930713:=0
def tw4135386267269881169:=0
def tw413673034735078775:=0
def tw4166849533315862789:=0
def tw41887999869052943:=0
def tw4218581681554263348:=0
def tw4249118146250150699:=0
def tw4251556980688351157:=0
def tw426771292990056914:=0
def tw4343009224455605055:=0
def tw4347179895677640711:=0
def tw4506477420420912470:=0
def tw4508360500721477342:=0
def tw4532075200437848593:=0
def tw460093472913179928:=0
def tw4621862445959636518:=0
def tw4646395361994490291:=0
def tw4656659993767471778:=0
def tw4709805448414165161:=0
def tw4745722156734168200:=0
def tw4796118200818621036:=0
def tw4833837753788980065:=0
def tw4847511698790973518:=0
def tw4912173505591096776:=0
def tw4932345674030823986:=0
def tw4949059761113744243:=0
def tw497918393543381568:=0
def tw5000657861478436649:=0
def tw5015965747501057830:=0
def tw503681273359574610:=0
def tw5162886237355115118:=0
def tw5168417947662404867:=0
def tw518680410402936278:=0
def tw5216809594792606059:=0
def tw5226294096780638272:=0
def tw5265293069342764811:=0
def tw5286700590974549173:=0
def tw5294377061744499176:=0
def tw5338562029298702115:=0
def tw5394272727738293882:=0
def tw5409722059470934125:=0
def tw5437250714051593991:=0
def tw5472110671838484080:=0
def tw5473946287051827326:=0
def tw5483037249668577534:=0
def tw5497033074012750175:=0
def tw550031530541637661:=0
def tw5527502475697013912:=0
def tw5566641402572339014:=0
def tw5601606517779205365:=0
def tw5619775064315639534:=0
def tw5639528492900541622:=0
def tw5648007626853855882:=0
def tw5682348876275937374:=0
def tw5698964489265594081:=0
def tw5722172720655660329:=0
def tw5724225492076316522:=0
def tw5729871220829721963:=0
def tw5732807490026929028:=0
def tw5790623048915395143:=0
def tw5801484484241505793:=0
def tw5842943469480414353:=0
def tw5879247190200292716:=0
def tw5888020067731944685:=0
def tw5959061743164915803:=0
def tw5969121754747280874:=0
def tw5998465941361320802:=0
def tw6000714880064435429:=0
def tw600801762343468209:=0
def tw6011251061421657686:=0
def tw6014499698059547637:=0
def tw6017818184901115397:=0
def tw6113731228158034173:=0
def tw6123608984786632228:=0
def tw6134880524390558457:=0
def tw6157032306015320061:=0
def tw6165549270454850187:=0
def tw6217921938894343153:=0
def tw6219779833763651931:=0
def tw6271337793065447081:=0
def tw6290741431557253819:=0
def tw6290833801277701429:=0
def tw6294104080643338104:=0
def tw6295648831765464688:=0
def tw6305188459981750072:=0
def tw6321891241069281575:=0
def tw632922566760462726:=0
def tw6342052440294672088:=0
def tw6349132482797731418:=0
def tw6350965701916671938:=0
def tw641603926269291078:=0
def tw6430808692792828304:=0
def tw6455950184357404581:=0
def tw6458730046041503607:=0
def tw6482896675383387326:=0
def tw6483694222811036200:=0
def tw6513332865248757423:=0
def tw6520682659988211960:=0
def tw652719836644112647:=0
def tw6544636551005140722:=0
def tw6561495184150443063:=0
def tw6606484366037656489:=0
def tw6610073539174902146:=0
def tw6679805839895183460:=0
def tw6698901100639774440:=0
def tw6714634381991045641:=0
def tw6735506082943206528:=0
def tw6754797657058512985:=0
def tw6794011711443892852:=0
def tw6834077546409278813:=0
def tw6876490224402267245:=0
def tw6896930545766025502:=0
def tw6904898349563127047:=0
def tw6906490244414588553:=0
def tw6930391382234451577:=0
def tw7024292164798206503:=0
def tw7077514100361183853:=0
def tw7084576317349450051:=0
def tw7138061201625875167:=0
def tw7152843636694607544:=0
def tw7192126854166996384:=0
def tw7241305924071638833:=0
def tw7246536515880404096:=0
def tw7269183233157400492:=0
def tw7277688261097734108:=0
def tw728972368068244691:=0
def tw7334391403964237022:=0
def tw7363417616826044797:=0
def tw7367719985046224446:=0
def tw7371562579632124989:=0
def tw7414047306432332943:=0
def tw7496456573251301615:=0
def tw75353638293212998:=0
def tw755781370968921953:=0
def tw7600863015298704714:=0
def tw7616213625200072529:=0
def tw7656411755785218904:=0
def tw7660615866652006006:=0
def tw7732226655503390549:=0
def tw773641882845046708:=0
def tw7745644140370053832:=0
def tw7751188971786563497:=0
def tw7777659636459077096:=0
def tw7802081075736527322:=0
def tw7843914552651148496:=0
def tw7845601448546855636:=0
def tw7944500447690348538:=0
def tw798212129167172012:=0
def tw8006276266243610869:=0
def tw8117939950520993865:=0
def tw8125485779388379595:=0
def tw8185635091726002241:=0
def tw8186046958875873675:=0
def tw8197600315425191567:=0
def tw8201568125445879340:=0
def tw8209039504099222855:=0
def tw8243254162588941532:=0
def tw8275566025262419690:=0
def tw8282290042915965081:=0
def tw8307817532309126562:=0
def tw8333339921515812055:=0
def tw8372271899937638891:=0
def tw8382225076459656789:=0
def tw8395553085884655697:=0
def tw839823739291081316:=0
def tw8466251253216616709:=0
def tw8490359086418520065:=0
def tw8494237475500706834:=0
def tw850218251369392829:=0
def tw8518230598405726552:=0
def tw8519929864917460060:=0
def tw8624278505167287032:=0
def tw8641270680347611369:=0
def tw864310744543405664:=0
def tw8679427210067271222:=0
def tw8700635406737885446:=0
def tw8700766731294392821:=0
def tw8713796091511800409:=0
def tw8727559985441386082:=0
def tw8742580043688484001:=0
def tw8763524396804185979:=0
def tw8773038179227939751:=0
def tw8849930008840156869:=0
def tw8938888260618863562:=0
def tw8953248262960625067:=0
def tw8976017164410095642:=0
def tw8976272566594717342:=0
def tw9010689380452264555:=0
def tw901465064954016998:=0
def tw9081855828036121641:=0
def tw9113959821899758167:=0
def tw9114691313576718026:=0
def tw9125924333189310282:=0
def tw9136030861082267957:=0
def tw9169047001161519536:=0
def tw9203037819807433708:=0
def tw9210470341444914861:=0
def tw9213097266818282898:=0
def tw921383269372033611:=0
def tw9256249894881105935:=0
def tw9277888265329377449:=0
def tw9278682781809255241:=0
def tw9345524905741407136:=0
def tw9484172055810167465:=0
def tw9498281758758807705:=0
def tw963240048533754663:=0
def tw9638269647508610474:=0
def tw9662146700680436995:=0
def tw9679213228504631757:=0
def tw9701004316337093797:=0
def tw9706464566276514884:=0
def tw9725777627466239347:=0
def tw9726319940947313935:=0
def tw9728585746901193879:=0
def tw9739020219741005453:=0
def tw9753812051199626335:=0
def tw9852841481322742001:=0
def tw9868186412023015862:=0
def tw9936754306625836161:=0
def tw9945618982286753578:=0
def tw995690634270303287:=0
def tw9963406442875119980:=0
def tw9964650386357074159:=0
def tw9980467996929426109:=0
def tw9995519865715143007:=0
def tw9999866597556184239:=0
end PySem.W.Fast
set_option maxRecDepth 100000 in
set_option maxHeartbeats 0 in
theorem PySem.Challenge.cw_shiftmeet_k91_whole_sure_or_lonely_holds : PySem.Challenge.rw_shiftmeet_k91_whole_sure_or_lonely.Holds := by
  w_on;o_law;k_head;(case hw=>w_witness2)
  k_fill
  refine L2.y1c (l:=PySem.Challenge.rw_shiftmeet_k91_whole_sure_or_lonely) (k:=89) (sp:=SMk91.sp_law) rfl rfl ⟨rfl,by decide,by decide⟩ (fun w h Y=>PySem.W.kIn_of Y) ?F SMk91.sp_start
  case F=>
    intro w mg fa h KX G hmg;refine' SMk91.fin KX G hmg (L2.zl KX G ?a0 ?l0 ?c0 ?k0) (L2.zl KX G ?a1 ?l1 ?c1 ?k1) (L2.zl KX G ?a2 ?l2 ?c2 ?k2) (L2.zl KX G ?a3 ?l3 ?c3 ?k3) (L2.zl KX G ?a4 ?l4 ?c4 ?k4) (L2.zl KX G ?a5 ?l5 ?c5 ?k5) (L2.zl KX G ?a6 ?l6 ?c6 ?k6) (L2.zl KX G ?a7 ?l7 ?c7 ?k7) (L2.zl KX G ?a8 ?l8 ?c8 ?k8) (L2.zl KX G ?a9 ?l9 ?c9 ?k9) (L2.zl KX G ?a10 ?l10 ?c10 ?k10) (L2.zl KX G ?a11 ?l11 ?c11 ?k11) (L2.zl KX G ?a12 ?l12 ?c12 ?k12) (L2.zl KX G ?a13 ?l13 ?c13 ?k13) (L2.zl KX G ?a14 ?l14 ?c14 ?k14) (L2.zl KX G ?a15 ?l15 ?c15 ?k15) (L2.zl KX G ?a16 ?l16 ?c16 ?k16) (L2.zl KX G ?a17 ?l17 ?c17 ?k17) (L2.zl KX G ?a18 ?l18 ?c18 ?k18) (L2.zl KX G ?a19 ?l19 ?c19 ?k19) (L2.zl KX G ?a20 ?l20 ?c20 ?k20) (L2.zl KX G ?a21 ?l21 ?c21 ?k21) (L2.zl KX G ?a22 ?l22 ?c22 ?k22) (L2.zl KX G ?a23 ?l23 ?c23 ?k23) (L2.zl KX G ?a24 ?l24 ?c24 ?k24) (L2.zl KX G ?a25 ?l25 ?c25 ?k25) (L2.zl KX G ?a26 ?l26 ?c26 ?k26) (L2.zl KX G ?a27 ?l27 ?c27 ?k27) (L2.zl KX G ?a28 ?l28 ?c28 ?k28) (L2.zl KX G ?a29 ?l29 ?c29 ?k29) (L2.zl KX G ?a30 ?l30 ?c30 ?k30) (L2.zl KX G ?a31 ?l31 ?c31 ?k31) (L2.zl KX G ?a32 ?l32 ?c32 ?k32) (L2.zl KX G ?a33 ?l33 ?c33 ?k33) (L2.zl KX G ?a34 ?l34 ?c34 ?k34) (L2.zl KX G ?a35 ?l35 ?c35 ?k35) (L2.zl KX G ?a36 ?l36 ?c36 ?k36) (L2.zl KX G ?a37 ?l37 ?c37 ?k37) (L2.zl KX G ?a38 ?l38 ?c38 ?k38) (L2.zl KX G ?a39 ?l39 ?c39 ?k39) (L2.zl KX G ?a40 ?l40 ?c40 ?k40) (L2.zl KX G ?a41 ?l41 ?c41 ?k41) (L2.zl KX G ?a42 ?l42 ?c42 ?k42) (L2.zl KX G ?a43 ?l43 ?c43 ?k43) (L2.zl KX G ?a44 ?l44 ?c44 ?k44) (L2.zl KX G ?a45 ?l45 ?c45 ?k45) (L2.zl KX G ?a46 ?l46 ?c46 ?k46) (L2.zl KX G ?a47 ?l47 ?c47 ?k47) (L2.zl KX G ?a48 ?l48 ?c48 ?k48) (L2.zl KX G ?a49 ?l49 ?c49 ?k49) (L2.zl KX G ?a50 ?l50 ?c50 ?k50) (L2.zl KX G ?a51 ?l51 ?c51 ?k51) (L2.zl KX G ?a52 ?l52 ?c52 ?k52) (L2.zl KX G ?a53 ?l53 ?c53 ?k53) (L2.zl KX G ?a54 ?l54 ?c54 ?k54) (L2.zl KX G ?a55 ?l55 ?c55 ?k55) (L2.zl KX G ?a56 ?l56 ?c56 ?k56) (L2.zl KX G ?a57 ?l57 ?c57 ?k57) (L2.zl KX G ?a58 ?l58 ?c58 ?k58) (L2.zl KX G ?a59 ?l59 ?c59 ?k59) (PySem.W.mg_none_of KX G ?z0) (PySem.W.mg_none_of KX G ?z1) (PySem.W.mg_none_of KX G ?z2) (PySem.W.mg_none_of KX G ?z3) (PySem.W.mg_none_of KX G ?z4) (PySem.W.mg_none_of KX G ?z5) (PySem.W.mg_none_of KX G ?z6) (PySem.W.mg_none_of KX G ?z7) (PySem.W.mg_none_of KX G ?z8) (PySem.W.mg_none_of KX G ?z9) (PySem.W.mg_none_of KX G ?z10) (PySem.W.mg_none_of KX G ?z11) (PySem.W.mg_none_of KX G ?z12) (PySem.W.mg_none_of KX G ?z13) (PySem.W.mg_none_of KX G ?z14) (PySem.W.mg_none_of KX G ?z15) (L2.y5R KX G ?de0 ?dl0 ?dm0 ?dx0 ?dd0 ?dc0 ?dn0) (L2.z5c KX G ?q1) (L2.z5c KX G ?q2) (L2.z5c KX G ?q3) (L2.z5c KX G ?q4) (L2.z5c KX G ?q5) (L2.z5c KX G ?q6) (L2.z5c KX G ?q7) (L2.y5P KX G ?q8) (L2.y5P KX G ?q9) (L2.y5z KX G ?t10 ?u10 ?v10 ?w10 ?x10 ?y10) (L2.y3X KX G ?ea0 ?el0 ?ex0) (L2.y3X KX G ?ea1 ?el1 ?ex1) (L2.y3X KX G ?ea2 ?el2 ?ex2) ?nd ⟨?pg0,?hd0,?po0,?sa0⟩ ?nf0_0 ?mk0 ?kc0 (PySem.W.mg_of KX G ?aC0) (L2.z1D ?ma0_0 ?mi0_0 ?ml0_0 ?mc0_0 ?mp0_0) (L2.z1D ?ma0_1 ?mi0_1 ?ml0_1 ?mc0_1 ?mp0_1) (L2.z1D ?ma0_2 ?mi0_2 ?ml0_2 ?mc0_2 ?mp0_2) ⟨?pg1,?hd1,?po1,?sa1⟩ ?nf1_0 ?nf1_1 ?mk1 ?kc1 (PySem.W.mg_of KX G ?aC1) (L2.z1D ?ma1_0 ?mi1_0 ?ml1_0 ?mc1_0 ?mp1_0) (L2.z1D ?ma1_1 ?mi1_1 ?ml1_1 ?mc1_1 ?mp1_1) (L2.z1D ?ma1_2 ?mi1_2 ?ml1_2 ?mc1_2 ?mp1_2) (L2.z1D ?ma1_3 ?mi1_3 ?ml1_3 ?mc1_3 ?mp1_3) (L2.z1D ?ma1_4 ?mi1_4 ?ml1_4 ?mc1_4 ?mp1_4) (L2.z1D ?ma1_5 ?mi1_5 ?ml1_5 ?mc1_5 ?mp1_5)
    (case aC1=>k_is)
    (case aC0=>k_is)
    (case a0=>k_is);(case l0=>k_is);(case c0=>k_is);(case k0=>k_is)
    (case a1=>k_is);(case l1=>k_is);(case c1=>k_is);(case k1=>k_is)
    (case a2=>k_is);(case l2=>k_is);(case c2=>k_is);(case k2=>k_is)
    (case a3=>k_is);(case l3=>k_is);(case c3=>k_is);(case k3=>k_is)
    (case a4=>k_is);(case l4=>k_is);(case c4=>k_is);(case k4=>k_is)
    (case a5=>k_is);(case l5=>k_is);(case c5=>k_is);(case k5=>k_is)
    (case a6=>k_is);(case l6=>k_is);(case c6=>k_is);(case k6=>k_is)
    (case a7=>k_is);(case l7=>k_is);(case c7=>k_is);(case k7=>k_is)
    (case a8=>k_is);(case l8=>k_is);(case c8=>k_is);(case k8=>k_is)
    (case a9=>k_is);(case l9=>k_is);(case c9=>k_is);(case k9=>k_is)
    (case a10=>k_is);(case l10=>k_is);(case c10=>k_is);(case k10=>k_is)
    (case a11=>k_is);(case l11=>k_is);(case c11=>k_is);(case k11=>k_is)
    (case a12=>k_is);(case l12=>k_is);(case c12=>k_is);(case k12=>k_is)
    (case a13=>k_is);(case l13=>k_is);(case c13=>k_is);(case k13=>k_is)
    (case a14=>k_is);(case l14=>k_is);(case c14=>k_is);(case k14=>k_is)
    (case a15=>k_is);(case l15=>k_is);(case c15=>k_is);(case k15=>k_is)
    (case a16=>k_is);(case l16=>k_is);(case c16=>k_is);(case k16=>k_is)
    (case a17=>k_is);(case l17=>k_is);(case c17=>k_is);(case k17=>k_is)
    (case a18=>k_is);(case l18=>k_is);(case c18=>k_is);(case k18=>k_is)
    (case a19=>k_is);(case l19=>k_is);(case c19=>k_is);(case k19=>k_is)
    (case a20=>k_is);(case l20=>k_is);(case c20=>k_is);(case k20=>k_is)
    (case a21=>k_is);(case l21=>k_is);(case c21=>k_is);(case k21=>k_is)
    (case a22=>k_is);(case l22=>k_is);(case c22=>k_is);(case k22=>k_is)
    (case a23=>k_is);(case l23=>k_is);(case c23=>k_is);(case k23=>k_is)
    (case a24=>k_is);(case l24=>k_is);(case c24=>k_is);(case k24=>k_is)
    (case a25=>k_is);(case l25=>k_is);(case c25=>k_is);(case k25=>k_is)
    (case a26=>k_is);(case l26=>k_is);(case c26=>k_is);(case k26=>k_is)
    (case a27=>k_is);(case l27=>k_is);(case c27=>k_is);(case k27=>k_is)
    (case a28=>k_is);(case l28=>k_is);(case c28=>k_is);(case k28=>k_is)
    (case a29=>k_is);(case l29=>k_is);(case c29=>k_is);(case k29=>k_is)
    (case a30=>k_is);(case l30=>k_is);(case c30=>k_is);(case k30=>k_is)
    (case a31=>k_is);(case l31=>k_is);(case c31=>k_is);(case k31=>k_is)
    (case a32=>k_is);(case l32=>k_is);(case c32=>k_is);(case k32=>k_is)
    (case a33=>k_is);(case l33=>k_is);(case c33=>k_is);(case k33=>k_is)
    (case a34=>k_is);(case l34=>k_is);(case c34=>k_is);(case k34=>k_is)
    (case a35=>k_is);(case l35=>k_is);(case c35=>k_is);(case k35=>k_is)
    (case a36=>k_is);(case l36=>k_is);(case c36=>k_is);(case k36=>k_is)
    (case a37=>k_is);(case l37=>k_is);(case c37=>k_is);(case k37=>k_is)
    (case a38=>k_is);(case l38=>k_is);(case c38=>k_is);(case k38=>k_is)
    (case a39=>k_is);(case l39=>k_is);(case c39=>k_is);(case k39=>k_is)
    (case a40=>k_is);(case l40=>k_is);(case c40=>k_is);(case k40=>k_is)
    (case a41=>k_is);(case l41=>k_is);(case c41=>k_is);(case k41=>k_is)
    (case a42=>k_is);(case l42=>k_is);(case c42=>k_is);(case k42=>k_is)
    (case a43=>k_is);(case l43=>k_is);(case c43=>k_is);(case k43=>k_is)
    (case a44=>k_is);(case l44=>k_is);(case c44=>k_is);(case k44=>k_is)
    (case a45=>k_is);(case l45=>k_is);(case c45=>k_is);(case k45=>k_is)
    (case a46=>k_is);(case l46=>k_is);(case c46=>k_is);(case k46=>k_is)
    (case a47=>k_is);(case l47=>k_is);(case c47=>k_is);(case k47=>k_is)
    (case a48=>k_is);(case l48=>k_is);(case c48=>k_is);(case k48=>k_is)
    (case a49=>k_is);(case l49=>k_is);(case c49=>k_is);(case k49=>k_is)
    (case a50=>k_is);(case l50=>k_is);(case c50=>k_is);(case k50=>k_is)
    (case a51=>k_is);(case l51=>k_is);(case c51=>k_is);(case k51=>k_is)
    (case a52=>k_is);(case l52=>k_is);(case c52=>k_is);(case k52=>k_is)
    (case a53=>k_is);(case l53=>k_is);(case c53=>k_is);(case k53=>k_is)
    (case a54=>k_is);(case l54=>k_is);(case c54=>k_is);(case k54=>k_is)
    (case a55=>k_is);(case l55=>k_is);(case c55=>k_is);(case k55=>k_is)
    (case a56=>k_is);(case l56=>k_is);(case c56=>k_is);(case k56=>k_is)
    (case a57=>k_is);(case l57=>k_is);(case c57=>k_is);(case k57=>k_is)
    (case a58=>k_is);(case l58=>k_is);(case c58=>k_is);(case k58=>k_is)
    (case a59=>k_is);(case l59=>k_is);(case c59=>k_is);(case k59=>k_is)
    (case z0=>k_is)
    (case z1=>k_is)
    (case z2=>k_is)
    (case z3=>k_is)
    (case z4=>k_is)
    (case z5=>k_is)
    (case z6=>k_is)
    (case z7=>k_is)
    (case z8=>k_is)
    (case z9=>k_is)
    (case z10=>k_is)
    (case z11=>k_is)
    (case z12=>k_is)
    (case z13=>k_is)
    (case z14=>k_is)
    (case z15=>k_is)
    (case de0=>k_is);(case dl0=>k_is);(case dm0=>decide);(case dx0=>exact⟨rfl,rfl,rfl⟩);(case dd0=>rfl);(case dc0=>walk_at "cdt_all");(case dn0=>decide +kernel)
    (case q1=>k_is)
    (case q2=>k_is)
    (case q3=>k_is)
    (case q4=>k_is)
    (case q5=>k_is)
    (case q6=>k_is)
    (case q7=>k_is)
    (case q8=>k_is)
    (case q9=>k_is)
    (case t10=>k_is);(case u10=>k_is);(case v10=>rfl);(case w10=>rfl);(case x10=>decide);(case y10=>exact .cons ⟨_,rfl⟩ (.cons ⟨_,rfl⟩ .nil))
    (case ea0=>k_is);(case el0=>k_is);(case ex0=>k_exc)
    (case ea1=>k_is);(case el1=>k_is);(case ex1=>k_exc)
    (case ea2=>k_is);(case el2=>k_is);(case ex2=>k_exc)
    (case nd=>decide +kernel)
    (case pg0=>k_is);(case hd0=>k_is);(case po0=>k_is);(case sa0=>k_is)
    (case nf0_0=>(unfold L2.NoAttr;k_is))
    (case mk0=>k_is);(case kc0=>k_is)
    (case ma0_0=>k_is);(case mi0_0=>k_is);(case ml0_0=>k_is);(case mc0_0=>k_is);(case mp0_0=>k_is)
    (case ma0_1=>k_is);(case mi0_1=>k_is);(case ml0_1=>k_is);(case mc0_1=>k_is);(case mp0_1=>k_is)
    (case ma0_2=>k_is);(case mi0_2=>k_is);(case ml0_2=>k_is);(case mc0_2=>k_is);(case mp0_2=>k_is)
    (case pg1=>k_is);(case hd1=>k_is);(case po1=>k_is);(case sa1=>k_is)
    (case nf1_0=>(unfold L2.NoAttr;k_is))
    (case nf1_1=>(unfold L2.NoAttr;k_is))
    (case mk1=>k_is);(case kc1=>k_is)
    (case ma1_0=>k_is);(case mi1_0=>k_is);(case ml1_0=>k_is);(case mc1_0=>k_is);(case mp1_0=>k_is)
    (case ma1_1=>k_is);(case mi1_1=>k_is);(case ml1_1=>k_is);(case mc1_1=>k_is);(case mp1_1=>k_is)
    (case ma1_2=>k_is);(case mi1_2=>k_is);(case ml1_2=>k_is);(case mc1_2=>k_is);(case mp1_2=>k_is)
    (case ma1_3=>k_is);(case mi1_3=>k_is);(case ml1_3=>k_is);(case mc1_3=>k_is);(case mp1_3=>k_is)
    (case ma1_4=>k_is);(case mi1_4=>k_is);(case ml1_4=>k_is);(case mc1_4=>k_is);(case mp1_4=>k_is)
    (case ma1_5=>k_is);(case mi1_5=>k_is);(case ml1_5=>k_is);(case mc1_5=>k_is);(case mp1_5=>k_is)

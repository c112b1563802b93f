import PyProof.Rows.All
import Wide.All
import OpenK.AllK
import Wide.FinOn
import PyProof.EqAt
import PyProof.EqKinds
import PyProof.TupleCall
import Lean
import PySem.Challenge.RW_shiftmeet_k93_whole_papers_checked
set_option Elab.async false
set_option linter.all false
set_option maxRecDepth 100000
namespace L2
open PySem PySem.Spec PyProof.Rows
noncomputable abbrev Key:=Sum Int Str
noncomputable def keyIs:Key->Value->Bool
 | .inl k,v=>Value.isInt k v
 | .inr x,v=>Value.isStrOf x v
noncomputable def keyH (w:World):Key->Int
 | .inl k=>hashInt k
 | .inr x=>hashStr w x
theorem z0t:∀ {k:Key} {v:Value},keyIs k v=true->(∃i t,k=Sum.inl i/\v=Value.int i t)∨(∃x t,k=Sum.inr x/\v=Value.str x t)
 | .inl i,v,h=>by
  obtain⟨t,e⟩:=Value.isInt_shape (k:=i) (v:=v) h
  exact .inl ⟨i,t,rfl,e⟩
 | .inr x,v,h=>by
  obtain⟨t,e⟩:=Value.isStrOf_shape (x:=x) (v:=v) h
  exact .inr ⟨x,t,rfl,e⟩
theorem y3q (i:Int) (t:Tok):keyIs (.inl i) (.int i t)=true:=by simp [keyIs,Value.isInt]
theorem y3p (x:Str) (t:Tok):keyIs (.inr x) (.str x t)=true:=by simp [keyIs,Value.isStrOf]
theorem y8P (a b:Int):decide ((Sum.inl a:Key)=Sum.inl b)=(a == b):=by
 by_cases e:a=b
 ·subst e;simp
 ·have h:¬(Sum.inl a:Key)=Sum.inl b:=fun q=>e (Sum.inl.inj q)
  rw[decide_eq_false h]
  exact (beq_eq_false_iff_ne.mpr e).symm
theorem y8M (a b:Str):decide ((Sum.inr a:Key)=Sum.inr b)=decide (a=b):=by
 by_cases e:a=b
 ·subst e;simp
 ·have h:¬(Sum.inr a:Key)=Sum.inr b:=fun q=>e (Sum.inr.inj q)
  rw[decide_eq_false h,decide_eq_false e]
theorem y8O (a:Int) (b:Str):decide ((Sum.inl a:Key)=Sum.inr b)=false:=decide_eq_false (fun q=>nomatch q)
theorem y8N (a:Str) (b:Int):decide ((Sum.inr a:Key)=Sum.inl b)=false:=decide_eq_false (fun q=>nomatch q)
noncomputable def z0s (prog:Program) (w:World):PySem.KeyKind prog w Key where
 is:=keyIs
 hash:=keyH w
 inj:=fun v a b ha hb=>by
  rcases z0t ha with⟨i,t,rfl,rfl⟩|⟨x,t,rfl,rfl⟩
  ·rcases z0t hb with⟨j,u,rfl,e⟩|⟨y,u,rfl,e⟩
   ·injection e with e1 _;rw[e1]
   ·exact nomatch e
  ·rcases z0t hb with⟨j,u,rfl,e⟩|⟨y,u,rfl,e⟩
   ·exact nomatch e
   ·injection e with e1 _;rw[e1]
 byValue:=fun k v h=>by
  rcases z0t h with⟨i,t,rfl,rfl⟩|⟨x,t,rfl,rfl⟩ <;> rfl
 pyHash:=fun hv h=>by
  rcases z0t hv with⟨i,t,rfl,rfl⟩|⟨x,t,rfl,rfl⟩
  ·exact wpAny_pyHash_int h
  ·exact wpAny_pyHash_str h
 eqBool:=fun hu hv h=>by
  rcases z0t hu with⟨i,t,rfl,rfl⟩|⟨x,t,rfl,rfl⟩
  ·rcases z0t hv with⟨j,u,rfl,rfl⟩|⟨y,u,rfl,rfl⟩
   ·rw[y8P] at h;exact wpAny_eqBool_int h
   ·rw[y8O] at h;exact SeqAt.EqAt.int_str i t y u _ _ _ _ h
  ·rcases z0t hv with⟨j,u,rfl,rfl⟩|⟨y,u,rfl,rfl⟩
   ·rw[y8N] at h;exact SeqAt.EqAt.str_int x t j u _ _ _ _ h
   ·rw[y8M] at h;exact wpAny_eqBool_str h
 «strs»:=fun k x t v h=>by
  rcases z0t h with⟨i,u,rfl,e⟩|⟨y,u,rfl,e⟩
  ·exact nomatch e
  ·injection e with e1 _
   subst e1
   cases v <;> rfl
theorem y0Q (prog:Program) (w:World) (i:Int) (t:Tok):(z0s prog w).is (.inl i) (.int i t)=true:=y3q i t
theorem z5j (prog:Program) (w:World) (x:Str) (t:Tok):(z0s prog w).is (.inr x) (.str x t)=true:=y3p x t
end L2
namespace L2
open PySem PySem.Spec PyProof.Rows
inductive V where
 | non|bl (b:Bool)|int (i:Int)|str (x:Str)|byt (b:Array UInt8)|flt (b:UInt64)|ref (a:Addr)|ty (n:String)
 deriving DecidableEq
noncomputable def RelV:V->Value->Prop
 | .non,u=>u=Value.none
 | .bl b,u=>u=Value.bool b
 | .int i,u=>∃t,u=Value.int i t
 | .str x,u=>∃t,u=Value.str x t
 | .byt b,u=>∃t,u=Value.bytes b t
 | .flt b,u=>∃t,u=Value.float b t
 | .ref a,u=>u=Value.ref a
 | .ty n,u=>u=Value.type n
noncomputable abbrev Vals:List V->List Value->Prop:=Paired RelV
theorem Vals.length {xs:List V} {us:List Value} (r:Vals xs us):xs.length=us.length:=Paired.length r
theorem Vals.get:∀ {xs:List V} {us:List Value} {i:Nat} {x:V},Vals xs us->xs[i]?=some x->∃u,us[i]?=some u/\RelV x u
 | _,_,_,_,.nil,e=>by simp at e
 | _,_,0,_,.cons r _,e=>by simp at e;subst e;exact⟨_,rfl,r⟩
 | _,_,i+1,x,.cons _ t,e=>by
  obtain⟨u,h1,h2⟩:=Vals.get (i:=i) (x:=x) t (by simpa using e)
  exact⟨u,by simpa using h1,h2⟩
theorem Vals.set {x:V} {u:Value} (r:RelV x u):∀ {xs:List V} {us:List Value} (i:Nat),Vals xs us->Vals (xs.set i x) (us.set i u)
 | _,_,_,.nil=>.nil
 | _,_,0,.cons _ t=>.cons r t
 | _,_,i+1,.cons q t=>.cons q (Vals.set r i t)
theorem Vals.append:∀ {xs ys:List V} {us ws:List Value},Vals xs us->Vals ys ws->Vals (xs++ys) (us++ws)
 | _,_,_,_,.nil,s=>s
 | _,_,_,_,.cons r t,s=>.cons r (Vals.append t s)
theorem Vals.take:∀ {xs:List V} {us:List Value} (n:Nat),Vals xs us->Vals (xs.take n) (us.take n)
 | _,_,0,_=>.nil
 | _,_,_+1,.nil=>.nil
 | _,_,n+1,.cons r t=>.cons r (Vals.take n t)
theorem Vals.drop:∀ {xs:List V} {us:List Value} (n:Nat),Vals xs us->Vals (xs.drop n) (us.drop n)
 | _,_,0,r=>r
 | _,_,_+1,.nil=>.nil
 | _,_,n+1,.cons _ t=>Vals.drop n t
noncomputable def RelO:Option V->Option Value->Prop
 | some v,some u=>RelV v u
 | none,none=>True
 | _,_=>False
noncomputable def KV {κ:Type}:List (κ×V)->List (κ×Value)->Prop:=Paired fun (p:κ×V) (q:κ×Value)=>p.1=q.1/\RelV p.2 q.2
noncomputable def kV:Key->V
 | .inl i=>.int i
 | .inr x=>.str x
inductive HO where
 | lst (xs:List V)
 | tup (xs:List V)
 | dK (kvs:List (Key×V))|dT (kvs:List (List Key×V))
 | set (S:Int->Bool) (n:Nat)
 | ins (C dx:Addr) (fs:List (Str×V))
 | own (x:Addr)
 | xd (fs:List (Str×V))
 | met (f x:Addr)
 | rng (lo hi:Int)
 | frz (o:Obj) (u:HO)
 | tbl (ps:Array Value)
 | ext (φ:Heap->Prop)
noncomputable abbrev Hp:=Addr->Option HO
noncomputable def upd (H:Hp) (a:Addr) (o:HO):Hp:=fun b=>if b=a then some o else H b
theorem z0F {H:Hp} {a:Addr} {o:HO}:upd H a o a=some o:=by unfold upd;rw[if_pos rfl]
theorem z0U {H:Hp} {a b:Addr} {o:HO} (h:b≠a):upd H a o b=H b:=by unfold upd;rw[if_neg h]
theorem ne_of {H:Hp} {a b:Addr} {o u:HO} (h:H a=some o) (h':H b=some u) (d:o≠u):a≠b:=by
 intro e;subst e;rw[h] at h';exact d (Option.some.inj h')
theorem z0O {H:Hp} {a b:Addr} {o:HO} (h:H a=some o) (h':H b=none):a≠b:=by
 intro e;subst e;rw[h] at h';cases h'
section
variable (P:Program) (w:World)
noncomputable def ObjOk (H:Hp) (h:Heap) (a:Addr):HO->Prop
 | .lst xs=>xs.length<=sizeLine/\∃(its:List Value) (n:Nat),Vals xs its/\h.get? a=some { cls:=.type "list",data:=.seq its.toArray n }
 | .tup xs=>xs.length<=sizeLine/\∃its:List Value,Vals xs its/\IsTup h a its.toArray
 | .dK kvs=>kvs.length<=sizeLine/\(a == sysModules)=false/\∃vs,KV kvs vs/\h.DictOf (z0s P w) a vs
 | .dT kvs=>kvs.length<=sizeLine/\(a == sysModules)=false/\∃xs:List (List Key×Addr×Value),
   Paired (fun (p:List Key×V) (q:List Key×Addr×Value)=>p.1=q.1/\H q.2.1=some (.tup (p.1.map kV))/\RelV p.2 q.2.2) kvs xs/\
   ∃o es ep,h.get? a=some o/\o.ExactDict/\o.data=.dict es ep/\es.toList=xs.map (entryOfKey (tupleKind (z0s P w)))/\(xs.map (·.1)).Nodup
 | .set S n=>h.SetOf (intKind P w) a S n
 | .ins C dx fs=>H dx=some (.own a)/\fs.length<=1000/\dx≠a/\h.get? a=some (PySem.W.instObj C dx)/\
   ∃mA,h.Ns1 dx mA/\(∀f,RelO (fs.lookup f) (mA f))/\PySem.Within mA (fs.map (·.1))
 | .own _=>∃o,h.get? a=some o
 | .xd fs=>∃mA,h.Ns1 a mA/\∀f,RelO (fs.lookup f) (mA f)
 | .rng lo hi=>∃t u v,h.get? a=some { cls:=.type "range",data:=.fields #[.int lo t,.int hi u,.int 1 v] }
 | .frz o u=>h.get? a=some o/\ObjOk H h a u
 | .tbl ps=>h.get? a=some { cls:=.none,data:=.fields ps }
 | .met f x=>h.get? a=some (PySem.W.methodObj (.ref f) (.ref x))
 | .ext φ=>φ h/\(∃o,h.get? a=some o)/\∀h1 h2:Heap,φ h1->(∀o,h1.get? a=some o->h2.get? a=some o)->φ h2
noncomputable def HOk (H:Hp) (h:Heap):Prop:=∀a o,H a=some o->ObjOk P w H h a o
end
section
variable {P:Program} {w:World} {H H':Hp} {h h':Heap} {a:Addr} {o:HO}
theorem ObjOk.lt (x:ObjOk P w H h a o):a<h.objs.size:=by
 cases o with
 | lst xs=>obtain⟨_,_,_,_,e⟩:=x;exact Heap.lt_size e
 | tup xs=>obtain⟨_,_,_,p⟩:=x;exact p.lt
 | dK kvs=>obtain⟨_,_,_,_,o,_,_,e,_⟩:=x;exact Heap.lt_size e
 | dT kvs=>obtain⟨_,_,_,_,o,_,_,e,_⟩:=x;exact Heap.lt_size e
 | set S n=>obtain⟨o,_,_,_,e,_⟩:=x;exact Heap.lt_size e
 | ins C dx fs=>obtain⟨_,_,_,e,_⟩:=x;exact Heap.lt_size e
 | own y=>obtain⟨_,e⟩:=x;exact Heap.lt_size e
 | xd fs=>obtain⟨_,⟨_,_,_,e,_⟩,_⟩:=x;exact Heap.lt_size e
 | rng lo hi=>obtain⟨_,_,_,e⟩:=x;exact Heap.lt_size e
 | frz ob u=>obtain⟨e,_⟩:=x;exact Heap.lt_size e
 | tbl ps=>exact Heap.lt_size (show h.get? a=some _ from x)
 | met f y=>exact Heap.lt_size (show h.get? a=some _ from x)
 | ext φ=>obtain⟨_,⟨_,e⟩,_⟩:=x;exact Heap.lt_size e
theorem Paired.mapP {α β:Type} {F G:α->β->Prop}:∀ {l₁:List α} {l₂:List β},Paired F l₁ l₂->(∀a b,F a b->G a b)->Paired G l₁ l₂
 | _,_,.nil,_=>.nil
 | _,_,.cons r t,f=>.cons (f _ _ r) (Paired.mapP t f)
theorem ObjOk.stay (x:ObjOk P w H h a o) (k:∀b u,(b=a∨H b=some (.own a))->h.get? b=some u->h'.get? b=some u)
  (ho:∀b,H b=some (.own a)->H' b=some (.own a)) (ht:∀b xs,H b=some (.tup xs)->H' b=some (.tup xs)):ObjOk P w H' h' a o:=by
 induction o with
 | lst xs=>obtain⟨z,its,n,r,e⟩:=x;exact⟨z,its,n,r,k _ _ (.inl rfl) e⟩
 | tup xs=>obtain⟨z,its,r,ob,e,c⟩:=x;exact⟨z,its,r,ob,k _ _ (.inl rfl) e,c⟩
 | dK kvs=>obtain⟨z,y,vs,r,ob,es,ep,e,c⟩:=x;exact⟨z,y,vs,r,ob,es,ep,k _ _ (.inl rfl) e,c⟩
 | dT kvs=>
  obtain⟨z,y,xs,r,ob,es,ep,e,c⟩:=x
  exact⟨z,y,xs,Paired.mapP r fun p q z=>⟨z.1,ht _ _ z.2.1,z.2.2⟩,ob,es,ep,k _ _ (.inl rfl) e,c⟩
 | set S n=>obtain⟨ob,es,ep,t,e,c⟩:=x;exact⟨ob,es,ep,t,k _ _ (.inl rfl) e,c⟩
 | ins C dx fs=>
  obtain⟨d,z,ne,e,mA,⟨od,es,ep,e2,c⟩,r⟩:=x
  exact⟨ho _ d,z,ne,k _ _ (.inl rfl) e,mA,⟨od,es,ep,k _ _ (.inr d) e2,c⟩,r⟩
 | own y=>obtain⟨ob,e⟩:=x;exact⟨ob,k _ _ (.inl rfl) e⟩
 | xd fs=>obtain⟨mA,⟨od,es,ep,e,c⟩,r⟩:=x;exact⟨mA,⟨od,es,ep,k _ _ (.inl rfl) e,c⟩,r⟩
 | rng lo hi=>obtain⟨t,u,v,e⟩:=x;exact⟨t,u,v,k _ _ (.inl rfl) e⟩
 | frz ob u ih=>obtain⟨e,q⟩:=x;exact⟨k _ _ (.inl rfl) e,ih q⟩
 | tbl ps=>
  have e:h.get? a=some { cls:=.none,data:=.fields ps }:=x
  show h'.get? a=some { cls:=.none,data:=.fields ps }
  exact k a _ (.inl rfl) e
 | met f y=>
  have e:h.get? a=some (PySem.W.methodObj (.ref f) (.ref y)):=x
  show h'.get? a=some (PySem.W.methodObj (.ref f) (.ref y))
  exact k a _ (.inl rfl) e
 | ext φ=>obtain⟨p,⟨o,e⟩,st⟩:=x;exact⟨st _ _ p fun o q=>k _ _ (.inl rfl) q,⟨o,k _ _ (.inl rfl) e⟩,st⟩
theorem HOk.lt (x:HOk P w H h) (e:H a=some o):a<h.objs.size:=(x a o e).lt
theorem HOk.fresh (x:HOk P w H h) (e:h.objs.size<=a):H a=none:=by
 cases q:H a with
 | none=>rfl
 | some u=>exact absurd (Nat.lt_of_lt_of_le (x.lt q) e) (Nat.lt_irrefl _)
theorem HOk.kept (x:HOk P w H h) (k:∀b u,h.get? b=some u->h'.get? b=some u):HOk P w H h':=fun a o e=>
 (x a o e).stay (fun b u _ q=>k b u q) (fun _ q=>q) fun _ _ q=>q
theorem HOk.laid (x:HOk P w H h) (k:∀b u,h.get? b=some u->h'.get? b=some u) (hp:h.objs.size<=a) (new:ObjOk P w (upd H a o) h' a o):HOk P w (upd H a o) h':=fun b u e=>by
 have hn:=x.fresh hp
 by_cases hb:b=a
 ·subst hb;rw[z0F] at e;cases e;exact new
 ·rw[z0U hb] at e
  exact (x b u e).stay (fun c v _ q=>k c v q) (fun c q=>by rw[z0U (z0O q hn)];exact q) fun c xs q=>by rw[z0U (z0O q hn)];exact q
end
noncomputable def Rd (H:Hp) (a:Addr) (u:HO):Prop:=H a=some u∨∃o,H a=some (.frz o u)
theorem Rd.ok {P:Program} {w:World} {H:Hp} {h:Heap} {a:Addr} {u:HO} (r:Rd H a u) (x:HOk P w H h):ObjOk P w H h a u:=by
 rcases r with r|⟨o,r⟩
 ·exact x a u r
 ·obtain⟨_,q⟩:=x a _ r
  exact q
noncomputable def Mut:Option HO->Prop
 | some (.lst _)=>True
 | some (.dK _)=>True
 | some (.dT _)=>True
 | some (.set _ _)=>True
 | some (.ins _ _ _)=>True
 | some (.ext _)=>True
 | _=>False
section
variable {P:Program} {w:World} {H:Hp} {h h':Heap} {x e:Addr} {o':HO}
theorem HOk.write (ok:HOk P w H h) (mu:Mut (H x)) (he:e=x∨H e=some (.own x)) (k:∀b u,b≠e->h.get? b=some u->h'.get? b=some u) (heo:∃u,h'.get? e=some u)
  (new:ObjOk P w (upd H x o') h' x o'):HOk P w (upd H x o') h':=fun b u q=>by
 have nown:∀c y,H c=some (.own y)->c≠x:=fun c y r z=>by subst z;rw[r] at mu;exact mu
 have ntup:∀c xs,H c=some (.tup xs)->c≠x:=fun c xs r z=>by subst z;rw[r] at mu;exact mu
 by_cases hb:b=x
 ·subst hb;rw[z0F] at q;cases q;exact new
 ·rw[z0U hb] at q
  by_cases hbe:b=e
  ·have q':H b=some (.own x):=by
    rcases he with z|z
    ·exact absurd (hbe.trans z) hb
    ·rw[hbe];exact z
   rw[q] at q';cases q'
   obtain⟨v,hv⟩:=heo
   exact⟨v,by rw[hbe];exact hv⟩
  ·refine (ok b u q).stay (fun c v hc r=>k c v ?_ r) (fun c r=>by rw[z0U (nown c b r)];exact r) fun c xs r=>by rw[z0U (ntup c xs r)];exact r
   rcases hc with rfl|hc
   ·exact hbe
   ·rintro rfl
    rcases he with z|z
    ·exact nown c b hc z
    ·rw[hc] at z;cases z;exact hb rfl
end
structure Un (fs ex:List Addr) (H H':Hp) (h h':Heap):Prop where
 keep:∀b o,h.get? b=some o->H b=none->b∉fs->b∉ex->h'.get? b=some o
 slot:∀b o,h.get? b=some o->H b=none->b∈fs->b∉ex->∃sl,h'.get? b=some { o with slots:=sl }
 free:∀b o,h.get? b=some o->H b=none->b∉ex->H' b=none
 there:∀b o,h.get? b=some o->b∉ex->∃o',h'.get? b=some o'
 tups:∀b xs,H b=some (.tup xs)->H' b=some (.tup xs)
 frzs:∀b o u,H b=some (.frz o u)->H' b=some (.frz o u)
 tbls:∀b ps,H b=some (.tbl ps)->∃more,H' b=some (.tbl (ps++more))
section
variable {fs fs' ex ex':List Addr} {H H1 H2:Hp} {h h1 h2 h':Heap} {a x e:Addr} {o:HO}
theorem Un.any (u:Un fs ex H H1 h h1) {b:Addr} {ob:Obj} (q:h.get? b=some ob) (n:H b=none) (hx:b∉ex):∃sl,h1.get? b=some { ob with slots:=sl }:=by
 by_cases hb:b∈fs
 ·exact u.slot b ob q n hb hx
 ·exact⟨ob.slots,u.keep b ob q n hb hx⟩
theorem Un.trans (a:Un fs ex H H1 h h1) (b:Un fs ex H1 H2 h1 h2):Un fs ex H H2 h h2 where
 keep:=fun c ob q n hc hx=>b.keep c ob (a.keep c ob q n hc hx) (a.free c ob q n hx) hc hx
 slot:=fun c ob q n hc hx=>by
  obtain⟨sl,e1⟩:=a.slot c ob q n hc hx
  obtain⟨sl',e2⟩:=b.slot c _ e1 (a.free c ob q n hx) hc hx
  exact⟨sl',e2⟩
 free:=fun c ob q n hx=>by
  obtain⟨o',e1⟩:=a.there c ob q hx
  exact b.free c o' e1 (a.free c ob q n hx) hx
 there:=fun c ob q hx=>by
  obtain⟨o',e1⟩:=a.there c ob q hx
  exact b.there c o' e1 hx
 tups:=fun c xs q=>b.tups c xs (a.tups c xs q)
 frzs:=fun c ob xs q=>b.frzs c ob xs (a.frzs c ob xs q)
 tbls:=fun c ps q=>by
  obtain⟨m1,e1⟩:=a.tbls c ps q
  obtain⟨m2,e2⟩:=b.tbls c _ e1
  exact⟨m1++m2,by rw[e2,Array.append_assoc]⟩
theorem Un.kept (k:∀b u,h.get? b=some u->h'.get? b=some u):Un fs ex H H h h':=
 ⟨fun b ob q _ _ _=>k b ob q,fun b ob q _ _ _=>⟨ob.slots,k b ob q⟩,fun _ _ _ n _=>n,fun b ob q _=>⟨ob,k b ob q⟩,fun _ _ q=>q,fun _ _ _ q=>q,fun _ ps q=>⟨#[],by rw[q];simp⟩⟩
theorem Un.refl:Un fs ex H H h h:=Un.kept fun _ _ q=>q
theorem Un.laid (k:∀b u,h.get? b=some u->h'.get? b=some u) (hp:h.objs.size<=a) (hn:H a=none):Un fs ex H (upd H a o) h h' where
 keep:=fun b u q _ _ _=>k b u q
 slot:=fun b u q _ _ _=>⟨u.slots,k b u q⟩
 free:=fun b u q n _=>by rw[z0U (Nat.ne_of_lt (Nat.lt_of_lt_of_le (Heap.lt_size q) hp))];exact n
 there:=fun b u q _=>⟨u,k b u q⟩
 tups:=fun b xs q=>by rw[z0U (z0O q hn)];exact q
 frzs:=fun b u xs q=>by rw[z0U (z0O q hn)];exact q
 tbls:=fun b ps q=>⟨#[],by rw[z0U (z0O q hn),q];simp⟩
theorem Un.write (mu:Mut (H x)) (he:e=x∨H e=some (.own x)) (k:∀b u,b≠e->h.get? b=some u->h'.get? b=some u) (heo:∃u,h'.get? e=some u):Un fs ex H (upd H x o) h h':=by
 have hx:∀b,H b=none->b≠x:=fun b n z=>by subst z;rw[n] at mu;exact mu
 have hb:∀b,H b=none->b≠e:=fun b n z=>by
  subst z
  rcases he with r|r
  ·exact hx b n r
  ·rw[n] at r;cases r
 have hm:∀b u,H b=some u->¬Mut (some u)->b≠x:=fun b u q nm z=>by subst z;rw[q] at mu;exact nm mu
 refine⟨fun b u q n _ _=>k b u (hb b n) q,fun b u q n _ _=>⟨u.slots,k b u (hb b n) q⟩,fun b u q n _=>by rw[z0U (hx b n)];exact n,fun b u q _=>?_,
  fun b xs q=>by rw[z0U (hm b _ q fun z=>z)];exact q,fun b u xs q=>by rw[z0U (hm b _ q fun z=>z)];exact q,fun b ps q=>⟨#[],by rw[z0U (hm b _ q fun z=>z),q];simp⟩⟩
 by_cases hbe:b=e
 ·subst hbe;exact heo
 ·exact⟨u,k b u hbe q⟩
theorem Un.mono (u:Un fs ex H H1 h h1) (hs:∀b∈fs,b∈fs') (hx:∀b∈ex,b∈ex'):Un fs' ex' H H1 h h1:=
 ⟨fun b ob q n hb he=>u.keep b ob q n (fun z=>hb (hs b z)) fun z=>he (hx b z),fun _ _ q n _ he=>u.any q n fun z=>he (hx _ z),fun b ob q n he=>u.free b ob q n fun z=>he (hx b z),fun b ob q he=>u.there b ob q fun z=>he (hx b z),u.tups,u.frzs,u.tbls⟩
end
noncomputable def trk (h:Heap) (H:Hp):List Addr:=(List.range h.objs.size).filter fun a=>(H a).isSome
noncomputable def hidT (h:Heap) (H:Hp):Heap:=PySem.W.hideAll h (trk h H)
theorem y4F (h:Heap) (H:Hp):(hidT h H).objs.size=h.objs.size:=PySem.W.hideAll_size _ _
theorem y5t {h:Heap} {H:Hp} {b:Addr} {o:Obj} (e:h.get? b=some o) (n:H b=none):(hidT h H).get? b=some o:=
 PySem.W.hideAll_get _ e fun hm=>by
  have q:(H b).isSome=true:=(List.mem_filter.mp hm).2
  rw[n] at q;simp at q
theorem y7N {h:Heap} {H:Hp} {b:Addr} {o:Obj} (e:(hidT h H).get? b=some o):h.get? b=some o/\H b=none:=by
 have e':h.get? b=some o:=PySem.W.of_hideAll (trk h H) e
 refine⟨e',?_⟩
 cases q:H b with
 | none=>rfl
 | some x=>
  have hm:b∈trk h H:=List.mem_filter.mpr ⟨List.mem_range.mpr (Heap.lt_size e'),by simp [q]⟩
  have z:(hidT h H).get? b=none:=PySem.W.hideAll_none (trk h H) hm
  rw[z] at e;cases e
noncomputable def y7m (g h:Heap) (L:Addr):List (Addr×Obj):=(List.range h.objs.size).filterMap fun a=>if a=L∨(g.get? a).isSome=true then none else (h.get? a).map fun o=>(a,o)
noncomputable def rest (g h:Heap) (L d:Addr):List (Addr×Obj):=(y7m g h L).filter fun p=>decide (p.1≠d)
end L2
namespace L2
open PySem PySem.Spec PyProof.Rows
structure Mod (K:PySem.W.Frag) (mg:Str->Option Value) (base:Heap):Prop where
 kin:K.In base
 glob:base.Ns mainGlobals mg
 blt:∃mb,base.Ns builtinsNs mb/\∀x:Str,x≠ "__name__" ->mb x=bootBuiltins x
 nolimit:base.NoLimit
structure Cx where
 prog:Program
 w:World
 K:PySem.W.Frag
 mg:Str->Option Value
 base:Heap
 A:Around
 N:List Str
 s₀:Shared
 H₀:Hp
 env:Env
 outer:List Env
 stack:List Env
 ex:List Addr
 fn:Str->Bool
 calm:Bool
 pn:List (Addr×Obj)
 xe:Value->Shared->Prop
noncomputable def frs (l:List Env):List Addr:=l.filterMap (·.frame)
noncomputable abbrev Cx.fs (X:Cx):List Addr:=frs X.outer
noncomputable def Vis (sc:Scope) (x:Str):Prop:=sc.names.lookup x=some .local∨sc.names.lookup x=some .cell∨sc.names.lookup x=some .free
noncomputable def Loc (sc:Scope) (x:Str):Prop:=sc.names.lookup x=some .local∨sc.names.lookup x=some .cell
noncomputable def Look (env:Env) (h:Heap) (m:Str->Option Value) (x:Str) (u:Value):Prop:=
 (env.kindOf x=some .local/\m x=some u)∨((env.kindOf x=some .cell∨env.kindOf x=some .free)/\∃c,env.cells.lookup x=some c/\h.IsCell c (some u))
structure Cx.Ok (X:Cx):Prop where
 mod:Mod X.K X.mg X.base
 kind:X.env.scope.kind=.function
 glob:X.env.globals=mainGlobals
 blt:X.env.builtins=builtinsNs
 above:X.s₀.heap.objs.size<=X.env.locals
 inj:∀x y c,X.env.cells.lookup x=some c->X.env.cells.lookup y=some c->x=y
 has:∀x,(X.env.kindOf x=some .cell∨X.env.kindOf x=some .free)->∃c,X.env.cells.lookup x=some c
 cab:∀x c,X.fn x=true->X.env.cells.lookup x=some c->X.s₀.heap.objs.size<=c
 hd:X.calm=true->X.A.handled=none
 frames:X.A.frames=some X.stack
 stk:X.stack=X.outer∨(X.stack=X.env::X.outer/\X.env.frame=some X.env.locals)
 exf:∀b∈X.ex,b≠X.env.locals/\∀x c,X.env.cells.lookup x=some c->c≠b
 bs:∀b o,X.base.get? b=some o->X.s₀.heap.get? b=some o/\X.H₀ b=none
 bsz:X.base.objs.size<=X.s₀.heap.objs.size
 noex:∀b o,X.base.get? b=some o->b∉X.ex
 exfs:∀b∈X.ex,b∉X.fs
 funs:X.s₀.heap.FunFrames X.base X.outer
 frf:∀b∈X.fs,X.H₀ b=none
structure Inv (X:Cx) (pins:List (Addr×Obj)) (σ:List (Option V)) (H:Hp) (s:Shared):Prop where
 ok:X.Ok
 os:s.os=X.s₀.os
 bare:AllBare s.gens
 base:Un X.fs X.ex X.H₀ H X.s₀.heap s.heap
 loc:∃m,s.heap.Ns X.env.locals m/\∀(i:Nat) (x:Str) (v:V),X.N[i]?=some x->σ[i]?=some (some v)->Vis X.env.scope x->∃u,RelV v u/\Look X.env s.heap m x u
 cell:∀x c,X.env.cells.lookup x=some c->∃v,s.heap.IsCell c v
 free:H X.env.locals=none
 freeC:∀x c,X.env.cells.lookup x=some c->H c=none
 pin:∀p∈X.pn++pins,s.heap.get? p.1=some p.2/\H p.1=none/\p.1≠X.env.locals/\p.1∉X.fs/\∀v,p.2.data≠.cell v
 hok:HOk X.prog X.w H s.heap
 len:σ.length=X.N.length
section
variable {X:Cx} {pins:List (Addr×Obj)} {σ:List (Option V)} {H H':Hp} {s:Shared} {h':Heap}
theorem Cx.Ok.nofr (ok:X.Ok) {b:Addr} {o:Obj} (e:X.base.get? b=some o):b∉X.fs:=fun hb=>by
 have:=(ok.funs.mem hb).1
 rw[e] at this;cases this
theorem Inv.bs (I:Inv X pins σ H s):∀b o,X.base.get? b=some o->s.heap.get? b=some o/\H b=none:=fun b o e=>
 ⟨I.base.keep b o (I.ok.bs b o e).1 (I.ok.bs b o e).2 (I.ok.nofr e) (I.ok.noex b o e),I.base.free b o (I.ok.bs b o e).1 (I.ok.bs b o e).2 (I.ok.noex b o e)⟩
theorem Inv.bk (I:Inv X pins σ H s):∀b o,X.base.get? b=some o->s.heap.get? b=some o:=fun b o e=>(I.bs b o e).1
theorem Inv.mod (I:Inv X pins σ H s):Mod X.K X.mg X.base:=I.ok.mod
theorem Inv.kIn (I:Inv X pins σ H s):X.K.In s.heap:=I.ok.mod.kin.keeps I.bk
theorem Inv.lt (I:Inv X pins σ H s):X.env.locals<s.heap.objs.size:=let ⟨_,hn,_⟩:=I.loc;hn.lt
theorem Inv.sz (I:Inv X pins σ H s):X.s₀.heap.objs.size<=s.heap.objs.size:=Nat.le_trans I.ok.above (Nat.le_of_lt I.lt)
theorem Inv.nofs (I:Inv X pins σ H s) {a:Addr} (h:s.heap.objs.size<=a):a∉X.fs:=fun hb=>by
 obtain⟨_,o,ho,_⟩:=I.ok.funs.mem hb
 exact absurd (Nat.lt_of_lt_of_le (Heap.lt_size ho) (Nat.le_trans I.sz h)) (Nat.lt_irrefl _)
theorem Inv.cne (I:Inv X pins σ H s):∀x c,X.env.cells.lookup x=some c->c≠X.env.locals:=fun x c e z=>by
 obtain⟨v,o,ho,hd⟩:=I.cell x c e
 obtain⟨m,⟨o',es,ep,ho',hd',_⟩,_⟩:=I.loc
 rw[z,ho'] at ho;cases ho;rw[hd'] at hd;cases hd
theorem Inv.funs (I:Inv X pins σ H s):s.heap.FunFrames X.base X.outer:=by
 have all:∀(l:List Env),(∀b∈frs l,b∈X.fs)->X.s₀.heap.FunFrames X.base l->s.heap.FunFrames X.base l:=by
  intro l
  induction l with
  | nil=>intro _ _;trivial
  | cons env r ih=>
   intro hs hl
   obtain⟨hk,⟨L,o,hf,hn,ho,hd⟩,hr⟩:=hl
   have hL:L∈X.fs:=hs L (by unfold frs;rw[List.filterMap_cons,hf];exact List.mem_cons_self)
   obtain⟨sl,e⟩:=I.base.slot L o ho (I.ok.frf L hL) hL fun z=>I.ok.exfs L z hL
   exact⟨hk,⟨L,_,hf,hn,e,hd⟩,ih (fun b hb=>hs b (by unfold frs;rw[List.filterMap_cons,hf];exact List.mem_cons_of_mem _ hb)) hr⟩
 exact all X.outer (fun _ hb=>hb) I.ok.funs
theorem Inv.stack (I:Inv X pins σ H s):s.heap.FunFrames X.base X.stack:=by
 rcases I.ok.stk with e|⟨e,hf⟩
 ·rw[e];exact I.funs
 ·rw[e]
  obtain⟨m,hn,_⟩:=I.loc
  refine .cons (by rw[I.ok.kind];decide) hf hn ?_ I.funs
  exact Heap.get?_none_of_le (Nat.le_trans I.ok.bsz I.ok.above)
theorem Inv.stkSub (I:Inv X pins σ H s):∀b∈frs X.stack,b∈X.env.locals::X.fs:=fun b hb=>by
 rcases I.ok.stk with e|⟨e,hf⟩
 ·rw[e] at hb;exact List.mem_cons_of_mem _ hb
 ·rw[e] at hb
  unfold frs at hb
  rw[List.filterMap_cons,hf] at hb
  exact hb
theorem Inv.stkFree (I:Inv X pins σ H s):∀b∈frs X.stack,H b=none:=fun b hb=>by
 rcases List.mem_cons.mp (I.stkSub b hb) with e|hb
 ·rw[e];exact I.free
 ·obtain⟨_,o,ho,_⟩:=I.ok.funs.mem hb
  exact I.base.free b o ho (I.ok.frf b hb) fun z=>I.ok.exfs b z hb
theorem Inv.step {g':Array GenState} {t':Nat} {d':Drawn} {ch:List Addr} (I:Inv X pins σ H s)
  (hch:∀b∈ch,(b∈X.ex∨X.s₀.heap.objs.size<=b)/\b≠X.env.locals/\(∀x c,X.env.cells.lookup x=some c->c≠b)/\∀p∈X.pn++pins,p.1≠b)
  (keep:∀b o,b≠X.env.locals->b∉X.fs->b∉ch->s.heap.get? b=some o->H b=none->h'.get? b=some o)
  (slot:∀b o,b≠X.env.locals->b∈X.fs->b∉ch->s.heap.get? b=some o->H b=none->∃sl,h'.get? b=some { o with slots:=sl }) (free:∀b o,b∉ch->s.heap.get? b=some o->H b=none->H' b=none)
  (there:∀b o,b∉ch->s.heap.get? b=some o->∃o',h'.get? b=some o')
  (tups:∀b xs,H b=some (.tup xs)->H' b=some (.tup xs)) (frzs:∀b o u,H b=some (.frz o u)->H' b=some (.frz o u)) (tbls:∀b ps,H b=some (.tbl ps)->∃more,H' b=some (.tbl (ps++more)))
  (ns:∀m,s.heap.Ns X.env.locals m->h'.Ns X.env.locals m) (hok:HOk X.prog X.w H' h') (hg:AllBare g') :
  Inv X pins σ H' { s with heap:=h',gens:=g',drawn:=d',toks:=t' }:=by
 have neL:∀b o,X.s₀.heap.get? b=some o->b≠X.env.locals:=fun b o e=>Nat.ne_of_lt (Nat.lt_of_lt_of_le (Heap.lt_size e) I.ok.above)
 have neC:∀b o,X.s₀.heap.get? b=some o->b∉X.ex->b∉ch:=fun b o e hx hb=>by
  rcases (hch b hb).1 with z|z
  ·exact hx z
  ·exact absurd (Nat.lt_of_lt_of_le (Heap.lt_size e) z) (Nat.lt_irrefl _)
 have cellK:∀x c,X.env.cells.lookup x=some c->∀v,s.heap.IsCell c v->h'.IsCell c v:=fun x c e v ⟨o,ho,hd⟩=>by
  have nch:c∉ch:=fun z=>(hch c z).2.2.1 x c e rfl
  by_cases hc:c∈X.fs
  ·obtain⟨sl,q⟩:=slot c o (I.cne x c e) hc nch ho (I.freeC x c e)
   exact⟨_,q,hd⟩
  ·exact⟨o,keep c o (I.cne x c e) hc nch ho (I.freeC x c e),hd⟩
 refine⟨I.ok,I.os,hg,⟨fun b o e n hb hx=>?_,fun b o e n hb hx=>?_,fun b o e n hx=>?_,fun b o e hx=>?_,fun b xs e=>tups b xs (I.base.tups b xs e),fun b o xs e=>frzs b o xs (I.base.frzs b o xs e),fun b ps e=>?_⟩,?_,fun x c e=>?_,?_,fun x c e=>?_,fun p hp=>?_,hok,I.len⟩
 ·exact keep b o (neL b o e) hb (neC b o e hx) (I.base.keep b o e n hb hx) (I.base.free b o e n hx)
 ·obtain⟨sl,e1⟩:=I.base.slot b o e n hb hx
  obtain⟨sl',e2⟩:=slot b _ (neL b o e) hb (neC b o e hx) e1 (I.base.free b o e n hx)
  exact⟨sl',e2⟩
 ·obtain⟨o',e1⟩:=I.base.there b o e hx
  exact free b o' (neC b o e hx) e1 (I.base.free b o e n hx)
 ·obtain⟨o',e1⟩:=I.base.there b o e hx
  exact there b o' (neC b o e hx) e1
 ·obtain⟨m1,e1⟩:=I.base.tbls b ps e
  obtain⟨m2,e2⟩:=tbls b _ e1
  exact⟨m1++m2,by rw[e2,Array.append_assoc]⟩
 ·obtain⟨m,hn,hl⟩:=I.loc
  refine⟨m,ns m hn,fun i x v e1 e2 e3=>?_⟩
  obtain⟨u,r,l⟩:=hl i x v e1 e2 e3
  refine⟨u,r,?_⟩
  rcases l with l|⟨k,c,e,z⟩
  ·exact .inl l
  ·exact .inr ⟨k,c,e,cellK x c e _ z⟩
 ·obtain⟨v,z⟩:=I.cell x c e
  exact⟨v,cellK x c e v z⟩
 ·obtain⟨m,⟨o,_,_,ho,_⟩,_⟩:=I.loc
  exact free _ o (fun z=>(hch _ z).2.1 rfl) ho I.free
 ·obtain⟨v,o,ho,hd⟩:=I.cell x c e
  exact free c o (fun z=>(hch c z).2.2.1 x c e rfl) ho (I.freeC x c e)
 ·obtain⟨e,n,ne,nf,d⟩:=I.pin p hp
  have nch:p.1∉ch:=fun z=>(hch p.1 z).2.2.2 p hp rfl
  exact⟨keep p.1 p.2 ne nf nch e n,free p.1 p.2 nch e n,ne,nf,d⟩
theorem Inv.un {t':Nat} (I:Inv X pins σ H s) (u:Un X.fs [] H H' s.heap h') (hok:HOk X.prog X.w H' h'):Inv X pins σ H' { s with heap:=h',toks:=t' }:=by
 obtain⟨m,⟨o,es,ep,ho,r⟩,_⟩:=id I.loc
 obtain⟨sl,hL⟩:=u.any ho I.free (by simp)
 exact I.step (g':=s.gens) (d':=s.drawn) (ch:=[]) (fun _ z=>nomatch z) (fun b o _ hb _ e n=>u.keep b o e n hb (by simp)) (fun b o _ hb _ e n=>u.slot b o e n hb (by simp)) (fun b o _ e n=>u.free b o e n (by simp)) (fun b o _ e=>u.there b o e (by simp)) u.tups u.frzs u.tbls (fun m' hm=>by
  obtain⟨o',es',ep',ho',r'⟩:=hm
  rw[ho] at ho';cases ho'
  exact⟨_,es',ep',hL,r'⟩) hok I.bare
theorem Inv.call {g':Array GenState} {t':Nat} {d':Drawn} {ch:List Addr} (I:Inv X pins σ H s) (u:Un (frs X.stack) ch H H' s.heap h') (hok:HOk X.prog X.w H' h') (hg:AllBare g')
  (hch:∀b∈ch,(b∈X.ex∨X.s₀.heap.objs.size<=b)/\b≠X.env.locals/\(∀x c,X.env.cells.lookup x=some c->c≠b)/\∀p∈X.pn++pins,p.1≠b) :
  Inv X pins σ H' { s with heap:=h',gens:=g',drawn:=d',toks:=t' }:=by
 obtain⟨m,⟨o,es,ep,ho,r⟩,_⟩:=id I.loc
 obtain⟨sl,hL⟩:=u.any ho I.free fun z=>(hch _ z).2.1 rfl
 exact I.step (ch:=ch) hch (fun b o hL hb hc e n=>u.keep b o e n (fun z=>(List.mem_cons.mp (I.stkSub b z)).elim hL hb) hc) (fun b o _ _ hc e n=>u.any e n hc) (fun b o hc e n=>u.free b o e n hc) (fun b o hc e=>u.there b o e hc) u.tups u.frzs u.tbls (fun m' hm=>by
  obtain⟨o',es',ep',ho',r'⟩:=hm
  rw[ho] at ho';cases ho'
  exact⟨_,es',ep',hL,r'⟩) hok hg
theorem Inv.turned {t':Nat} {it:Addr} (I:Inv X pins σ H s) (k:∀b o,b≠it->s.heap.get? b=some o->h'.get? b=some o) (hn:H it=none) (hL:it≠X.env.locals)
  (h1:it∈X.ex∨X.s₀.heap.objs.size<=it) (h2:∀x c,X.env.cells.lookup x=some c->c≠it) (h3:∀p∈X.pn++pins,p.1≠it):Inv X pins σ H { s with heap:=h',toks:=t' }:=by
 have nit:∀b u,H b=some u->b≠it:=fun b u e z=>by rw[z,hn] at e;cases e
 refine I.step (g':=s.gens) (d':=s.drawn) (ch:=[it]) (fun b hb=>?_) (fun b o _ _ hc e _=>k b o (fun z=>hc (by simp [z])) e) (fun b o _ _ hc e _=>⟨o.slots,k b o (fun z=>hc (by simp [z])) e⟩) (fun _ _ _ _ n=>n)
  (fun b o hc e=>⟨o,k b o (fun z=>hc (by simp [z])) e⟩) (fun _ _ e=>e) (fun _ _ _ e=>e) (fun b ps e=>⟨#[],by rw[e];simp⟩) (fun m hm=>?_) (fun b u e=>?_) I.bare
 ·have e:b=it:=by simpa using hb
  subst e
  exact⟨h1,hL,h2,h3⟩
 ·obtain⟨o,es,ep,ho,r⟩:=hm
  exact⟨o,es,ep,k _ o (Ne.symm hL) ho,r⟩
 ·refine (I.hok b u e).stay (fun c v hc q=>k c v ?_ q) (fun _ q=>q) fun _ _ q=>q
  rcases hc with z|z
  ·rw[z];exact nit b u e
  ·exact nit c _ z
theorem Inv.tok (I:Inv X pins σ H s) (t:Nat):Inv X pins σ H { s with toks:=t }:=I.un (h':=s.heap) (t':=t) Un.refl I.hok
theorem Inv.kept {t':Nat} (I:Inv X pins σ H s) (k:∀b u,s.heap.get? b=some u->h'.get? b=some u):Inv X pins σ H { s with heap:=h',toks:=t' }:=I.un (Un.kept k) (I.hok.kept k)
theorem Inv.laid {a:Addr} {o:HO} {t':Nat} (I:Inv X pins σ H s) (k:∀b u,s.heap.get? b=some u->h'.get? b=some u) (hp:s.heap.objs.size<=a) (new:ObjOk X.prog X.w (upd H a o) h' a o) :
  Inv X pins σ (upd H a o) { s with heap:=h',toks:=t' }:=I.un (Un.laid k hp (I.hok.fresh hp)) (I.hok.laid k hp new)
theorem Inv.write {x e:Addr} {o:HO} {t':Nat} (I:Inv X pins σ H s) (mu:Mut (H x)) (he:e=x∨H e=some (.own x)) (k:∀b u,b≠e->s.heap.get? b=some u->h'.get? b=some u) (heo:∃u,h'.get? e=some u)
  (new:ObjOk X.prog X.w (upd H x o) h' x o):Inv X pins σ (upd H x o) { s with heap:=h',toks:=t' }:=I.un (Un.write mu he k heo) (I.hok.write mu he k heo new)
theorem Inv.pins_of {pins':List (Addr×Obj)} (I:Inv X pins σ H s) (h:∀p∈pins',s.heap.get? p.1=some p.2/\H p.1=none/\p.1≠X.env.locals/\p.1∉X.fs/\∀v,p.2.data≠.cell v):Inv X pins' σ H s:=
 ⟨I.ok,I.os,I.bare,I.base,I.loc,I.cell,I.free,I.freeC,fun p hp=>(List.mem_append.mp hp).elim (fun z=>I.pin p (List.mem_append_left _ z)) (h p),I.hok,I.len⟩
theorem y1c {N:List Str} (hN:N.Nodup) {i j:Nat} {x:Str} (a:N[i]?=some x) (b:N[j]?=some x):i=j:=by
 obtain⟨h1,e1⟩:=List.getElem?_eq_some_iff.mp a
 obtain⟨h2,e2⟩:=List.getElem?_eq_some_iff.mp b
 exact (List.getElem_inj hN).mp (e1.trans e2.symm)
theorem z8Z {M:Model} {A:Around} {E:Value->Shared->Prop} {i:Nat} {x:Str} {v:V} {u:Value} {Q:Unit->Shared->Prop} (I:Inv X pins σ H s) (hN:X.N.Nodup) (hi:X.N[i]?=some x) (hx:Loc X.env.scope x) (r:RelV v u)
  (h:∀s',Inv X pins (σ.set i (some v)) H s'->(∃a,Heap.SameBut a s.heap s'.heap/\(a=X.env.locals∨X.env.cells.lookup x=some a))->Q () s') (hf:X.fn x=true∨X.env.scope.names.lookup x=some .local:=by first|exact .inl rfl|exact .inr rfl|assumption):wpAny M A (storeName X.env x u) Q E s:=by
 obtain⟨m,hn,hl⟩:=id I.loc
 have hcls:(X.env.scope.kind == .class || (X.env.scope.kind == .module && X.env.locals != X.env.globals))=false:=by rw[I.ok.kind];rfl
 have hiσ:i<σ.length:=by rw[I.len];exact (List.getElem?_eq_some_iff.mp hi).1
 have cne:=I.cne
 have tracked:∀ {a:Addr} {h':Heap},(∃o,s.heap.get? a=some o/\H a=none)->Heap.SameBut a s.heap h'->HOk X.prog X.w H h':=fun {a h'} ha hs b ob e=>by
  obtain⟨_,_,hfree⟩:=ha
  refine (I.hok b ob e).stay (fun c w' hc q=>(hs.2 c ?_).trans q) (fun _ q=>q) fun _ _ q=>q
  rintro rfl
  rcases hc with rfl|hc
  ·rw[hfree] at e;cases e
  ·rw[hfree] at hc;cases hc
 rcases hx with hk|hk
 ·refine wpAny_storeName_local hk hn (fun h' hn' hs=>?_) hcls
  obtain⟨oL,_,_,hoL,_⟩:=id hn
  refine h _ ⟨I.ok,I.os,I.bare,⟨fun b o e n hb hx=>?_,fun b o e n hb hx=>?_,I.base.free,fun b o e hx=>?_,I.base.tups,I.base.frzs,I.base.tbls⟩,⟨_,hn',fun j y v' e1 e2 e3=>?_⟩,fun y c e=>?_,I.free,I.freeC,fun p hp=>?_,tracked ⟨oL,hoL,I.free⟩ hs,by simpa using I.len⟩ ⟨_,hs,.inl rfl⟩
  ·exact (hs.2 b (Nat.ne_of_lt (Nat.lt_of_lt_of_le (Heap.lt_size e) I.ok.above))).trans (I.base.keep b o e n hb hx)
  ·obtain⟨sl,e1⟩:=I.base.slot b o e n hb hx
   exact⟨sl,(hs.2 b (Nat.ne_of_lt (Nat.lt_of_lt_of_le (Heap.lt_size e) I.ok.above))).trans e1⟩
  ·obtain⟨o',e1⟩:=I.base.there b o e hx
   exact⟨o',(hs.2 b (Nat.ne_of_lt (Nat.lt_of_lt_of_le (Heap.lt_size e) I.ok.above))).trans e1⟩
  ·by_cases hj:j=i
   ·subst hj
    rw[hi] at e1;cases e1
    rw[List.getElem?_set_self hiσ] at e2
    cases e2
    exact⟨u,r,.inl ⟨hk,by simp⟩⟩
   ·rw[List.getElem?_set_ne (Ne.symm hj)] at e2
    obtain⟨u',r',q⟩:=hl j y v' e1 e2 e3
    refine⟨u',r',?_⟩
    rcases q with⟨k,e⟩|⟨k,c,e,z⟩
    ·refine .inl ⟨k,?_⟩
     have:y≠x:=fun e=>hj (y1c hN e1 (e▸hi))
     simp [this,e]
    ·exact .inr ⟨k,c,e,z.sameBut hs (cne y c e)⟩
  ·obtain⟨w',z⟩:=I.cell y c e
   exact⟨w',z.sameBut hs (cne y c e)⟩
  ·obtain⟨e,n,ne,nf,d⟩:=I.pin p hp
   exact⟨(hs.2 p.1 ne).trans e,n,ne,nf,d⟩
 ·have hfn:X.fn x=true:=by
   rcases hf with z|z
   ·exact z
   ·rw[z] at hk;cases hk
  obtain⟨c,hc⟩:=I.ok.has x (.inl hk)
  obtain⟨w',z⟩:=I.cell x c hc
  refine wpAny_storeName_cell I.ok.kind hk hc z (fun h' hc' hs=>?_)
  obtain⟨oc,hoc,hocd⟩:=id z
  refine h { s with heap:=h' } ⟨I.ok,I.os,I.bare,⟨fun b o e n hb hx=>?_,fun b o e n hb hx=>?_,I.base.free,fun b o e hx=>?_,I.base.tups,I.base.frzs,I.base.tbls⟩,⟨m,hn.sameBut hs (Ne.symm (cne x c hc)),fun j y v' e1 e2 e3=>?_⟩,fun y c' e=>?_,I.free,I.freeC,fun p hp=>?_,tracked ⟨oc,hoc,I.freeC x c hc⟩ hs,by simpa using I.len⟩ ⟨c,hs,.inr hc⟩
  ·exact (hs.2 b (Nat.ne_of_lt (Nat.lt_of_lt_of_le (Heap.lt_size e) (I.ok.cab x c hfn hc)))).trans (I.base.keep b o e n hb hx)
  ·obtain⟨sl,e1⟩:=I.base.slot b o e n hb hx
   exact⟨sl,(hs.2 b (Nat.ne_of_lt (Nat.lt_of_lt_of_le (Heap.lt_size e) (I.ok.cab x c hfn hc)))).trans e1⟩
  ·obtain⟨o',e1⟩:=I.base.there b o e hx
   exact⟨o',(hs.2 b (Nat.ne_of_lt (Nat.lt_of_lt_of_le (Heap.lt_size e) (I.ok.cab x c hfn hc)))).trans e1⟩
  ·by_cases hj:j=i
   ·subst hj
    rw[hi] at e1;cases e1
    rw[List.getElem?_set_self hiσ] at e2
    cases e2
    exact⟨u,r,.inr ⟨.inl hk,c,hc,hc'⟩⟩
   ·rw[List.getElem?_set_ne (Ne.symm hj)] at e2
    obtain⟨u',r',q⟩:=hl j y v' e1 e2 e3
    refine⟨u',r',?_⟩
    rcases q with q|⟨k,c',e,z'⟩
    ·exact .inl q
    ·refine .inr ⟨k,c',e,z'.sameBut hs ?_⟩
     rintro rfl
     exact hj (y1c hN e1 (I.ok.inj _ _ _ e hc▸hi))
  ·by_cases hcc:c'=c
   ·subst hcc;exact⟨_,hc'⟩
   ·obtain⟨w2,z2⟩:=I.cell y c' e
    exact⟨w2,z2.sameBut hs hcc⟩
  ·obtain⟨e,n,ne,nf,d⟩:=I.pin p hp
   refine⟨(hs.2 p.1 ?_).trans e,n,ne,nf,d⟩
   intro q
   rw[q,hoc] at e
   have q':oc=p.2:=Option.some.inj e
   exact d w' (by rw[←q'];exact hocd)
theorem z3F {M:Model} {A:Around} {E:Value->Shared->Prop} {i:Nat} {x:Str} {v:V} {u:Value} {Q:Unit->Shared->Prop} (I:Inv X pins σ H s) (hN:X.N.Nodup) (hi:X.N[i]?=some x) (hx:Loc X.env.scope x) (r:RelV v u)
  (h:∀s',Inv X pins (σ.set i (some v)) H s'->Q () s') (hf:X.fn x=true∨X.env.scope.names.lookup x=some .local:=by first|exact .inl rfl|exact .inr rfl|assumption):wpAny M A (storeName X.env x u) Q E s:=
 z8Z I hN hi hx r (fun s' I' _=>h s' I') hf
theorem Inv.call' {s':Shared} {ch:List Addr} (I:Inv X pins σ H s) (ho:s'.os=s.os) (u:Un (frs X.stack) ch H H' s.heap s'.heap) (hok:HOk X.prog X.w H' s'.heap) (hg:AllBare s'.gens)
  (hch:∀b∈ch,(b∈X.ex∨X.s₀.heap.objs.size<=b)/\b≠X.env.locals/\(∀x c,X.env.cells.lookup x=some c->c≠b)/\∀p∈X.pn++pins,p.1≠b):Inv X pins σ H' s':=by
 obtain⟨h',g',d',t',o'⟩:=s'
 have e:o'=s.os:=ho
 subst e
 exact I.call (g':=g') (t':=t') (d':=d') u hok hg hch
end
noncomputable abbrev XK:=Value->Option Addr->Hp->Prop
noncomputable abbrev St:=List (Option V)
noncomputable abbrev VK:=V->Hp->Prop
noncomputable abbrev TE:=St->Hp->VK->Prop
noncomputable abbrev TT:=St->Hp->(Bool->Hp->Prop)->Prop
noncomputable abbrev TA:=St->Hp->(List V->Hp->Prop)->Prop
structure Ends where
 nx:St->Hp->Prop
 rt:VK
 bk:St->Hp->Prop:=fun _ _=>False
 ct:St->Hp->Prop:=fun _ _=>False
noncomputable abbrev TS:=Ends->St->Hp->Prop
noncomputable def EP (X:Cx) (pins:List (Addr×Obj)) (σ:St) (Q:VK) (u:Value) (s':Shared):Prop:=∃v H',Inv X pins σ H' s'/\RelV v u/\Q v H'
noncomputable def TP (X:Cx) (pins:List (Addr×Obj)) (σ:St) (Q:Bool->Hp->Prop) (b:Bool) (s':Shared):Prop:=∃H',Inv X pins σ H' s'/\Q b H'
noncomputable def AP (X:Cx) (pins:List (Addr×Obj)) (σ:St) (Q:List V->Hp->Prop) (us:List Value) (s':Shared):Prop:=∃vs H',Inv X pins σ H' s'/\Vals vs us/\Q vs H'
noncomputable def SP (X:Cx) (pins:List (Addr×Obj)) (D:Ends) (f:Flow) (s':Shared):Prop:=
 match f with
 | .next=>∃σ' H',Inv X pins σ' H' s'/\D.nx σ' H'
 | .brk=>∃σ' H',Inv X pins σ' H' s'/\D.bk σ' H'
 | .cont=>∃σ' H',Inv X pins σ' H' s'/\D.ct σ' H'
 | .ret u=>∃v σ' H',Inv X pins σ' H' s'/\RelV v u/\D.rt v H'
noncomputable def PE (X:Cx) (e:Expr) (t:TE):Prop:=
 ∀(pins:List (Addr×Obj)) (s:Shared) (σ:St) (H:Hp) (Q:VK),Inv X pins σ H s->t σ H Q->wpAny (model X.prog X.w) X.A (eval e X.env) (EP X pins σ Q) X.xe s
noncomputable def PT (X:Cx) (e:Expr) (t:TT):Prop:=
 ∀(pins:List (Addr×Obj)) (s:Shared) (σ:St) (H:Hp) (Q:Bool->Hp->Prop),Inv X pins σ H s->t σ H Q->wpAny (model X.prog X.w) X.A (isTrue e X.env (eval e X.env)) (TP X pins σ Q) X.xe s
noncomputable def PW (X:Cx) (e:Expr) (t:TT):Prop:=
 ∀(whole:Sem Value) (pins:List (Addr×Obj)) (s:Shared) (σ:St) (H:Hp) (Q:Bool->Hp->Prop),Inv X pins σ H s->t σ H Q->wpAny (model X.prog X.w) X.A (isTrue e X.env whole) (TP X pins σ Q) X.xe s
theorem PW.pt {X:Cx} {e:Expr} {t:TT} (h:PW X e t):PT X e t:=h _
noncomputable def PA (X:Cx) (es:List Expr) (t:TA):Prop:=
 ∀(pos:Pos) (pins:List (Addr×Obj)) (s:Shared) (σ:St) (H:Hp) (Q:List V->Hp->Prop),Inv X pins σ H s->t σ H Q->wpAny (model X.prog X.w) X.A (spliced (backTo pos (starEach es X.env))) (AP X pins σ Q) X.xe s
noncomputable def PS (X:Cx) (st:Stmt) (t:TS):Prop:=
 ∀(pins:List (Addr×Obj)) (s:Shared) (σ:St) (H:Hp) (D:Ends),Inv X pins σ H s->t D σ H->wpAny (model X.prog X.w) X.A (exec st X.env) (SP X pins D) X.xe s
noncomputable def PSs (X:Cx) (st:List Stmt) (t:TS):Prop:=
 ∀(pins:List (Addr×Obj)) (s:Shared) (σ:St) (H:Hp) (D:Ends),Inv X pins σ H s->t D σ H->wpAny (model X.prog X.w) X.A (execs st X.env) (SP X pins D) X.xe s
theorem thn {α:Type} {t:Sem α} {Q Q':α->Shared->Prop} {M:Model} {A:Around} {E:Value->Shared->Prop} {s:Shared} (h:wpAny M A t Q E s) (hQ:∀a s,Q a s->Q' a s):wpAny M A t Q' E s:=wpAny_mono h hQ fun _ _ x=>x
end L2
namespace L2
open PySem PySem.Spec PyProof.Rows
section
variable {X:Cx}
noncomputable def tVar (i:Nat):TE:=fun σ H Q=>∃v,σ[i]?=some (some v)/\Q v H
noncomputable def tC (v:V):TE:=fun _ H Q=>Q v H
theorem y8H {i:Nat} {x:Str} {pos:Pos} (hN:X.N[i]?=some x) (hv:Vis X.env.scope x) (hd:(x == ("__debug__" : Str))=false:=by decide) (hcd:(x == ("__classdict__" : Str))=false:=by decide):PE X (.Name x pos) (tVar i):=by
 intro pins s σ H Q I h
 obtain⟨v,e,h⟩:=h
 obtain⟨m,hn,hl⟩:=I.loc
 obtain⟨u,r,l⟩:=hl i x v hN e hv
 have fin:EP X pins σ Q u s:=⟨v,H,I,r,h⟩
 rcases l with⟨hk,hm⟩|⟨hk,c,hc,hcell⟩
 ·exact wpAny_Name (wpAny_loadName_local I.ok.kind hk hn hm fin) hd
 ·rcases hk with hk|hk
  ·exact wpAny_Name (wpAny_loadName_cell I.ok.kind hk hc hcell fin) hd
  ·exact wpAny_Name (wpAny_loadName_free I.ok.kind hk hc hcell fin hcd) hd
theorem z0E {i j pos}:PE X (.Constant (.int i) j pos) (tC (.int i)):=fun _ _ _ H _ I h=>wpAny_Constant_int ⟨.int i,H,I.tok _,⟨_,rfl⟩,h⟩
theorem pe_bl {b j pos}:PE X (.Constant (.bool b) j pos) (tC (.bl b)):=fun _ _ _ H _ I h=>Constant_bool ⟨.bl b,H,I,rfl,h⟩
theorem z6j {j pos}:PE X (.Constant .none j pos) (tC .non):=fun _ _ _ H _ I h=>Constant_none ⟨.non,H,I,rfl,h⟩
theorem z0N {x j pos}:PE X (.Constant (.str x) j pos) (tC (.str x)):=fun _ _ _ H _ I h=>Calls.Constant_str ⟨.str x,H,I.tok _,⟨_,rfl⟩,h⟩
noncomputable def Gl (X:Cx) (x:Str):Prop:=X.env.kindOf x=some .globalImplicit
theorem z3l {E:Value->Shared->Prop} {pins:List (Addr×Obj)} {s:Shared} {σ:St} {H:Hp} {x:Str} {u:Value} {pos:Pos} {Q:Value->Shared->Prop} (I:Inv X pins σ H s) (hg:Gl X x) (hm:X.mg x=some u) (h:Q u s)
  (hd:(x == ("__debug__" : Str))=false:=by decide):wpAny (model X.prog X.w) X.A (eval (.Name x pos) X.env) Q E s:=
 Calls.Name_function_global I.ok.kind hg (Calls.loadGlobal_global (by rw[I.ok.glob];exact I.mod.glob.keeps I.bk) hm h) hd
theorem z4A {E:Value->Shared->Prop} {pins:List (Addr×Obj)} {s:Shared} {σ:St} {H:Hp} {x:Str} {u:Value} {pos:Pos} {Q:Value->Shared->Prop} (I:Inv X pins σ H s) (hg:Gl X x) (hm:X.mg x=none) (hv:bootBuiltins x=some u) (h:Q u s)
  (hn:x≠ "__name__" :=by decide) (hd:(x == ("__debug__" : Str))=false:=by decide):wpAny (model X.prog X.w) X.A (eval (.Name x pos) X.env) Q E s:=by
 obtain⟨mb,h1,h2⟩:=I.mod.blt
 exact Calls.Name_function_global I.ok.kind hg (Calls.loadGlobal_builtin (by rw[I.ok.glob];exact I.mod.glob.keeps I.bk) hm (by rw[I.ok.blt];exact h1.keeps I.bk) ((h2 x hn).trans hv) h) hd
theorem z5c {x:Str} {v:V} {u:Value} {pos:Pos} (hg:Gl X x) (hm:X.mg x=some u) (r:RelV v u) (hd:(x == ("__debug__" : Str))=false:=by decide):PE X (.Name x pos) (tC v):=
 fun _ _ _ H _ I h=>z3l I hg hm ⟨v,H,I,r,h⟩ hd
theorem y0M {x:Str} {v:V} {u:Value} {pos:Pos} (hg:Gl X x) (hm:X.mg x=none) (hv:bootBuiltins x=some u) (r:RelV v u) (hn:x≠ "__name__" :=by decide) (hd:(x == ("__debug__" : Str))=false:=by decide):PE X (.Name x pos) (tC v):=
 fun _ _ _ H _ I h=>z4A I hg hm hv ⟨v,H,I,r,h⟩ hn hd
variable {a b:Expr} {ta tb:TE} {pos:Pos}
noncomputable def PC (X:Cx) (op:CmpOp) (a b:Expr) (t:TE):Prop:=
 ∀(pins:List (Addr×Obj)) (s:Shared) (σ:St) (H:Hp) (Q:VK),Inv X pins σ H s->t σ H Q->
  wpAny (model X.prog X.w) X.A (eval a X.env) (fun v s₁=>wpAny (model X.prog X.w) X.A (eval b X.env) (fun u s₂=>wpAny (model X.prog X.w) X.A (compareOp op v u) (EP X pins σ Q) X.xe s₂) X.xe s₁) X.xe s
noncomputable def tB (t:TE):TT:=fun σ H Q=>t σ H fun x H1=>∃c,x=.bl c/\Q c H1
theorem y7y {op:CmpOp} {t:TE} (h:PC X op a b t) (h1:behindInMarks op b=false:=by first|exact nobehind _ (by decide) (by decide)|rfl):PT X (.Compare a [op] [b] pos) (tB t):=by
 intro pins s σ H Q I hw
 refine wpAny_isTrue_Compare1 (thn (h pins s σ H _ I hw) fun v s1 h1=>thn h1 fun u s2 h2=>thn h2 fun c s3 ⟨x,H1,I1,r1,q1⟩=>?_) h1
 obtain⟨d,rfl,q⟩:=q1
 cases r1
 exact wpAny_truthy_bool ⟨H1,I1,q⟩
theorem z1C {e:Expr} {t:TE} (h:PE X e t) (he:∀whole,isTrue e X.env whole=(do let v ←whole;standAt e.pos;holding [v] (truthy v)):=by intro _;rfl):PT X e (tB t):=by
 intro pins s σ H Q I hw
 refine isTrue_plain (thn (h pins s σ H _ I hw) fun v s1 ⟨x,H1,I1,r1,q1⟩=>?_) (he _)
 obtain⟨d,rfl,q⟩:=q1
 cases r1
 exact wpAny_truthy_bool ⟨H1,I1,q⟩
variable {tA tB':TT} {rest:List Expr}
noncomputable def tAnd (t u:TT):TT:=fun σ H Q=>t σ H fun c H1=>if c=true then u σ H1 Q else Q false H1
noncomputable def tOr (t u:TT):TT:=fun σ H Q=>t σ H fun c H1=>if c=true then Q true H1 else u σ H1 Q
noncomputable def tNot (t:TT):TT:=fun σ H Q=>t σ H fun c H1=>Q (!c) H1
theorem y0K (ha:PT X a tA):PW X (.BoolOp .And [a] pos) tA:=by
 intro wh pins s σ H Q I h
 refine isTrue_and (thn (ha pins s σ H Q I h) fun c s1 e=>?_)
 cases c with
 | true=>exact isTrue_and_nil e
 | false=>exact e
theorem z6g (ha:PT X a tA):PW X (.BoolOp .Or [a] pos) tA:=by
 intro wh pins s σ H Q I h
 refine isTrue_or (thn (ha pins s σ H Q I h) fun c s1 e=>?_)
 cases c with
 | false=>exact isTrue_or_nil e
 | true=>exact e
theorem y3S (ha:PT X a tA) (hb:PW X (.BoolOp .And (b::rest) pos) tB'):PW X (.BoolOp .And (a::b::rest) pos) (tAnd tA tB'):=by
 intro wh pins s σ H Q I h
 refine isTrue_and (thn (ha pins s σ H _ I h) fun c s1 ⟨H1,I1,q1⟩=>?_)
 cases c with
 | true=>exact hb wh pins s1 σ H1 Q I1 q1
 | false=>exact⟨H1,I1,q1⟩
theorem pw_or (ha:PT X a tA) (hb:PW X (.BoolOp .Or (b::rest) pos) tB'):PW X (.BoolOp .Or (a::b::rest) pos) (tOr tA tB'):=by
 intro wh pins s σ H Q I h
 refine isTrue_or (thn (ha pins s σ H _ I h) fun c s1 ⟨H1,I1,q1⟩=>?_)
 cases c with
 | true=>exact⟨H1,I1,q1⟩
 | false=>exact hb wh pins s1 σ H1 Q I1 q1
theorem z2F (ha:PT X a tA):PT X (.UnaryOp .Not a pos) (tNot tA):=by
 intro pins s σ H Q I h
 exact isTrue_not (ha pins s σ H (fun c H1=>Q (!c) H1) I h)
noncomputable def tAndV (ta tb:TE):TE:=fun σ H Q=>ta σ H fun x H1=>∃c,x=.bl c/\if c=true then tb σ H1 Q else Q (.bl false) H1
noncomputable def tOrV (ta tb:TE):TE:=fun σ H Q=>ta σ H fun x H1=>∃c,x=.bl c/\if c=true then Q (.bl true) H1 else tb σ H1 Q
noncomputable def tNotV (ta:TE):TE:=fun σ H Q=>ta σ H fun x H1=>∃c,x=.bl c/\Q (.bl (!c)) H1
theorem z6i {op} {t:TE} (h:PE X a t):PE X (.BoolOp op [a] pos) t:=fun pins s σ H Q I hw=>BoolOp_one (h pins s σ H Q I hw)
theorem z5e (ha:PE X a ta) (hb:PE X (.BoolOp .And (b::rest) pos) tb):PE X (.BoolOp .And (a::b::rest) pos) (tAndV ta tb):=by
 intro pins s σ H Q I h
 refine BoolOp_and (thn (ha pins s σ H _ I h) fun v s1 ⟨x,H1,I1,r1,q1⟩=>?_)
 obtain⟨c,rfl,q1⟩:=q1
 cases r1
 refine wpAny_truthy_bool ?_
 cases c with
 | true=>exact hb pins s1 σ H1 Q I1 q1
 | false=>exact⟨.bl false,H1,I1,rfl,q1⟩
noncomputable def tIf (t:TT) (ta tb:TE):TE:=fun σ H Q=>t σ H fun c H1=>if c=true then ta σ H1 Q else tb σ H1 Q
theorem y5U {c:Expr} (hc:PT X c tA) (ha:PE X a ta) (hb:PE X b tb):PE X (.IfExp c a b pos) (tIf tA ta tb):=by
 intro pins s σ H Q I h
 refine wpAny_IfExp (thn (hc pins s σ H _ I h) fun d s1 ⟨H1,I1,q1⟩=>?_)
 cases d with
 | true=>exact ha pins s1 σ H1 Q I1 q1
 | false=>exact hb pins s1 σ H1 Q I1 q1
end
end L2
namespace L2
open PySem PySem.Spec PyProof.Rows
noncomputable def SqL (K:PySem.W.Frag) (H:Hp) (a:Addr) (xs:List V):Prop:=
 Rd H a (.lst xs)∨
  ∃(o:Obj) (its:Array Value) (n:Nat),K.lookup a=some o/\o.cls=.type "list" /\o.dict=none/\o.data=.seq its n/\its.size<=sizeLine/\Vals xs its.toList
noncomputable def SqT (K:PySem.W.Frag) (H:Hp) (a:Addr) (xs:List V):Prop:=
 Rd H a (.tup xs)∨
  ∃(o:Obj) (its:Array Value) (n:Nat),K.lookup a=some o/\o.cls=.type "tuple" /\o.data=.seq its n/\its.size<=sizeLine/\Vals xs its.toList
noncomputable def absV:Value->Option V
 | .none=>some .non
 | .bool b=>some (.bl b)
 | .int i _=>some (.int i)
 | .str x _=>some (.str x)
 | .bytes b _=>some (.byt b)
 | .float b _=>some (.flt b)
 | .ref a=>some (.ref a)
 | .type n=>some (.ty n)
 | _=>none
theorem RelV.abs {x:V} {u:Value} (r:RelV x u):absV u=some x:=by
 cases x with
 | non=>cases r;rfl
 | bl _=>cases r;rfl
 | int _=>obtain⟨t,rfl⟩:=r;rfl
 | str _=>obtain⟨t,rfl⟩:=r;rfl
 | byt _=>obtain⟨t,rfl⟩:=r;rfl
 | flt _=>obtain⟨t,rfl⟩:=r;rfl
 | ref _=>cases r;rfl
 | ty _=>cases r;rfl
theorem RelV.inj {x y:V} {u:Value} (r:RelV x u) (q:RelV y u):x=y:=Option.some.inj (r.abs.symm.trans q.abs)
theorem Vals.inj:∀ {xs ys:List V} {us:List Value},Vals xs us->Vals ys us->xs=ys
 | _,_,_,.nil,.nil=>rfl
 | _,_,_,.cons r t,.cons r' t'=>by rw[r.inj r',Vals.inj t t']
section
variable {X:Cx} {pins:List (Addr×Obj)} {σ:St} {H:Hp} {s:Shared} {a:Addr} {xs ys:List V}
theorem SqL.of {K:PySem.W.Frag} (h:H a=some (.lst xs)):SqL K H a xs:=.inl (.inl h)
theorem SqT.of {K:PySem.W.Frag} (h:H a=some (.tup xs)):SqT K H a xs:=.inl (.inl h)
theorem Inv.list (I:Inv X pins σ H s) (h:SqL X.K H a xs):∃its:List Value,Vals xs its/\PlainL s.heap a its.toArray/\xs.length<=sizeLine:=by
 rcases h with h|⟨o,its,n,hk,hc,hd,hs,hz,r⟩
 ·obtain⟨z,its,n,r,e⟩:=h.ok I.hok
  exact⟨its,r,⟨_,n,e,rfl,rfl,rfl⟩,z⟩
 ·refine⟨its.toList,r,⟨o,n,I.kIn a o hk,hc,hd,by simpa using hs⟩,?_⟩
  have e:=r.length
  simp only [Array.length_toList] at e
  omega
theorem Inv.tuple (I:Inv X pins σ H s) (h:SqT X.K H a xs):∃its:List Value,Vals xs its/\IsTup s.heap a its.toArray/\xs.length<=sizeLine:=by
 rcases h with h|⟨o,its,n,hk,hc,hs,hz,r⟩
 ·obtain⟨z,its,r,p⟩:=h.ok I.hok
  exact⟨its,r,p,z⟩
 ·refine⟨its.toList,r,⟨o,I.kIn a o hk,hc,n,by simpa using hs⟩,?_⟩
  have e:=r.length
  simp only [Array.length_toList] at e
  omega
theorem Inv.list_inj (I:Inv X pins σ H s) (h:SqL X.K H a xs) (h':SqL X.K H a ys):xs=ys:=by
 obtain⟨its,r,⟨o,n,e,_,_,d⟩,_⟩:=I.list h
 obtain⟨its',r',⟨o',n',e',_,_,d'⟩,_⟩:=I.list h'
 rw[e] at e';cases e'
 rw[d] at d'
 injection d' with d1 _
 have:its=its':=by simpa using congrArg Array.toList d1
 subst this
 exact r.inj r'
theorem Inv.tuple_inj (I:Inv X pins σ H s) (h:SqT X.K H a xs) (h':SqT X.K H a ys):xs=ys:=by
 obtain⟨its,r,⟨o,e,_,n,d⟩,_⟩:=I.tuple h
 obtain⟨its',r',⟨o',e',_,n',d'⟩,_⟩:=I.tuple h'
 rw[e] at e';cases e'
 rw[d] at d'
 injection d' with d1 _
 have:its=its':=by simpa using congrArg Array.toList d1
 subst this
 exact r.inj r'
end
noncomputable abbrev Cx.wish (X:Cx) (E:Value->Shared->Prop):Cx:={ X with xe:=E }
noncomputable abbrev Cx.nox (X:Cx):Cx:=X.wish fun _ _=>False
theorem Cx.Ok.wish {X:Cx} (ok:X.Ok) (E:Value->Shared->Prop):(X.wish E).Ok:=
 ⟨ok.mod,ok.kind,ok.glob,ok.blt,ok.above,ok.inj,ok.has,ok.cab,ok.hd,ok.frames,ok.stk,ok.exf,ok.bs,ok.bsz,ok.noex,ok.exfs,ok.funs,ok.frf⟩
theorem Cx.Ok.unwish {X:Cx} {E:Value->Shared->Prop} (ok:(X.wish E).Ok):X.Ok:=
 ⟨ok.mod,ok.kind,ok.glob,ok.blt,ok.above,ok.inj,ok.has,ok.cab,ok.hd,ok.frames,ok.stk,ok.exf,ok.bs,ok.bsz,ok.noex,ok.exfs,ok.funs,ok.frf⟩
section
variable {X:Cx} {pins:List (Addr×Obj)} {σ:St} {H:Hp} {s:Shared} {E:Value->Shared->Prop}
theorem Inv.wish (I:Inv X pins σ H s) (E:Value->Shared->Prop):Inv (X.wish E) pins σ H s:=⟨I.ok.wish E,I.os,I.bare,I.base,I.loc,I.cell,I.free,I.freeC,I.pin,I.hok,I.len⟩
theorem Inv.unwish (I:Inv (X.wish E) pins σ H s):Inv X pins σ H s:=⟨I.ok.unwish,I.os,I.bare,I.base,I.loc,I.cell,I.free,I.freeC,I.pin,I.hok,I.len⟩
theorem SP.unwish {D:Ends} {f:Flow} {s':Shared} (h:SP (X.wish E) pins D f s'):SP X pins D f s':=by
 cases f with
 | next=>obtain⟨σ',H',I,q⟩:=h;exact⟨σ',H',I.unwish,q⟩
 | brk=>obtain⟨σ',H',I,q⟩:=h;exact⟨σ',H',I.unwish,q⟩
 | cont=>obtain⟨σ',H',I,q⟩:=h;exact⟨σ',H',I.unwish,q⟩
 | ret u=>obtain⟨v,σ',H',I,r,q⟩:=h;exact⟨v,σ',H',I.unwish,r,q⟩
theorem PSs.nox {st:List Stmt} {t:TS} (h:PSs X.nox st t):PSs X st t:=fun pins s σ H D I hw=>
 wpAny_mono (h pins s σ H D (I.wish _) hw) (fun _ _ q=>q.unwish) fun _ _ z=>False.elim z
end
section
variable {X:Cx} {st:Stmt} {rest:List Stmt} {t u:TS} {e:Expr} {te:TE} {pos:Pos}
noncomputable def tNext:TS:=fun D σ H=>D.nx σ H
noncomputable def tSeq (t u:TS):TS:=fun D σ H=>t { D with nx:=u D } σ H
theorem z0K:PSs X [] tNext:=fun _ _ σ H _ I h=>wpAny_execs_nil ⟨σ,H,I,h⟩
theorem z0B (h1:PS X st t) (h2:PSs X rest u):PSs X (st::rest) (tSeq t u):=by
 intro pins s σ H D I h
 refine wpAny_execs_cons (thn (h1 pins s σ H { D with nx:=u D } I h) fun f s1 q=>?_)
 cases f with
 | next=>
  obtain⟨σ',H',I',q⟩:=q
  exact h2 pins s1 σ' H' D I' q
 | ret v=>exact q
 | brk=>exact q
 | cont=>exact q
theorem z0D (h1:PS X st t):PSs X [st] t:=by
 intro pins s σ H D I h
 refine wpAny_execs_cons (thn (h1 pins s σ H D I h) fun f s1 q=>?_)
 cases f with
 | next=>exact wpAny_execs_nil q
 | ret v=>exact q
 | brk=>exact q
 | cont=>exact q
noncomputable def y7t:TS:=fun D σ H=>D.bk σ H
noncomputable def tCont:TS:=fun D σ H=>D.ct σ H
theorem Inv.quiet {pins:List (Addr×Obj)} {σ:St} {H:Hp} {s:Shared} (I:Inv X pins σ H s):interactive X.env=false:=by simp [interactive,I.ok.kind]
noncomputable def tDrop (te:TE):TS:=fun D σ H=>te σ H fun _ H1=>D.nx σ H1
theorem z1k (he:PE X e te) (hs:swapsWith e none pos.line X.env=pure false:=by rfl):PS X (.Expr e pos) (tDrop te):=by
 intro pins s σ H D I h
 exact wpAny_Expr_any (thn (he pins s σ H _ I h) fun v s1 ⟨x,H1,I1,r1,q1⟩=>⟨σ,H1,I1,q1⟩) I.quiet hs
noncomputable def tRet (te:TE):TS:=fun D σ H=>te σ H D.rt
theorem z0I (he:PE X e te):PS X (.Return (some e) pos) (tRet te):=by
 intro pins s σ H D I h
 exact wpAny_Return_some (thn (he pins s σ H _ I h) fun v s1 ⟨x,H1,I1,r1,q1⟩=>⟨x,σ,H1,I1,r1,q1⟩)
noncomputable def tRetN:TS:=fun D _ H=>D.rt .non H
noncomputable def tIfS (c:TT) (t u:TS):TS:=fun D σ H=>c σ H fun b H1=>if b=true then t D σ H1 else u D σ H1
theorem ps_if {c:Expr} {a b:List Stmt} {tc:TT} (hc:PT X c tc) (ha:PSs X a t) (hb:PSs X b u):PS X (.If c a b pos) (tIfS tc t u):=by
 intro pins s σ H D I h
 refine wpAny_If (thn (hc pins s σ H _ I h) fun d s1 ⟨H1,I1,q1⟩=>?_)
 cases d with
 | true=>exact ha pins s1 σ H1 D I1 q1
 | false=>exact hb pins s1 σ H1 D I1 q1
noncomputable def y7s:TS:=fun _ _ _=>False
theorem z0x:PS X st y7s:=fun _ _ _ _ _ _ h=>h.elim
end
noncomputable abbrev TG:=V->St->Hp->(St->Hp->Prop)->Prop
noncomputable abbrev TGs:=List V->St->Hp->(St->Hp->Prop)->Prop
noncomputable def PG (X:Cx) (target:Expr) (t:TG):Prop:=
 ∀(pins:List (Addr×Obj)) (s:Shared) (σ:St) (H:Hp) (v:V) (u:Value) (Q:St->Hp->Prop),Inv X pins σ H s->RelV v u->t v σ H Q->
  wpAny (model X.prog X.w) X.A (assign target X.env u) (fun _ s'=>∃σ' H',Inv X pins σ' H' s'/\Q σ' H') X.xe s
noncomputable def PGs (X:Cx) (ts:List Expr) (t:TGs):Prop:=
 ∀(pins:List (Addr×Obj)) (s:Shared) (σ:St) (H:Hp) (vs:List V) (us:List Value) (Q:St->Hp->Prop),Inv X pins σ H s->Vals vs us->t vs σ H Q->
  wpAny (model X.prog X.w) X.A (assignInOrder ((assignEach ts X.env).map (·.2)) us) (fun _ s'=>∃σ' H',Inv X pins σ' H' s'/\Q σ' H') X.xe s
noncomputable abbrev TSet:=V->V->V->Hp->(Hp->Prop)->Prop
noncomputable def PSet (X:Cx) (t:TSet):Prop:=
 ∀(pins:List (Addr×Obj)) (s:Shared) (σ:St) (H:Hp) (o i v:V) (ov iv u:Value) (Q:Hp->Prop),Inv X pins σ H s->RelV o ov->RelV i iv->RelV v u->t o i v H Q->
  wpAny (model X.prog X.w) X.A (setItem ov iv u) (fun _ s'=>∃H',Inv X pins σ H' s'/\Q H') X.xe s
noncomputable abbrev TIp:=V->V->Hp->VK->Prop
noncomputable def PIp (X:Cx) (op:Operator) (t:TIp):Prop:=
 ∀(pins:List (Addr×Obj)) (s:Shared) (σ:St) (H:Hp) (x y:V) (v u:Value) (Q:VK),Inv X pins σ H s->RelV x v->RelV y u->t x y H Q->
  wpAny (model X.prog X.w) X.A (inplaceOp op v u) (EP X pins σ Q) X.xe s
section
variable {X:Cx} {pos:Pos}
noncomputable def gName (i:Nat):TG:=fun v σ H Q=>Q (σ.set i (some v)) H
theorem z0S {i:Nat} {x:Str} (hN:X.N.Nodup) (hi:X.N[i]?=some x) (hx:Loc X.env.scope x) (hf:X.fn x=true∨X.env.scope.names.lookup x=some .local:=by first|exact .inl rfl|exact .inr rfl|assumption):PG X (.Name x pos) (gName i):=by
 intro pins s σ H v u Q I r h
 exact wpAny_assign_Name (z3F I hN hi hx r (fun s' I'=>⟨_,H,I',h⟩) hf)
noncomputable def gNil:TGs:=fun vs σ H Q=>vs=[]/\Q σ H
noncomputable def gCons (t:TG) (u:TGs):TGs:=fun vs σ H Q=>∃v r,vs=v::r/\t v σ H fun σ' H'=>u r σ' H' Q
theorem z5a:PGs X [] gNil:=by
 intro pins s σ H vs us Q I r h
 obtain⟨e,h⟩:=h
 subst e
 cases r
 exact assignInOrder_nil ⟨σ,H,I,h⟩
theorem z0y {e:Expr} {es:List Expr} {t:TG} {u:TGs} (h1:PG X e t) (h2:PGs X es u)
  (hs:(assignEach (e::es) X.env).map (·.2)=assign e X.env::(assignEach es X.env).map (·.2):=by rfl):PGs X (e::es) (gCons t u):=by
 intro pins s σ H vs us Q I r h
 obtain⟨v,vr,e1,h⟩:=h
 subst e1
 cases r with
 | cons r rr=>
  rw[hs]
  refine assignInOrder_cons (thn (h1 pins s σ H _ _ _ I r h) fun _ s1 ⟨σ1,H1,I1,q1⟩=>?_)
  exact h2 pins s1 σ1 H1 _ _ Q I1 rr q1
noncomputable def gTup (K:PySem.W.Frag) (n:Nat) (t:TGs):TG:=fun v σ H Q=>∃a xs,v=.ref a/\SqT K H a xs/\xs.length=n/\t xs σ H Q
theorem z9A {es:List Expr} {k:Nat} {t:TGs} {n:Nat} (hc:X.calm=true) (h:PGs X es t)
  (hn:(assignEach es X.env).length=n:=by rfl) (hst:(assignEach es X.env).findIdx? (·.1)=none:=by rfl):PG X (.Tuple es k pos) (gTup X.K n t):=by
 intro pins s σ H v u Q I r hw
 obtain⟨a,xs,e1,hq,hl,hw⟩:=hw
 subst e1
 cases r
 obtain⟨its,rv,ht,hz⟩:=I.tuple hq
 refine assign_Tuple_tuple (I.ok.hd hc) ht (by simp [hn,←hl,rv.length]) hst fun h' hx=>?_
 have I1:Inv X pins σ H { s with heap:=h' }:=I.kept (t':=s.toks) fun b o e=>hx b o (Nat.ne_of_lt (Heap.lt_size e)) e
 exact h pins _ σ H xs _ Q I1 (by simpa using rv) hw
noncomputable def gSub (to ti:TE) (t:TSet):TG:=fun v σ H Q=>to σ H fun o H1=>ti σ H1 fun i H2=>t o i v H2 fun H3=>Q σ H3
theorem y8G {o i:Expr} {to ti:TE} {t:TSet} (ho:PE X o to) (hi:PE X i ti) (hs:PSet X t)
  (ha:∀v,assign (.Subscript o i pos) X.env v=(do
   let ov ←holding [v] (eval o X.env)
   let iv ←holding [v,ov] (eval i X.env)
   standAt pos
   holding [v,ov,iv] (setItem ov iv v)
   release [v,ov,iv] []):=by intro _;rfl):PG X (.Subscript o i pos) (gSub to ti t):=by
 intro pins s σ H v u Q I r h
 rw[ha]
 refine wpAny_bind (wpAny_holding (thn (ho pins s σ H _ I h) fun ov s1 ⟨x,H1,I1,r1,q1⟩=>?_))
 refine wpAny_bind (wpAny_holding (thn (hi pins s1 σ H1 _ I1 q1) fun iv s2 ⟨y,H2,I2,r2,q2⟩=>?_))
 refine wpAny_bind (wpAny_standAt (wpAny_bind (wpAny_holding (thn (hs pins s2 σ H2 x y v ov iv u _ I2 r1 r2 r q2) fun _ s3 ⟨H3,I3,q3⟩=>?_))))
 exact wpAny_release ⟨σ,H3,I3,q3⟩
noncomputable def tAsg (te:TE) (g:TG):TS:=fun D σ H=>te σ H fun x H1=>g x σ H1 D.nx
theorem y8C {tg e:Expr} {te:TE} {g:TG} (he:PE X e te) (hg:PG X tg g) (hs:swapsWithSole [tg] e pos.line X.env=pure false:=by rfl) (hw:swappedStores [tg] e X.env=pure none:=by rfl)
  (h1:(assignEach [tg] X.env).map (·.2)=[assign tg X.env]:=by rfl):PS X (.Assign [tg] e pos) (tAsg te g):=by
 intro pins s σ H D I h
 refine wpAny_Assign_stores (thn (he pins s σ H _ I h) fun v s1 ⟨x,H1,I1,r1,q1⟩=>?_) hs hw
 rw[h1]
 exact thn (hg pins s1 σ H1 x v _ I1 r1 q1) fun _ s2 q=>q
theorem z0P {i:Nat} {x:Str} {e:Expr} {te:TE} {pos':Pos} (hN:X.N.Nodup) (hi:X.N[i]?=some x) (hx:Loc X.env.scope x) (he:PE X e te) (hs:swapsWith e (some (.Name x pos')) pos.line X.env=pure false:=by rfl) (hf:X.fn x=true∨X.env.scope.names.lookup x=some .local:=by first|exact .inl rfl|exact .inr rfl|assumption) :
  PS X (.Assign [.Name x pos'] e pos) (tAsg te (gName i)):=by
 intro pins s σ H D I h
 refine wpAny_Assign_Name (thn (he pins s σ H _ I h) fun v s1 ⟨y,H1,I1,r1,q1⟩=>?_) hs
 exact z3F I1 hN hi hx r1 (fun s2 I2=>⟨_,H1,I2,q1⟩) hf
noncomputable def tPar (i j:Nat) (ta:TA):TS:=fun D σ H=>ta σ H fun vs H1=>∃v w,vs=[v,w]/\D.nx ((σ.set i (some v)).set j (some w)) H1
theorem y8A {i j:Nat} {x y:Str} {a b:Expr} {ta:TA} {px py pt:Pos} {kt k2 pt2} (hc:X.calm=true) (hN:X.N.Nodup) (hi:X.N[i]?=some x) (hj:X.N[j]?=some y) (hij:i≠j)
  (hx:X.env.scope.names.lookup x=some .local) (hy:X.env.scope.names.lookup y=some .local) (ha:PA X [a,b] ta)
  (hw:swappedStores [.Tuple [.Name x px,.Name y py] kt pt] (.Tuple [a,b] k2 pt2) X.env=pure (some [x,y]))
  (hs:swapsWithSole [.Tuple [.Name x px,.Name y py] kt pt] (.Tuple [a,b] k2 pt2) pos.line X.env=pure false:=by rfl) :
  PS X (.Assign [.Tuple [.Name x px,.Name y py] kt pt] (.Tuple [a,b] k2 pt2) pos) (tPar i j ta):=by
 intro pins s σ H D I h
 rw[exec_Assign_arm]
 refine wpAny_bind (wpAny_standAt ?_)
 rw[hs]
 refine wpAny_bind (wpAny_pure ?_)
 rw[if_neg (by decide)]
 refine wpAny_bind (Tuple_ (thn (ha _ pins s σ H _ I h) fun us s1 ⟨vs,H1,I1,r1,q1⟩=>?_))
 obtain⟨v,w,e1,q1⟩:=q1
 subst e1
 obtain⟨u1,u2,rfl,rv,rw'⟩:∃u1 u2,us=[u1,u2]/\RelV v u1/\RelV w u2:=by
  cases r1 with
  | cons p q=>
   cases q with
   | cons p' q'=>
    cases q'
    exact⟨_,_,rfl,p,p'⟩
 refine wpAny_newObj_type ?_ (by show 2<=sizeLine;decide)
 have I2:Inv X pins σ H1 { s1 with heap:=s1.heap.push { cls:=.type "tuple",data:=.seq [u1,u2].toArray } }:=I1.kept (t':=s1.toks) fun b o e=>Heap.get?_push_of_some _ e
 rw[hw]
 refine wpAny_bind (wpAny_pure ?_)
 show wpAny (model X.prog X.w) X.A (do rule "assign.swapped-stores";let items ←unpackItems (.ref s1.heap.objs.size) 2 none;assignInOrder [fun v=>bindName X.env y v,fun v=>bindName X.env x v] items.reverse;pure Flow.next) _ _ _
 refine wpAny_bind (wpAny_rule (wpAny_bind (unpackItems_tuple (items:=#[u1,u2]) (I.ok.hd hc) (IsTup.new s1.heap _) fun h' hx'=>?_)))
 have I3:=I2.kept (h':=h') (t':=s1.toks) fun b o e=>hx' b o (Nat.ne_of_lt (Heap.lt_size e)) e
 show wpAny _ _ (assignInOrder [fun v=>bindName X.env y v,fun v=>bindName X.env x v] [u2,u1] >>= fun _=>pure Flow.next) _ _ _
 refine wpAny_bind (assignInOrder_cons (wpAny_bindName (z3F I3 hN hj (.inl hy) rw' (fun s2 I4=>?_) (.inr hy))))
 refine assignInOrder_cons (wpAny_bindName (z3F I4 hN hi (.inl hx) rv (fun s3 I5=>assignInOrder_nil (wpAny_pure ?_)) (.inr hx)))
 rw[List.set_comm _ _ (Ne.symm hij)] at I5
 exact⟨_,H1,I5,q1⟩
noncomputable def tAug (i:Nat) (te:TE) (ti:TIp):TS:=fun D σ H=>∃x,σ[i]?=some (some x)/\te σ H fun y H1=>ti x y H1 fun z H2=>D.nx (σ.set i (some z)) H2
theorem y8B {i:Nat} {x:Str} {e:Expr} {te:TE} {op:Operator} {ti:TIp} {pos':Pos} (hN:X.N.Nodup) (hi:X.N[i]?=some x) (hx:Loc X.env.scope x) (he:PE X e te) (ho:PIp X op ti) (hf:X.fn x=true∨X.env.scope.names.lookup x=some .local:=by first|exact .inl rfl|exact .inr rfl|assumption) :
  PS X (.AugAssign (.Name x pos') op e pos) (tAug i te ti):=by
 intro pins s σ H D I h
 obtain⟨v,e1,h⟩:=h
 obtain⟨m,hn,hl⟩:=I.loc
 have vis:Vis X.env.scope x:=by rcases hx with k|k;exact .inl k;exact .inr (.inl k)
 obtain⟨u,r,l⟩:=hl i x v hi e1 vis
 refine wpAny_AugAssign_Name ?_
 have go:wpAny (model X.prog X.w) X.A (eval e X.env) (fun w s₂=>wpAny (model X.prog X.w) X.A (inplaceOp op u w) (fun r s₃=>wpAny (model X.prog X.w) X.A (storeName X.env x r) (fun _=>SP X pins D .next) X.xe s₃) X.xe s₂) X.xe s:=by
  refine thn (he pins s σ H _ I h) fun w s1 ⟨y,H1,I1,r1,q1⟩=>?_
  refine thn (ho pins s1 σ H1 v y u w _ I1 r r1 q1) fun z s2 ⟨zv,H2,I2,r2,q2⟩=>?_
  exact z3F I2 hN hi hx r2 (fun s3 I3=>⟨_,H2,I3,q2⟩) hf
 rcases l with⟨hk,hm⟩|⟨hk,c,hc,hcell⟩
 ·exact wpAny_loadName_local I.ok.kind hk hn hm go
 ·rcases hk with hk|hk
  ·exact wpAny_loadName_cell I.ok.kind hk hc hcell go
  ·rcases hx with k|k
   ·have:X.env.scope.names.lookup x=some .free:=hk
    rw[k] at this;cases this
   ·have:X.env.scope.names.lookup x=some .free:=hk
    rw[k] at this;cases this
noncomputable def ipI (f:Int->Int->Int):TIp:=fun x y H Q=>∃i j,x=.int i/\y=.int j/\Q (.int (f i j)) H
theorem y8Q:PIp X .Add (ipI fun i j=>i+j):=by
 intro pins s σ H x y v u Q I r1 r2 h
 obtain⟨i,j,e1,e2,q⟩:=h
 subst e1;subst e2
 obtain⟨t,rfl⟩:=r1
 obtain⟨t',rfl⟩:=r2
 exact iadd_int ⟨.int _,H,I.tok _,⟨_,rfl⟩,q⟩
end
section
variable {X:Cx} {pos:Pos}
noncomputable def y7q (c:TT) (tb:TS):TS:=fun D σ H=>∃W:Nat->St->Hp->Prop,(∃m,W m σ H)/\∀m σ H,W m σ H->
 c σ H fun b H1=>if b=true then ∃N:St->Hp->Prop,(∀σ' H',N σ' H'->∃m',m'<m/\W m' σ' H')/\tb { D with nx:=N,ct:=N,bk:=D.nx } σ H1 else D.nx σ H1
theorem z3w {c:Expr} {body:List Stmt} {tc:TT} {tb:TS} (hp:PassesOwn (model X.prog X.w) X.A X.env X.xe) (hc:PT X c tc) (hb:PSs X body tb):PS X (.While c body [] pos) (y7q tc tb):=by
 intro pins s σ H D I h
 obtain⟨W,⟨m0,w0⟩,turn⟩:=h
 refine wpAny_While (codeAny_whileLoop (fun n s'=>∃σ' H',Inv X pins σ' H' s'/\W n σ' H') ?_ m0 ⟨σ,H,I,w0⟩)
 rintro n s1 ⟨σ1,H1,I1,w1⟩
 refine wpAny_passesOwn hp (thn (hc pins s1 σ1 H1 _ I1 (turn n σ1 H1 w1)) fun b s2 ⟨H2,I2,q2⟩=>?_)
 cases b with
 | true=>
  obtain⟨N,hN,q2⟩:=q2
  rw[if_pos rfl]
  refine wpAny_passesOwn hp (thn (hb pins s2 σ1 H2 _ I2 q2) fun f s3 q3=>?_)
  cases f with
  | next=>
   obtain⟨σ3,H3,I3,n3⟩:=q3
   obtain⟨m',hm,w3⟩:=hN σ3 H3 n3
   exact⟨m',hm,σ3,H3,I3,w3⟩
  | cont=>
   obtain⟨σ3,H3,I3,n3⟩:=q3
   obtain⟨m',hm,w3⟩:=hN σ3 H3 n3
   exact⟨m',hm,σ3,H3,I3,w3⟩
  | brk=>exact q3
  | ret v=>exact q3
 | false=>
  rw[if_neg Bool.false_ne_true]
  exact wpAny_execs_nil ⟨σ1,H2,I2,q2⟩
end
structure It where
 go:Nat->Hp->Prop
 yld:Nat->Hp->V->Hp->Prop
 stop:Nat->Hp->Prop
noncomputable def FpOk (X:Cx) (pins:List (Addr×Obj)) (H:Hp) (b:Addr):Prop:=
 H b=none/\b≠X.env.locals/\b∉X.fs/\(b∈X.ex∨X.s₀.heap.objs.size<=b)/\(∀x c,X.env.cells.lookup x=some c->c≠b)/\∀p∈X.pn++pins,p.1≠b
theorem Inv.fpOk {X:Cx} {pins:List (Addr×Obj)} {σ:St} {H H':Hp} {s:Shared} {b:Addr} (I:Inv X pins σ H s) (hb:s.heap.objs.size<=b) (hn:H' b=none):FpOk X pins H' b:=by
 refine⟨hn,Nat.ne_of_gt (Nat.lt_of_lt_of_le I.lt hb),I.nofs hb,.inr (Nat.le_trans I.sz hb),fun x c e z=>?_,fun p hp z=>?_⟩
 ·obtain⟨v,q⟩:=I.cell x c e
  exact absurd (Nat.lt_of_lt_of_le q.lt (by rw[z];exact hb)) (Nat.lt_irrefl _)
 ·exact absurd (Nat.lt_of_lt_of_le (Heap.lt_size (I.pin p hp).1) (by rw[z];exact hb)) (Nat.lt_irrefl _)
structure Turn (P:Program) (w:World) (K:PySem.W.Frag) (tg:Expr) (J:It) (fp:List Addr) (it:Addr) (tn:Nat->Heap->Prop):Prop where
 mem:it∈fp
 obj:∀i h,tn i h->∀b∈fp,∃o,h.get? b=some o/\∀v,o.data≠.cell v
 keep:∀i h h',tn i h->(∀b∈fp,∀o,h.get? b=some o->h'.get? b=some o)->tn i h'
 item:∀(X:Cx),X.prog=P->X.w=w->X.K=K->X.calm=true->∀(i:Nat) (pins:List (Addr×Obj)) (s:Shared) (σ:St) (H:Hp) (E:Value->Shared->Prop),Inv X pins σ H s->(∀b∈fp,FpOk X pins H b)->tn i s.heap->J.go i H->
  wpAny (model P w) X.A (pyNext (.ref it)) (fun r s1=>∃u,r=some u/\
   wpAny (model P w) X.A (letOwnedTupleGo tg (.ref it) u) (fun _ s2=>∃x H',Inv X pins σ H' s2/\RelV x u/\J.yld i H x H'/\tn (i+1) s2.heap/\∀b∈fp,H' b=none) E s1) E s
 done:∀(X:Cx),X.prog=P->X.w=w->X.K=K->X.calm=true->∀(i:Nat) (pins:List (Addr×Obj)) (s:Shared) (σ:St) (H:Hp) (E:Value->Shared->Prop),Inv X pins σ H s->(∀b∈fp,FpOk X pins H b)->tn i s.heap->J.stop i H->
  wpAny (model P w) X.A (pyNext (.ref it)) (fun r s1=>r=none/\Inv X pins σ H s1) E s
 self:∀(A:Around) (i:Nat) (s:Shared) (Q:Value->Shared->Prop) (E:Value->Shared->Prop),tn i s.heap->Q (.ref it) s->wpAny (model P w) A (pyIter (.ref it)) Q E s
noncomputable abbrev TI:=St->Hp->(It->Hp->Prop)->Prop
noncomputable def PIE (X:Cx) (pins:List (Addr×Obj)) (σ:St) (tg:Expr) (R:It->Hp->Prop) (itv:Value) (s2:Shared):Prop:=
 ∃(it:Addr) (fp:List Addr) (tn:Nat->Heap->Prop) (J:It) (H':Hp),itv=.ref it/\Inv X pins σ H' s2/\Turn X.prog X.w X.K tg J fp it tn/\tn 0 s2.heap/\(∀b∈fp,FpOk X pins H' b)/\R J H'
noncomputable def PI (X:Cx) (tg iter:Expr) (wi:TI):Prop:=
 ∀(pins:List (Addr×Obj)) (s:Shared) (σ:St) (H:Hp) (R:It->Hp->Prop),Inv X pins σ H s->wi σ H R->
  wpAny (model X.prog X.w) X.A (eval iter X.env) (fun v s1=>wpAny (model X.prog X.w) X.A (pyIter v) (PIE X pins σ tg R) X.xe s1) X.xe s
theorem go_of {M:Model} {A:Around} {E:Value->Shared->Prop} {s:Shared} {tg:Expr} {it:Addr} {u:Value} {o:Obj} {n:String} {vs:Array Value} {Q:Unit->Shared->Prop} (ho:s.heap.get? it=some o) (hc:o.cls=.type n) (hd:o.data=.fields vs)
    (hn:["enumerate", "zip", "dict_itemiterator", "dict_reverseitemiterator", "odict_iterator", "itertools.zip_longest", "itertools.pairwise"].contains n=false) (hQ:Q () s):wpAny M A (letOwnedTupleGo tg (.ref it) u) Q E s:=by
  unfold letOwnedTupleGo
  cases tg <;> first
    | exact wpAny_pure hQ
    | (cases u <;> first
        | exact wpAny_pure hQ
        | (refine wpAny_bind (wpAny_load ho ?_)
           rw[hc,hd]
           show wpAny M A (if (["enumerate", "zip", "dict_itemiterator", "dict_reverseitemiterator", "odict_iterator", "itertools.zip_longest", "itertools.pairwise"].contains n && vs[0]? == some (rawInt _))=true then _ else _) Q E s
           rw[if_neg (by intro h;rw[hn,Bool.false_and] at h;cases h)]
           exact wpAny_pure hQ))
noncomputable def Itl (K:PySem.W.Frag) (a:Addr):It:=
 ⟨fun i H=>∃xs x,SqL K H a xs/\xs[i]?=some x,fun i H x H'=>H'=H/\∀xs,SqL K H a xs->xs[i]?=some x,fun i H=>∃xs,SqL K H a xs/\xs.length<=i⟩
noncomputable def Itt (K:PySem.W.Frag) (a:Addr):It:=
 ⟨fun i H=>∃xs x,SqT K H a xs/\xs[i]?=some x,fun i H x H'=>H'=H/\∀xs,SqT K H a xs->xs[i]?=some x,fun i H=>∃xs,SqT K H a xs/\xs.length<=i⟩
noncomputable def Itr (lo:Int) (n:Nat):It:=⟨fun i _=>i<n,fun i H x H'=>H'=H/\x=.int (lo+i),fun i _=>n<=i⟩
theorem y2f {P:Program} {w:World} {K:PySem.W.Frag} {tg:Expr} (a it:Addr):Turn P w K tg (Itl K a) [it] it (fun i h=>h.IsListIter it a i) where
 mem:=by simp
 obj:=fun i h st b hb=>by
  have e:b=it:=by simpa using hb
  subst e
  obtain⟨o,e,c,d⟩:=st
  exact⟨o,e,fun v z=>by rw[d] at z;cases z⟩
 keep:=fun i h h' st k=>st.at fun o e=>k it (by simp) o e
 item:=by
  intro X hP hw hK hc i pins s σ H E I hf st hg
  subst hP hw hK
  obtain⟨xs,x,hq,hx⟩:=hg
  obtain⟨its,rv,p,hz⟩:=I.list hq
  obtain⟨u,hu,ru⟩:=rv.get hx
  obtain⟨f0,f1,f2,f3,f4,f5⟩:=hf it (by simp)
  refine wpAny_pyNext_list_item st p.isList (x:=u) (by simpa using hu) fun h' st' sb=>?_
  have I1:Inv X pins σ H { s with heap:=h' }:=I.turned (t':=s.toks) (fun b o hb e=>(sb.2 b hb).trans e) f0 f1 f3 f4 f5
  obtain⟨o,e,c,d⟩:=id st'
  exact⟨u,rfl,go_of (s:={ s with heap:=h' }) e c d (by decide) ⟨x,H,I1,ru,⟨rfl,fun ys hy=>by rw[I.list_inj hy hq];exact hx⟩,st',fun b hb=>(hf b hb).1⟩⟩
 done:=by
  intro X hP hw hK hc i pins s σ H E I hf st hg
  subst hP hw hK
  obtain⟨xs,hq,hx⟩:=hg
  obtain⟨its,rv,p,hz⟩:=I.list hq
  obtain⟨f0,f1,f2,f3,f4,f5⟩:=hf it (by simp)
  have hl:=rv.length
  exact wpAny_pyNext_list_end (I.ok.hd hc) st p.isList (by simp;omega) fun h' eb=>⟨rfl,I.turned (t':=s.toks) (fun b o hb e=>eb b o hb e) f0 f1 f3 f4 f5⟩
 self:=fun _ _ _ _ _ st h=>wpAny_pyIter_listiter st h
theorem y1y {P:Program} {w:World} {K:PySem.W.Frag} {tg:Expr} (a it:Addr):Turn P w K tg (Itt K a) [it] it (fun i h=>h.IsTupleIter it a i) where
 mem:=by simp
 obj:=fun i h st b hb=>by
  have e:b=it:=by simpa using hb
  subst e
  obtain⟨o,e,c,d⟩:=st
  exact⟨o,e,fun v z=>by rw[d] at z;cases z⟩
 keep:=fun i h h' st k=>st.at fun o e=>k it (by simp) o e
 item:=by
  intro X hP hw hK hc i pins s σ H E I hf st hg
  subst hP hw hK
  obtain⟨xs,x,hq,hx⟩:=hg
  obtain⟨its,rv,p,hz⟩:=I.tuple hq
  obtain⟨u,hu,ru⟩:=rv.get hx
  obtain⟨f0,f1,f2,f3,f4,f5⟩:=hf it (by simp)
  refine wpAny_pyNext_tuple_item st (show s.heap.IsTuple a its.toArray from p) (x:=u) (by simpa using hu) fun h' st' sb=>?_
  have I1:Inv X pins σ H { s with heap:=h' }:=I.turned (t':=s.toks) (fun b o hb e=>(sb.2 b hb).trans e) f0 f1 f3 f4 f5
  obtain⟨o,e,c,d⟩:=id st'
  exact⟨u,rfl,go_of (s:={ s with heap:=h' }) e c d (by decide) ⟨x,H,I1,ru,⟨rfl,fun ys hy=>by rw[I.tuple_inj hy hq];exact hx⟩,st',fun b hb=>(hf b hb).1⟩⟩
 done:=by
  intro X hP hw hK hc i pins s σ H E I hf st hg
  subst hP hw hK
  obtain⟨xs,hq,hx⟩:=hg
  obtain⟨its,rv,p,hz⟩:=I.tuple hq
  obtain⟨f0,f1,f2,f3,f4,f5⟩:=hf it (by simp)
  have hl:=rv.length
  exact wpAny_pyNext_tuple_end (I.ok.hd hc) st (show s.heap.IsTuple a its.toArray from p) (by simp;omega) fun h' eb=>⟨rfl,I.turned (t':=s.toks) (fun b o hb e=>eb b o hb e) f0 f1 f3 f4 f5⟩
 self:=fun _ _ _ _ _ st h=>wpAny_pyIter_tupleiter st h
theorem y2A {P:Program} {w:World} {K:PySem.W.Frag} {tg:Expr} (it:Addr) (lo:Int) (n:Nat):Turn P w K tg (Itr lo n) [it] it (fun i h=>IsRangeIter h it (lo+(i:Nat)*1) ((n:Int)-(i:Nat)) 1) where
 mem:=by simp
 obj:=fun i h st b hb=>by
  have e:b=it:=by simpa using hb
  subst e
  exact⟨_,st,fun v z=>by
   have z':Data.fields _=Data.cell v:=z
   cases z'⟩
 keep:=fun i h h' st k=>k it (by simp) _ st
 item:=by
  intro X hP hw hK hc i pins s σ H E I hf st hg
  subst hP hw hK
  obtain⟨f0,f1,f2,f3,f4,f5⟩:=hf it (by simp)
  have W:=Walks.range (prog:=X.prog) (w:=X.w) (I.ok.hd hc) it lo 1 n
  refine W.item i s _ _ hg st fun v h' tk hv st' kk=>?_
  obtain⟨t,rfl⟩:=hv
  have I1:Inv X pins σ H { s with heap:=h',toks:=tk }:=I.turned (fun b o hb e=>kk b o (by simpa using hb) e) f0 f1 f3 f4 f5
  refine⟨_,rfl,go_of (s:={ s with heap:=h',toks:=tk }) (n:= "range_iterator") st' rfl rfl (by decide) ⟨.int (lo+i),H,I1,⟨t,?_⟩,⟨rfl,rfl⟩,st',fun b hb=>(hf b hb).1⟩⟩
  rw[Int.mul_one]
 done:=by
  intro X hP hw hK hc i pins s σ H E I hf st hg
  subst hP hw hK
  obtain⟨f0,f1,f2,f3,f4,f5⟩:=hf it (by simp)
  exact wpAny_pyNext_range_end (I.ok.hd hc) st (by have:n<=i:=hg;omega) fun h' eb=>⟨rfl,I.turned (t':=s.toks) (fun b o hb e=>eb b o hb e) f0 f1 f3 f4 f5⟩
 self:=fun _ _ _ _ _ st h=>wpAny_pyIter_rangeiter st h
end L2
namespace L2
open PySem PySem.Spec PyProof.Rows
section
variable {X:Cx} {tg:Expr}
noncomputable def iList (K:PySem.W.Frag) (tl:TE):TI:=fun σ H R=>tl σ H fun x H1=>∃a,x=.ref a/\(∃xs,SqL K H1 a xs)/\R (Itl K a) H1
noncomputable def iTup (K:PySem.W.Frag) (tl:TE):TI:=fun σ H R=>tl σ H fun x H1=>∃a,x=.ref a/\(∃xs,SqT K H1 a xs)/\R (Itt K a) H1
theorem z0q {l:Expr} {tl:TE} (hl:PE X l tl):PI X tg l (iList X.K tl):=by
 intro pins s σ H R I h
 refine thn (hl pins s σ H _ I h) fun v s1 ⟨x,H1,I1,r1,q1⟩=>?_
 obtain⟨a,e,⟨xs,hq⟩,q⟩:=q1
 subst e
 cases r1
 obtain⟨its,rv,p,hz⟩:=I1.list hq
 refine wpAny_pyIter_list p.isList ?_
 refine⟨s1.heap.objs.size,[s1.heap.objs.size],_,_,H1,rfl,I1.kept (t':=s1.toks) fun b o e=>Heap.get?_push_of_some _ e,y2f a _,⟨_,Heap.get?_push_size _ rfl,rfl,rfl⟩,fun b hb=>?_,q⟩
 have e:b=s1.heap.objs.size:=by simpa using hb
 subst e
 exact I1.fpOk (Nat.le_refl _) (I1.hok.fresh (Nat.le_refl _))
theorem y6R {l:Expr} {tl:TE} (hl:PE X l tl):PI X tg l (iTup X.K tl):=by
 intro pins s σ H R I h
 refine thn (hl pins s σ H _ I h) fun v s1 ⟨x,H1,I1,r1,q1⟩=>?_
 obtain⟨a,e,⟨xs,hq⟩,q⟩:=q1
 subst e
 cases r1
 obtain⟨its,rv,p,hz⟩:=I1.tuple hq
 refine wpAny_pyIter_tuple (show s1.heap.IsTuple a its.toArray from p) ?_
 refine⟨s1.heap.objs.size,[s1.heap.objs.size],_,_,H1,rfl,I1.kept (t':=s1.toks) fun b o e=>Heap.get?_push_of_some _ e,y1y a _,⟨_,Heap.get?_push_size _ rfl,rfl,rfl⟩,fun b hb=>?_,q⟩
 have e:b=s1.heap.objs.size:=by simpa using hb
 subst e
 exact I1.fpOk (Nat.le_refl _) (I1.hok.fresh (Nat.le_refl _))
theorem y1X {pins:List (Addr×Obj)} {σ:St} {H:Hp} {s:Shared} {R:It->Hp->Prop} {E:Value->Shared->Prop} {lo hi:Int} {t u v:Tok} {tk:Nat} (I:Inv X pins σ H s) (h1:-(2^62)<=lo) (h2:lo<2^62) (h3:-(2^62)<=hi) (h4:hi<2^62)
  (q:R (Itr lo (hi-lo).toNat) H):wpAny (model X.prog X.w) X.A (pyIter (.ref s.heap.objs.size)) (PIE X pins σ tg R) E { s with heap:=s.heap.push { cls:=.type "range",data:=.fields #[.int lo t,.int hi u,.int 1 v] },toks:=tk }:=by
 refine wpAny_pyIter_range (IsRange.new ..) (small_one h1 h2 h3 h4) ?_
 have I1:Inv X pins σ H { s with heap:=s.heap.push { cls:=.type "range",data:=.fields #[.int lo t,.int hi u,.int 1 v] },toks:=tk }:=I.kept fun b o e=>Heap.get?_push_of_some _ e
 refine⟨(s.heap.push { cls:=.type "range",data:=.fields #[.int lo t,.int hi u,.int 1 v] }).objs.size,[(s.heap.push { cls:=.type "range",data:=.fields #[.int lo t,.int hi u,.int 1 v] }).objs.size],_,_,H,rfl,
  I1.kept (t':=tk) fun b o e=>Heap.get?_push_of_some _ e,y2A _ lo (hi-lo).toNat,?_,fun b hb=>?_,q⟩
 ·have e1:lo+((0:Nat):Int)*1=lo:=by simp
  have e2:(((hi-lo).toNat:Nat):Int)-((0:Nat):Int)=Builtin.Range.rangeSize lo hi 1:=by rw[rangeSize_one];split <;> omega
  show IsRangeIter _ _ (lo+((0:Nat):Int)*1) ((((hi-lo).toNat:Nat):Int)-((0:Nat):Int)) 1
  rw[e1,e2]
  exact Heap.get?_push_size _ rfl
 ·have e:b=(s.heap.push { cls:=.type "range",data:=.fields #[.int lo t,.int hi u,.int 1 v] }).objs.size:=by simpa using hb
  subst e
  exact I1.fpOk (Nat.le_refl _) (I1.hok.fresh (Nat.le_refl _))
noncomputable def iRng1 (ta:TA):TI:=fun σ H R=>ta σ H fun vs H1=>∃j:Int,vs=[.int j]/\-(2^62)<=j/\j<2^62/\R (Itr 0 j.toNat) H1
noncomputable def iRng2 (ta:TA):TI:=fun σ H R=>ta σ H fun vs H1=>∃i j:Int,vs=[.int i,.int j]/\(-(2^62)<=i/\i<2^62/\-(2^62)<=j/\j<2^62)/\R (Itr i (j-i).toNat) H1
theorem z1f {a:Expr} {ta:TA} {p pos:Pos} (hg:Gl X "range") (hm:X.mg "range" = none) (ha:PA X [a] ta) (hs:starEach [a] X.env=[(false,eval a X.env)]:=by rfl):PI X tg (.Call (.Name "range" p) [a] [] pos) (iRng1 ta):=by
 intro pins s σ H R I h
 refine Call_ (z4A I hg hm boot_range (PyProof.Rows.callWith_type1 (thn (ha pos pins s σ H _ I h) fun us s1 ⟨vs,H1,I1,r1,q1⟩=>?_) hs rfl))
 obtain⟨j,e,q1,q2,q⟩:=q1
 subst e
 cases r1 with
 | cons r rr=>
  cases rr
  obtain⟨t,rfl⟩:=r
  exact call_range_1 (y1X I1 (by omega) (by omega) q1 q2 (by simpa using q))
theorem y3Y {a b:Expr} {ta:TA} {p pos:Pos} (hg:Gl X "range") (hm:X.mg "range" = none) (ha:PA X [a,b] ta) (hs:starEach [a,b] X.env=[(false,eval a X.env),(false,eval b X.env)]:=by rfl) (hs2:starEach [b] X.env=[(false,eval b X.env)]:=by rfl) :
  PI X tg (.Call (.Name "range" p) [a,b] [] pos) (iRng2 ta):=by
 intro pins s σ H R I h
 refine Call_ (z4A I hg hm boot_range (PyProof.Rows.callWith_type1 (thn (ha pos pins s σ H _ I h) fun us s1 ⟨vs,H1,I1,r1,q1⟩=>?_) (by rw[hs,hs2]) (by rw[hs2];rfl)))
 obtain⟨i,j,e,⟨q1,q2,q3,q4⟩,q⟩:=q1
 subst e
 cases r1 with
 | cons r rr=>
  cases rr with
  | cons r' rr=>
   cases rr
   obtain⟨t,rfl⟩:=r
   obtain⟨t',rfl⟩:=r'
   exact call_range_2 (y1X I1 q1 q2 q3 q4 q)
noncomputable def tFor (wi:TI) (g:TG) (tb:TS):TS:=fun D σ H=>wi σ H fun J H1=>∃W:Nat->Nat->St->Hp->Prop,(∃m,W 0 m σ H1)/\∀i m σ H,W i m σ H->
 (J.stop i H/\D.nx σ H)∨(J.go i H/\∃N:St->Hp->Prop,(∀σ' H',N σ' H'->∃m',m'<m/\W (i+1) m' σ' H')/\∀x H',J.yld i H x H'->g x σ H' fun σ2 H2=>tb { D with nx:=N,ct:=N,bk:=D.nx } σ2 H2)
noncomputable def z8y (fp:List Addr) (h:Heap):List (Addr×Obj):=fp.filterMap fun b=>(h.get? b).map fun o=>(b,o)
theorem z3M {fp:List Addr} {h:Heap} {b:Addr} {o:Obj} (hb:b∈fp) (e:h.get? b=some o):(b,o)∈z8y fp h:=List.mem_filterMap.mpr ⟨b,hb,by rw[e];rfl⟩
theorem y3f {fp:List Addr} {h:Heap} {p:Addr×Obj} (hp:p∈z8y fp h):p.1∈fp/\h.get? p.1=some p.2:=by
 obtain⟨b,hb,e⟩:=List.mem_filterMap.mp hp
 cases q:h.get? b with
 | none=>rw[q] at e;cases e
 | some o=>
  rw[q] at e
  have e':(b,o)=p:=Option.some.inj e
  subst e'
  exact⟨hb,q⟩
theorem Inv.pinned {pins:List (Addr×Obj)} {σ:St} {H:Hp} {s:Shared} {fp:List Addr} (I:Inv X pins σ H s) (hf:∀b∈fp,FpOk X pins H b) (ho:∀b∈fp,∃o,s.heap.get? b=some o/\∀v,o.data≠.cell v):Inv X (pins++z8y fp s.heap) σ H s:=
 I.pins_of fun p hp=>(List.mem_append.mp hp).elim (fun z=>I.pin p (List.mem_append_right _ z)) fun z=>by
  obtain⟨hb,e⟩:=y3f z
  obtain⟨f0,f1,f2,_⟩:=hf p.1 hb
  obtain⟨o,e',d⟩:=ho p.1 hb
  rw[e] at e';cases e'
  exact⟨e,f0,f1,f2,d⟩
theorem Inv.unpinned {pins pl:List (Addr×Obj)} {σ:St} {H:Hp} {s:Shared} (I:Inv X (pins++pl) σ H s):Inv X pins σ H s:=I.pins_of fun p hp=>I.pin p (List.mem_append_right _ (List.mem_append_left _ hp))
theorem z1S {iter:Expr} {body:List Stmt} {wi:TI} {g:TG} {tb:TS} {pos:Pos} (hp:PassesOwn (model X.prog X.w) X.A X.env X.xe) (hc:X.calm=true) (hi:PI X tg iter wi) (hg:PG X tg g) (hb:PSs X body tb)
  (hs:∀x,foldedSetIterable iter X.env x=pure x:=by intro _;rfl):PS X (.For tg iter body [] pos) (tFor wi g tb):=by
 intro pins s σ H D I h
 refine wpAny_For (thn (hi pins s σ H _ I h) fun v s1 h1=>thn h1 fun itv s2 h2=>?_) hs
 obtain⟨it,fp,tn,J,H2,e,I2,T,st2,f2,W,⟨m0,w0⟩,turn⟩:=h2
 subst e
 have stat:∀ {H':Hp},(∀b∈fp,H' b=none)->∀b∈fp,FpOk X pins H' b:=fun hn b hb=>⟨hn b hb,(f2 b hb).2⟩
 refine codeAny_forLoop_any (fun n s'=>∃i σ' H',Inv X pins σ' H' s'/\tn i s'.heap/\(∀b∈fp,H' b=none)/\W i n σ' H') ?_ m0 ⟨0,σ,H2,I2,st2,fun b hb=>(f2 b hb).1,w0⟩
 rintro n s3 ⟨i,σ3,H3,I3,st3,fr3,w3⟩
 rcases turn i n σ3 H3 w3 with⟨stop,qn⟩|⟨go,N,hN,step⟩
 ·refine wpAny_passesOwn hp (thn (T.done X rfl rfl rfl hc i pins s3 σ3 H3 X.xe I3 (stat fr3) st3 stop) fun r s4 ⟨hr,I4⟩=>?_)
  subst hr
  exact wpAny_execs_nil ⟨σ3,H3,I4,qn⟩
 ·refine wpAny_passesOwn hp (thn (T.item X rfl rfl rfl hc i pins s3 σ3 H3 X.xe I3 (stat fr3) st3 go) fun r s4 ⟨u,hr,h4⟩=>?_)
  subst hr
  refine wpAny_passesOwn hp (thn h4 fun _ s5 ⟨x,H5,I5,r5,y5,st5,fr5⟩=>?_)
  have I5':=I5.pinned (stat fr5) (T.obj _ _ st5)
  refine wpAny_passesOwn hp (thn (hg _ s5 σ3 H5 x u _ I5' r5 (step x H5 y5)) fun _ s6 ⟨σ6,H6,I6,q6⟩=>?_)
  refine wpAny_passesOwn hp (thn (hb _ s6 σ6 H6 _ I6 q6) fun f s7 q7=>?_)
  have again:∀ {σ7:St} {H7:Hp},Inv X (pins++z8y fp s5.heap) σ7 H7 s7->N σ7 H7->∃m,m<n/\∃i σ' H',Inv X pins σ' H' s7/\tn i s7.heap/\(∀b∈fp,H' b=none)/\W i m σ' H':=fun {σ7 H7} I7 n7=>by
   obtain⟨m',hm,w7⟩:=hN σ7 H7 n7
   refine⟨m',hm,i+1,σ7,H7,I7.unpinned,T.keep _ _ _ st5 fun b hb o e=>(I7.pin (b,o) (List.mem_append_right _ (List.mem_append_right _ (z3M hb e)))).1,fun b hb=>?_,w7⟩
   obtain⟨o,e,d⟩:=T.obj _ _ st5 b hb
   exact (I7.pin (b,o) (List.mem_append_right _ (List.mem_append_right _ (z3M hb e)))).2.1
  cases f with
  | next=>obtain⟨σ7,H7,I7,n7⟩:=q7;exact again I7 n7
  | cont=>obtain⟨σ7,H7,I7,n7⟩:=q7;exact again I7 n7
  | brk=>obtain⟨σ7,H7,I7,q7⟩:=q7;exact⟨σ7,H7,I7.unpinned,q7⟩
  | ret v=>obtain⟨x7,σ7,H7,I7,r7,q7⟩:=q7;exact⟨x7,σ7,H7,I7.unpinned,r7,q7⟩
end
theorem y5z {K:PySem.W.Frag} {a:Addr} {xs:List V} {g:TG} {tb:TS} {D:Ends} {σ:St} {H:Hp} (Pv:Nat->St->Hp->Prop) (h0:Pv 0 σ H) (hl:∀i σ H,i<=xs.length->Pv i σ H->SqL K H a xs)
  (hs:∀i x σ H,xs[i]?=some x->Pv i σ H->g x σ H fun σ2 H2=>tb { D with nx:=Pv (i+1),ct:=Pv (i+1),bk:=D.nx } σ2 H2) (hd:∀σ H,Pv xs.length σ H->D.nx σ H) :
  ∃W:Nat->Nat->St->Hp->Prop,(∃m,W 0 m σ H)/\∀i m σ H,W i m σ H->
   ((Itl K a).stop i H/\D.nx σ H)∨((Itl K a).go i H/\∃N:St->Hp->Prop,(∀σ' H',N σ' H'->∃m',m'<m/\W (i+1) m' σ' H')/\∀x H',(Itl K a).yld i H x H'->g x σ H' fun σ2 H2=>tb { D with nx:=N,ct:=N,bk:=D.nx } σ2 H2):=by
 refine⟨fun i m σ H=>m=xs.length-i/\i<=xs.length/\Pv i σ H,⟨xs.length,by simp,Nat.zero_le _,h0⟩,?_⟩
 rintro i m σ H ⟨rfl,hi,p⟩
 have q:=hl i σ H hi p
 by_cases hlt:i<xs.length
 ·refine .inr ⟨⟨xs,xs[i],q,by simp [hlt]⟩,Pv (i+1),fun σ' H' p'=>⟨xs.length-(i+1),by omega,rfl,hlt,p'⟩,fun x H' y=>?_⟩
  obtain⟨e,y⟩:=y
  subst e
  exact hs i x σ _ (y xs q) p
 ·have e:i=xs.length:=by omega
  subst e
  exact .inl ⟨⟨xs,q,Nat.le_refl _⟩,hd σ H p⟩
theorem y7Z {K:PySem.W.Frag} {a:Addr} {xs:List V} {g:TG} {tb:TS} {D:Ends} {σ:St} {H:Hp} (Pv:Nat->St->Hp->Prop) (h0:Pv 0 σ H) (hl:∀i σ H,i<=xs.length->Pv i σ H->SqT K H a xs)
  (hs:∀i x σ H,xs[i]?=some x->Pv i σ H->g x σ H fun σ2 H2=>tb { D with nx:=Pv (i+1),ct:=Pv (i+1),bk:=D.nx } σ2 H2) (hd:∀σ H,Pv xs.length σ H->D.nx σ H) :
  ∃W:Nat->Nat->St->Hp->Prop,(∃m,W 0 m σ H)/\∀i m σ H,W i m σ H->
   ((Itt K a).stop i H/\D.nx σ H)∨((Itt K a).go i H/\∃N:St->Hp->Prop,(∀σ' H',N σ' H'->∃m',m'<m/\W (i+1) m' σ' H')/\∀x H',(Itt K a).yld i H x H'->g x σ H' fun σ2 H2=>tb { D with nx:=N,ct:=N,bk:=D.nx } σ2 H2):=by
 refine⟨fun i m σ H=>m=xs.length-i/\i<=xs.length/\Pv i σ H,⟨xs.length,by simp,Nat.zero_le _,h0⟩,?_⟩
 rintro i m σ H ⟨rfl,hi,p⟩
 have q:=hl i σ H hi p
 by_cases hlt:i<xs.length
 ·refine .inr ⟨⟨xs,xs[i],q,by simp [hlt]⟩,Pv (i+1),fun σ' H' p'=>⟨xs.length-(i+1),by omega,rfl,hlt,p'⟩,fun x H' y=>?_⟩
  obtain⟨e,y⟩:=y
  subst e
  exact hs i x σ _ (y xs q) p
 ·have e:i=xs.length:=by omega
  subst e
  exact .inl ⟨⟨xs,q,Nat.le_refl _⟩,hd σ H p⟩
theorem y4S {lo:Int} {n:Nat} {g:TG} {tb:TS} {D:Ends} {σ:St} {H:Hp} (Pv:Nat->St->Hp->Prop) (h0:Pv 0 σ H)
  (hs:∀i σ H,i<n->Pv i σ H->g (.int (lo+i)) σ H fun σ2 H2=>tb { D with nx:=Pv (i+1),ct:=Pv (i+1),bk:=D.nx } σ2 H2) (hd:∀σ H,Pv n σ H->D.nx σ H) :
  ∃W:Nat->Nat->St->Hp->Prop,(∃m,W 0 m σ H)/\∀i m σ H,W i m σ H->
   ((Itr lo n).stop i H/\D.nx σ H)∨((Itr lo n).go i H/\∃N:St->Hp->Prop,(∀σ' H',N σ' H'->∃m',m'<m/\W (i+1) m' σ' H')/\∀x H',(Itr lo n).yld i H x H'->g x σ H' fun σ2 H2=>tb { D with nx:=N,ct:=N,bk:=D.nx } σ2 H2):=by
 refine⟨fun i m σ H=>m=n-i/\i<=n/\Pv i σ H,⟨n,by simp,Nat.zero_le _,h0⟩,?_⟩
 rintro i m σ H ⟨rfl,hi,p⟩
 by_cases hlt:i<n
 ·refine .inr ⟨hlt,Pv (i+1),fun σ' H' p'=>⟨n-(i+1),by omega,rfl,hlt,p'⟩,fun x H' y=>?_⟩
  obtain⟨e,y⟩:=y
  subst e y
  exact hs i σ _ hlt p
 ·have e:i=n:=by omega
  subst e
  exact .inl ⟨Nat.le_refl _,hd σ H p⟩
end L2
namespace L2
open PySem PySem.Spec PyProof.Rows
noncomputable abbrev R2:=V->V->Hp->VK->Prop
noncomputable def OpR (X:Cx) (f:Value->Value->Sem Value) (r:R2):Prop:=
 ∀(pins:List (Addr×Obj)) (s:Shared) (σ:St) (H:Hp) (x y:V) (v u:Value) (Q:VK),Inv X pins σ H s->RelV x v->RelV y u->r x y H Q->
  wpAny (model X.prog X.w) X.A (f v u) (EP X pins σ Q) X.xe s
noncomputable def CallR (X:Cx) (f:Value) (r:List V->Hp->VK->Prop):Prop:=
 ∀(pins:List (Addr×Obj)) (s:Shared) (σ:St) (H:Hp) (xs:List V) (us:List Value) (Q:VK),Inv X pins σ H s->Vals xs us->r xs H Q->
  wpAny (model X.prog X.w) X.A (call f us) (EP X pins σ Q) X.xe s
noncomputable def tOp (r:R2) (ta tb:TE):TE:=fun σ H Q=>ta σ H fun x H1=>tb σ H1 fun y H2=>r x y H2 Q
noncomputable def tUn (r:V->Hp->VK->Prop) (ta:TE):TE:=fun σ H Q=>ta σ H fun x H1=>r x H1 Q
noncomputable def rI (C:Int->Int->Prop) (g:Int->Int->V):R2:=fun x y H Q=>∃i j,x=.int i/\y=.int j/\C i j/\Q (g i j) H
noncomputable def rI0 (g:Int->Int->V):R2:=fun x y H Q=>∃i j,x=.int i/\y=.int j/\Q (g i j) H
noncomputable def rU (g:Int->V):V->Hp->VK->Prop:=fun x H Q=>∃i,x=.int i/\Q (g i) H
section
variable {X:Cx} {a b c:Expr} {ta tb tc:TE} {pos:Pos}
theorem binT (ha:PE X a ta) (hb:PE X b tb) {pins:List (Addr×Obj)} {s:Shared} {σ:St} {H:Hp} {R:V->V->Hp->Prop} (I:Inv X pins σ H s)
  (h:ta σ H fun x H1=>tb σ H1 fun y H2=>R x y H2) {Q:Value->Shared->Prop} {f:Value->Value->Sem Value}
  (hf:∀v u s2 x y H2,Inv X pins σ H2 s2->RelV x v->RelV y u->R x y H2->wpAny (model X.prog X.w) X.A (f v u) Q X.xe s2) :
  wpAny (model X.prog X.w) X.A (eval a X.env) (fun v s₁=>wpAny (model X.prog X.w) X.A (eval b X.env) (fun u s₂=>wpAny (model X.prog X.w) X.A (f v u) Q X.xe s₂) X.xe s₁) X.xe s:=by
 refine thn (ha pins s σ H _ I h) fun v s1 ⟨x,H1,I1,r1,q1⟩=>?_
 refine thn (hb pins s1 σ H1 _ I1 q1) fun u s2 ⟨y,H2,I2,r2,q2⟩=>?_
 exact hf v u s2 x y H2 I2 r1 r2 q2
theorem pe_op {op:Operator} {r:R2} (ho:OpR X (binaryOp op) r) (ha:PE X a ta) (hb:PE X b tb):PE X (.BinOp a op b pos) (tOp r ta tb):=by
 intro pins s σ H Q I h
 exact wpAny_BinOp (binT ha hb I h fun v u s2 x y H2 I2 rx ry q=>ho pins s2 σ H2 x y v u Q I2 rx ry q)
theorem opI {f:Value->Value->Sem Value} {C:Int->Int->Prop} {g:Int->Int->Int}
  (rule:∀(i j:Int) (t u:Tok) (s:Shared) (Q:Value->Shared->Prop) (E:Value->Shared->Prop),C i j->Q (.int (g i j) s.toks) { s with toks:=s.toks+1 }->wpAny (model X.prog X.w) X.A (f (.int i t) (.int j u)) Q E s) :
  OpR X f (rI C fun i j=>.int (g i j)):=by
 intro pins s σ H x y v u Q I rx ry h
 obtain⟨i,j,rfl,rfl,hc,q⟩:=h
 obtain⟨t,rfl⟩:=rx
 obtain⟨t',rfl⟩:=ry
 exact rule i j t t' s _ _ hc ⟨.int (g i j),H,I.tok _,⟨_,rfl⟩,q⟩
theorem opI0 {f:Value->Value->Sem Value} {g:Int->Int->Int}
  (rule:∀(i j:Int) (t u:Tok) (s:Shared) (Q:Value->Shared->Prop) (E:Value->Shared->Prop),Q (.int (g i j) s.toks) { s with toks:=s.toks+1 }->wpAny (model X.prog X.w) X.A (f (.int i t) (.int j u)) Q E s) :
  OpR X f (rI0 fun i j=>.int (g i j)):=by
 intro pins s σ H x y v u Q I rx ry h
 obtain⟨i,j,rfl,rfl,q⟩:=h
 obtain⟨t,rfl⟩:=rx
 obtain⟨t',rfl⟩:=ry
 exact rule i j t t' s _ _ ⟨.int (g i j),H,I.tok _,⟨_,rfl⟩,q⟩
theorem opB0 {f:Value->Value->Sem Value} {g:Int->Int->Bool}
  (rule:∀(i j:Int) (t u:Tok) (s:Shared) (Q:Value->Shared->Prop) (E:Value->Shared->Prop),Q (.bool (g i j)) s->wpAny (model X.prog X.w) X.A (f (.int i t) (.int j u)) Q E s) :
  OpR X f (rI0 fun i j=>.bl (g i j)):=by
 intro pins s σ H x y v u Q I rx ry h
 obtain⟨i,j,rfl,rfl,q⟩:=h
 obtain⟨t,rfl⟩:=rx
 obtain⟨t',rfl⟩:=ry
 exact rule i j t t' s _ _ ⟨.bl (g i j),H,I,rfl,q⟩
noncomputable def CPow (i j:Int):Prop:=0<=j/\j<=1000000/\i.natAbs<2^64
theorem z1M:OpR X (binaryOp .Add) (rI0 fun i j=>.int (i+j)):=opI0 fun _ _ _ _ _ _ _ q=>add_int q
theorem z2k:OpR X (binaryOp .Sub) (rI0 fun i j=>.int (i-j)):=opI0 fun _ _ _ _ _ _ _ q=>sub_int q
theorem z0f:OpR X (binaryOp .Mod) (rI (fun _ j=>0<j) fun i j=>.int (i%j)):=opI fun i j _ _ _ _ _ hc q=>by
 have h1:(0:Int)<j:=hc
 exact mod_int' (by omega) (by rw[Int.fmod_eq_emod_of_nonneg i (by omega)];exact q)
theorem y6T:OpR X (binaryOp .Pow) (rI CPow fun i j=>.int (i^j.toNat)):=opI fun _ _ _ _ _ _ _ hc q=>pow_int_small hc.1 hc.2.1 hc.2.2 q
end
noncomputable def scal:V->V->Bool
 | .non,.non=>true | .non,.int _=>true | .int _,.non=>true | .non,.bl _=>true | .bl _,.non=>true | .non,.str _=>true | .str _,.non=>true
 | .int _,.int _=>true | .bl _,.bl _=>true | .str _,.str _=>true | .byt _,.byt _=>true
 | .int _,.str _=>true | .str _,.int _=>true | .bl _,.str _=>true | .str _,.bl _=>true
 | _,_=>false
noncomputable def rEq:R2:=fun x y H Q=>scal x y=true/\Q (.bl (decide (x=y))) H
noncomputable def rNe:R2:=fun x y H Q=>scal x y=true/\Q (.bl (!decide (x=y))) H
theorem y4b {i j:Int}:decide (V.int i=V.int j)=(i == j):=by
 rw[Bool.eq_iff_iff]
 simp
theorem y6c {i j:Bool}:decide (V.bl i=V.bl j)=(i == j):=by
 rw[Bool.eq_iff_iff]
 simp
theorem y4a {i j:Str}:decide (V.str i=V.str j)=(i == j):=by
 rw[Bool.eq_iff_iff]
 simp
theorem y4c {i j:Array UInt8}:decide (V.byt i=V.byt j)=(i.toList == j.toList):=by
 rw[Bool.eq_iff_iff]
 cases i
 cases j
 simp
section
variable {X:Cx} {a b c:Expr} {ta tb tc:TE} {pos:Pos}
theorem z0g {pins:List (Addr×Obj)} {σ:St} {H:Hp} {s:Shared} {Q:VK} {k k':Bool} (I:Inv X pins σ H s) (q:Q (.bl k) H) (e:k=k'):EP X pins σ Q (.bool k') s:=by
 subst e
 exact⟨.bl k,H,I,rfl,q⟩
theorem op_eq:OpR X (compareOp .Eq) rEq:=by
 intro pins s σ H x y v u Q I rx ry h
 obtain⟨hs,q⟩:=h
 cases x with
 | non=>
  cases rx
  cases y with
  | non=>cases ry;exact PySem.EqNone.eq_none_none (z0g I q (by simp))
  | bl j=>cases ry;exact PySem.EqNone.eq_none_bool (z0g I q (by simp))
  | int j=>obtain⟨t',rfl⟩:=ry;exact PySem.EqNone.eq_none_int (z0g I q (by simp))
  | str j=>obtain⟨t',rfl⟩:=ry;exact PySem.EqNone.eq_none_str (z0g I q (by simp))
  | _=>exact absurd (show false=true from hs) Bool.false_ne_true
 | bl i=>
  cases rx
  cases y with
  | non=>cases ry;exact PySem.EqNone.eq_bool_none (z0g I q (by simp))
  | bl j=>cases ry;exact eq_bool (z0g I q y6c)
  | str j=>obtain⟨t',rfl⟩:=ry;exact PySem.EqMixed.eq_bool_str (z0g I q (by simp))
  | _=>exact absurd (show false=true from hs) Bool.false_ne_true
 | int i=>
  obtain⟨t,rfl⟩:=rx
  cases y with
  | non=>cases ry;exact PySem.EqNone.eq_int_none (z0g I q (by simp))
  | int j=>obtain⟨t',rfl⟩:=ry;exact eq_int (z0g I q y4b)
  | str j=>obtain⟨t',rfl⟩:=ry;exact PySem.EqMixed.eq_int_str (z0g I q (by simp))
  | _=>exact absurd (show false=true from hs) Bool.false_ne_true
 | str i=>
  obtain⟨t,rfl⟩:=rx
  cases y with
  | non=>cases ry;exact PySem.EqNone.eq_str_none (z0g I q (by simp))
  | bl j=>cases ry;exact PySem.EqMixed.eq_str_bool (z0g I q (by simp))
  | int j=>obtain⟨t',rfl⟩:=ry;exact PySem.EqMixed.eq_str_int (z0g I q (by simp))
  | str j=>obtain⟨t',rfl⟩:=ry;exact eq_str (z0g I q y4a)
  | _=>exact absurd (show false=true from hs) Bool.false_ne_true
 | byt i=>
  obtain⟨t,rfl⟩:=rx
  cases y with
  | byt j=>obtain⟨t',rfl⟩:=ry;exact PySem.W.eq_bytes (z0g I q y4c)
  | _=>exact absurd (show false=true from hs) Bool.false_ne_true
 | _=>cases y <;> exact absurd (show false=true from hs) Bool.false_ne_true
theorem op_ne:OpR X (compareOp .NotEq) rNe:=by
 intro pins s σ H x y v u Q I rx ry h
 obtain⟨hs,q⟩:=h
 cases x with
 | non=>
  cases rx
  cases y with
  | non=>cases ry;exact PySem.EqNone.ne_none_none (z0g I q (by simp))
  | bl j=>cases ry;exact PySem.EqNone.ne_none_bool (z0g I q (by simp))
  | int j=>obtain⟨t',rfl⟩:=ry;exact PySem.EqNone.ne_none_int (z0g I q (by simp))
  | str j=>obtain⟨t',rfl⟩:=ry;exact PySem.EqNone.ne_none_str (z0g I q (by simp))
  | _=>exact absurd (show false=true from hs) Bool.false_ne_true
 | bl i=>
  cases rx
  cases y with
  | non=>cases ry;exact PySem.EqNone.ne_bool_none (z0g I q (by simp))
  | bl j=>cases ry;exact ne_bool (z0g I q (congrArg not y6c))
  | str j=>obtain⟨t',rfl⟩:=ry;exact PySem.EqMixed.ne_bool_str (z0g I q (by simp))
  | _=>exact absurd (show false=true from hs) Bool.false_ne_true
 | int i=>
  obtain⟨t,rfl⟩:=rx
  cases y with
  | non=>cases ry;exact PySem.EqNone.ne_int_none (z0g I q (by simp))
  | int j=>obtain⟨t',rfl⟩:=ry;exact ne_int (z0g I q (congrArg not y4b))
  | str j=>obtain⟨t',rfl⟩:=ry;exact PySem.EqMixed.ne_int_str (z0g I q (by simp))
  | _=>exact absurd (show false=true from hs) Bool.false_ne_true
 | str i=>
  obtain⟨t,rfl⟩:=rx
  cases y with
  | non=>cases ry;exact PySem.EqNone.ne_str_none (z0g I q (by simp))
  | bl j=>cases ry;exact PySem.EqMixed.ne_str_bool (z0g I q (by simp))
  | int j=>obtain⟨t',rfl⟩:=ry;exact PySem.EqMixed.ne_str_int (z0g I q (by simp))
  | str j=>obtain⟨t',rfl⟩:=ry;exact ne_str (z0g I q (congrArg not y4a))
  | _=>exact absurd (show false=true from hs) Bool.false_ne_true
 | byt i=>
  obtain⟨t,rfl⟩:=rx
  cases y with
  | byt j=>obtain⟨t',rfl⟩:=ry;exact PySem.W.ne_bytes (z0g I q (congrArg not y4c))
  | _=>exact absurd (show false=true from hs) Bool.false_ne_true
 | _=>cases y <;> exact absurd (show false=true from hs) Bool.false_ne_true
theorem op_lt:OpR X (compareOp .Lt) (rI0 fun i j=>.bl (decide (i<j))):=opB0 fun _ _ _ _ _ _ _ q=>lt_int q
theorem op_le:OpR X (compareOp .LtE) (rI0 fun i j=>.bl (decide (i<=j))):=opB0 fun _ _ _ _ _ _ _ q=>le_int q
theorem op_gt:OpR X (compareOp .Gt) (rI0 fun i j=>.bl (decide (j<i))):=opB0 fun _ _ _ _ _ _ _ q=>gt_int q
theorem op_ge:OpR X (compareOp .GtE) (rI0 fun i j=>.bl (decide (j<=i))):=opB0 fun _ _ _ _ _ _ _ q=>ge_int q
theorem z5h:OpR X (compareOp .In) (fun x y H Q=>∃i j,x=.str i/\y=.str j/\Q (.bl (!(Builtin.Str.occurrences j i 0 j.length 1).isEmpty)) H):=by
 intro pins s σ H x y v u Q I rx ry h
 obtain⟨i,j,rfl,rfl,q⟩:=h
 obtain⟨t,rfl⟩:=rx
 obtain⟨t',rfl⟩:=ry
 exact in_str (z0g I q rfl)
theorem y6U:OpR X (compareOp .Is) (fun x y H Q=>y=.non/\Q (.bl (decide (x=.non))) H):=by
  intro pins s σ H x y v u Q I rx ry h
  obtain⟨rfl,q⟩:=h
  cases ry
  refine is_none_gen (z0g I q ?_)
  cases x <;> first
    | (cases rx;rfl)
    | (obtain⟨t,rfl⟩:=rx;rfl)
theorem y7L:OpR X (compareOp .IsNot) (fun x y H Q=>y=.non/\Q (.bl (!decide (x=.non))) H):=by
  intro pins s σ H x y v u Q I rx ry h
  obtain⟨rfl,q⟩:=h
  cases ry
  refine isnot_none_gen (z0g I q ?_)
  cases x <;> first
    | (cases rx;rfl)
    | (obtain⟨t,rfl⟩:=rx;rfl)
theorem z0T (b:Expr) {op:CmpOp} (h:op≠.In:=by decide) (h2:op≠.NotIn:=by decide):behindInMarks op b=false:=by
 have e1:(op == CmpOp.In)=false:=by cases op <;> first|rfl|exact absurd rfl h
 have e2:(op == CmpOp.NotIn)=false:=by cases op <;> first|rfl|exact absurd rfl h2
 cases b <;> simp [behindInMarks,e1,e2]
theorem z2h {op:CmpOp} {r:R2} (ho:OpR X (compareOp op) r) (ha:PE X a ta) (hb:PE X b tb) (hm:behindInMarks op b=false):PE X (.Compare a [op] [b] pos) (tOp r ta tb):=by
 intro pins s σ H Q I h
 exact wpAny_Compare1 (binT ha hb I h fun v u s2 x y H2 I2 rx ry q=>ho pins s2 σ H2 x y v u Q I2 rx ry q) hm
noncomputable def tTest (t:TE):TT:=fun σ H Q=>t σ H fun x H'=>∃k,x=.bl k/\Q k H'
theorem z0L {op:CmpOp} {r:R2} (ho:OpR X (compareOp op) r) (ha:PE X a ta) (hb:PE X b tb) (hm:behindInMarks op b=false):PT X (.Compare a [op] [b] pos) (tTest (tOp r ta tb)):=by
 intro pins s σ H Q I h
 refine wpAny_isTrue_Compare1 (thn (ha pins s σ H _ I h) fun v s1 ⟨x,H1,I1,r1,q1⟩=>thn (hb pins s1 σ H1 _ I1 q1) fun u s2 ⟨y,H2,I2,r2,q2⟩=>
  thn (ho pins s2 σ H2 x y v u _ I2 r1 r2 q2) fun c s3 ⟨z,H3,I3,r3,k,e,q3⟩=>?_) hm
 subst e
 cases r3
 exact wpAny_truthy_bool ⟨H3,I3,q3⟩
noncomputable def y2t (r r':R2) (ta tb tc:TE):TE:=fun σ H Q=>ta σ H fun x H1=>tb σ H1 fun y H2=>r x y H2 fun z H3=>∃k,z=.bl k/\
 (if k=true then tc σ H3 fun w' H4=>r' y w' H4 Q else Q (.bl false) H3)
theorem z4v {op op':CmpOp} {r r':R2} (ho:OpR X (compareOp op) r) (ho':OpR X (compareOp op') r') (ha:PE X a ta) (hb:PE X b tb) (hc:PE X c tc)
  (hm:lastMarks [op,op'] [b,c]=false:=by with_unfolding_all rfl):PE X (.Compare a [op,op'] [b,c] pos) (y2t r r' ta tb tc):=by
 intro pins s σ H Q I h
 refine Compare_chain (thn (ha pins s σ H _ I h) fun v s1 ⟨x,H1,I1,r1,q1⟩=>chain_link (thn (hb pins s1 σ H1 _ I1 q1) fun u s2 ⟨y,H2,I2,r2,q2⟩=>
  thn (ho pins s2 σ H2 x y v u _ I2 r1 r2 q2) fun d s3 ⟨z,H3,I3,r3,k,e,q3⟩=>?_)) hm
 subst e
 cases r3
 refine wpAny_truthy_bool ?_
 cases k with
 | false=>exact ite_ff ⟨.bl false,H3,I3,rfl,q3⟩
 | true=>exact ite_tt (chain_last (thn (hc pins s3 σ H3 _ I3 q3) fun w' s4 ⟨z',H4,I4,r4,q4⟩=>ho' pins s4 σ H4 y z' u w' Q I4 r2 r4 q4))
theorem y5O {op op':CmpOp} {r r':R2} (ho:OpR X (compareOp op) r) (ho':OpR X (compareOp op') r') (ha:PE X a ta) (hb:PE X b tb) (hc:PE X c tc)
  (hm:lastMarks [op,op'] [b,c]=false:=by with_unfolding_all rfl):PT X (.Compare a [op,op'] [b,c] pos) (tTest (y2t r r' ta tb tc)):=by
 intro pins s σ H Q I h
 refine isTrue_chain (thn (ha pins s σ H _ I h) fun v s1 ⟨x,H1,I1,r1,q1⟩=>test_link (thn (hb pins s1 σ H1 _ I1 q1) fun u s2 ⟨y,H2,I2,r2,q2⟩=>
  thn (ho pins s2 σ H2 x y v u _ I2 r1 r2 q2) fun d s3 ⟨z,H3,I3,r3,k,e,q3⟩=>?_)) hm
 subst e
 cases r3
 refine wpAny_truthy_bool ?_
 cases k with
 | false=>
  obtain⟨k',e',q'⟩:=q3
  cases e'
  exact ite_ff ⟨H3,I3,q'⟩
 | true=>
  refine ite_tt (test_last (thn (hc pins s3 σ H3 _ I3 q3) fun w' s4 ⟨z',H4,I4,r4,q4⟩=>thn (ho' pins s4 σ H4 y z' u w' _ I4 r2 r4 q4) fun d' s5 ⟨z2,H5,I5,r5,k2,e2,q5⟩=>?_))
  subst e2
  cases r5
  exact wpAny_truthy_bool ⟨H5,I5,q5⟩
theorem z6n:(sizeLine:Nat)<2^63:=by rw[sizeLine_eq];decide
theorem z3L:OpR X (binaryOp .Add) (fun x y H Q=>∃i j,x=.str i/\y=.str j/\i.length+j.length<=sizeLine/\Q (.str (i++j)) H):=by
 intro pins s σ H x y v u Q I rx ry h
 obtain⟨i,j,rfl,rfl,hz,q⟩:=h
 obtain⟨t,rfl⟩:=rx
 obtain⟨t',rfl⟩:=ry
 exact add_str (fun t' tk=>⟨.str (i++j),H,I.tok _,⟨_,rfl⟩,q⟩) hz
theorem vals1 {x:V} {us:List Value} (r:Vals [x] us):∃u,us=[u]/\RelV x u:=by
 cases r with
 | cons r1 r2=>cases r2;exact⟨_,rfl,r1⟩
theorem vals2 {x y:V} {us:List Value} (r:Vals [x,y] us):∃u w',us=[u,w']/\RelV x u/\RelV y w':=by
 cases r with
 | cons r1 r2=>
  cases r2 with
  | cons r3 r4=>cases r4;exact⟨_,_,rfl,r1,r3⟩
theorem y4r (hc:X.calm=true):CallR X (.builtin "min") (fun xs H Q=>∃i j,xs=[.int i,.int j]/\Q (.int (if j<i then j else i)) H):=by
 intro pins s σ H xs us Q I r h
 obtain⟨i,j,rfl,q⟩:=h
 obtain⟨u,w',rfl,⟨t,rfl⟩,⟨t',rfl⟩⟩:=vals2 r
 refine min_two_ints (I.ok.hd hc) fun h' tk k=>⟨_,H,I.kept k,?_,q⟩
 by_cases hj:j<i
 ·rw[if_pos hj,if_pos hj];exact⟨_,rfl⟩
 ·rw[if_neg hj,if_neg hj];exact⟨_,rfl⟩
theorem z4k:CallR X (.type "str") (fun xs H Q=>∃i,xs=[.int i]/\i.natAbs.log2<1920/\Q (.str (toString i)) H):=by
 intro pins s σ H xs us Q I r h
 obtain⟨i,rfl,hz,q⟩:=h
 obtain⟨u,rfl,t,rfl⟩:=vals1 r
 exact PySem.P.str_of_int hz ⟨.str _,H,I.tok _,⟨_,rfl⟩,q⟩
end
end L2
namespace L2
open PySem PySem.Spec PyProof.Rows
structure ObjM (h:Heap) (x dx C:Addr) (mA:Str->Option Value):Prop where
 obj:h.get? x=some (PySem.W.instObj C dx)
 ns:h.Ns1 dx mA
 ne:dx≠x
theorem y3m {h:Heap} {dx:Addr} {mA:Str->Option Value} (n:h.Ns1 dx mA):∃od,h.get? dx=some od/\∀name,PySem.W.lookIn name od=some (mA name):=by
 obtain⟨o,es,ep,ho,hd,hk,_,hm⟩:=n
 refine⟨o,ho,fun name=>?_⟩
 have e:=hm name
 unfold nsFind findBy at e
 rw[←Array.find?_toList] at e
 unfold PySem.W.lookIn
 rw[hd]
 dsimp only
 split
 ·rename_i y q
  rw[q] at e
  exact congrArg some e
 ·rename_i q
  rw[q] at e
  have a:es.toList.any (·.refKey)=false:=by
   rw[List.any_eq_false]
   intro y hy
   obtain⟨z,t,hkey⟩:=hk y (Array.mem_toList_iff.mp hy)
   simp [DictEntry.refKey,hkey]
  have a':¬es.toList.any (·.refKey)=true:=by rw[a];exact Bool.false_ne_true
  rw[if_neg a']
  exact congrArg some e
theorem ObjM.look {h:Heap} {x dx C:Addr} {mA:Str->Option Value} (I:ObjM h x dx C mA):∃od,PySem.W.InstAt h x (PySem.W.instObj C dx) C (some od)/\∀name,PySem.W.lookIn name od=some (mA name):=
 let ⟨od,ho,hl⟩:=y3m I.ns
 ⟨od,⟨I.obj,rfl,rfl,ho⟩,hl⟩
section
variable {prog:Program} {w:World} {A:Around} {E:Value->Shared->Prop} {s:Shared} {K:PySem.W.Frag} {x dx C f:Addr} {mA:Str->Option Value} {name:Str} {v:Value}
theorem y7Y {expr:Bool} {Q:Value->Shared->Prop} (X:K.In s.heap) (I:ObjM s.heap x dx C mA) (hg:PySem.W.plainGet K C name=true) (hh:PySem.W.hasDictIn K C=true)
  (ha:PySem.W.findIn K (.ref C) name=some none) (hv:mA name=some v) (hv':PySem.W.handedIn v=true) (h:Q v { s with toks:=s.toks+1 }) :
  wpAny (model prog w) A (getAttr (.ref x) name expr) Q E s:=by
 obtain⟨od,J,hl⟩:=I.look
 exact PySem.W.get_value X J (PySem.W.plainGet_of hg).1 (PySem.W.findObj_own hh ha rfl (by rw[hl,hv])) hv' h
theorem y5x {pl:Sem Bool} {Q:Value×List Value->Shared->Prop} (X:K.In s.heap) (I:ObjM s.heap x dx C mA) (hg:PySem.W.plainGet K C name=true)
  (hf:PySem.W.findIn K (.ref C) name=some (some (.ref f))) (ht:PySem.W.isFn K (.ref f)=true) (hv:mA name=none) (h:Q (.ref f,[.ref x]) s) :
  wpAny (model prog w) A (getMethod (.ref x) name pl) Q E s:=by
 obtain⟨od,J,hl⟩:=I.look
 exact PySem.W.method_fn X J (PySem.W.plainGet_of hg).1 (PySem.W.plainGet_of hg).2 hf (beq_iff_eq.mp ht) (by show (PySem.W.lookIn name od).map (·.isSome)=some false;rw[hl,hv];rfl) h
theorem y6u {ns:List Str} {Q:Unit->Shared->Prop} (X:K.In s.heap) (I:ObjM s.heap x dx C mA)
  (hs:PySem.W.findIn K (.ref C) "__setattr__" = some (some (.builtin "object.__setattr__"))) (hp:PySem.W.plainOver K C=true) (ht:PySem.W.takerIn K C name=some none) (hh:PySem.W.hasDictIn K C=true)
  (hw:PySem.Within mA ns) (hsz:ns.length<=sizeLine)
  (h:∀h',ObjM h' x dx C (fun y=>if y=name then some v else mA y)->Heap.SameBut dx s.heap h'->Q () { s with heap:=h',toks:=s.toks+2 }) :
  wpAny (model prog w) A (setAttr (.ref x) name v) Q E s:=by
 obtain⟨od,J,hl⟩:=I.look
 refine PySem.W.set_plain X J hs (PySem.W.osa_open (s:={ s with toks:=s.toks+1 }) (r:=none) X J hp ht fun b=>?_)
 obtain⟨cd,hc,hd'⟩:=PySem.W.any_some hh
 have hx:s.heap.get? x=some ⟨.ref C,some dx,.plain,#[]⟩:=I.obj
 refine wpAny_bind (wpAny_pure (wpAny_bind (wpAny_bind (wpAny_loadPart hx (wpAny_bind (PySem.W.Looks.here (s:={ s with toks:=s.toks+1 }) (PySem.W.looks_clsIn X hc) ?_))))))
 rw[hd']
 refine wpAny_pure (a:=some dx) (wpAny_bind (wpAny_pure (wpAny_bind ?_)))
 refine wpAny_nsSet1 (s:={ s with toks:=s.toks+1 }) I.ns fun h' hn2 hs2=>?_
 obtain⟨oD,esD,epD,hoD,hdD,hcD⟩:=hn2.count (PySem.Within.cons name v hw)
 refine wpAny_bind (wpAny_lookBehind hoD (by rw[hdD];exact pastItsLine_dict (Nat.le_trans hcD (by rw[List.length_cons];omega))) ?_)
 exact wpAny_pure (h _ ⟨(hs2.2 _ (Ne.symm I.ne)).trans I.obj,hn2,I.ne⟩ hs2)
theorem y5j {R:Result->Shared->Prop} {vs:List Value} {kw:List (Str×Value)} (X:K.In s.heap) (hm:PySem.W.makesIn K C=true)
  (hi:PySem.W.findIn K (.ref C) "__init__" = some (some (.ref f))) (hf:PySem.W.typeIn K (.ref f)=some (.type "function"))
  (h:codeAny (model prog w) (A.under (.builtin "type.__call__" ⟨.ref C::vs,kw⟩)) (.call (.ref f) ⟨.ref (s.heap.objs.size+1)::vs,kw⟩) (PySem.W.InitBack (s.heap.objs.size+1) R)
   { s with heap:=(s.heap.push PySem.W.emptyDict).push (PySem.W.instObj C s.heap.objs.size) }) :
  codeAny (model prog w) A (.call (.ref C) ⟨vs,kw⟩) R s:=by
 obtain⟨hh,g,d,t,os⟩:=s
 exact PySem.W.make_core (PySem.W.makes_of X hm) (PySem.W.looks_findIn X hi) (fun self=>PySem.W.bind_fn X self hf) (.inl rfl) h
end
noncomputable def putF (f:Str) (v:V):List (Str×V)->List (Str×V)
  | []=>[(f,v)]
  | (g,x)::r=>if g=f then (g,v)::r else (g,x)::putF f v r
theorem z5k (f g:Str) (v:V):∀fs:List (Str×V),(putF f v fs).lookup g=if g=f then some v else fs.lookup g
  | []=>by
    show List.lookup g [(f,v)]=_
    by_cases h:g=f
    · have hb:(g == f)=true:=beq_iff_eq.mpr h
      simp only [List.lookup,hb,if_pos h]
    · have hb:(g == f)=false:=beq_eq_false_iff_ne.mpr h
      simp only [List.lookup,hb,if_neg h]
  | (k,x)::r=>by
    have ih:=z5k f g v r
    rw[show putF f v ((k,x)::r)=(if k=f then (k,v)::r else (k,x)::putF f v r) from rfl]
    by_cases hk:k=f
    · rw[if_pos hk]
      by_cases h:g=k
      · have hb:(g == k)=true:=beq_iff_eq.mpr h
        simp only [List.lookup,hb,if_pos (h.trans hk)]
      · have hb:(g == k)=false:=beq_eq_false_iff_ne.mpr h
        simp only [List.lookup,hb,if_neg (fun e:g=f=>h (e.trans hk.symm))]
    · rw[if_neg hk]
      by_cases h:g=k
      · have hb:(g == k)=true:=beq_iff_eq.mpr h
        simp only [List.lookup,hb,if_neg (fun e:g=f=>hk (h.symm.trans e))]
      · have hb:(g == k)=false:=beq_eq_false_iff_ne.mpr h
        simp only [List.lookup,hb]
        exact ih
theorem z5m (f:Str) (v:V):∀fs:List (Str×V),f∈(putF f v fs).map (·.1)/\∀g,g∈fs.map (·.1)->g∈(putF f v fs).map (·.1)
  | []=>⟨by simp [putF],fun g h=>by simp at h⟩
  | (k,x)::r=>by
    obtain⟨i1,i2⟩:=z5m f v r
    rw[show putF f v ((k,x)::r)=(if k=f then (k,v)::r else (k,x)::putF f v r) from rfl]
    by_cases hk:k=f
    · rw[if_pos hk]
      subst hk
      exact⟨by simp,fun g h=>by simpa using h⟩
    · rw[if_neg hk]
      refine⟨?_,fun g h=>?_⟩
      · rw[List.map_cons]
        exact List.mem_cons_of_mem _ i1
      · rw[List.map_cons] at h ⊢
        rcases List.mem_cons.mp h with e|e
        · exact List.mem_cons.mpr (.inl e)
        · exact List.mem_cons_of_mem _ (i2 g e)
theorem z5l (f:Str) (v:V):∀fs:List (Str×V),(putF f v fs).length<=fs.length+1
  | []=>by simp [putF]
  | (k,x)::r=>by
    have ih:=z5l f v r
    rw[show putF f v ((k,x)::r)=(if k=f then (k,v)::r else (k,x)::putF f v r) from rfl]
    by_cases hk:k=f
    · rw[if_pos hk,List.length_cons,List.length_cons];omega
    · rw[if_neg hk,List.length_cons,List.length_cons];omega
theorem RelO.some_of {v:V} {o:Option Value} (r:RelO (some v) o):∃u,o=some u/\RelV v u:=by
 cases o with
 | none=>exact (show False from r).elim
 | some u=>exact⟨u,rfl,r⟩
theorem RelO.none_of {o:Option Value} (r:RelO none o):o=none:=by
 cases o with
 | none=>rfl
 | some u=>exact (show False from r).elim
theorem y4G {v:V} {u:Value} (r:RelV v u):PySem.W.handedIn u=true:=by
 cases v with
 | non=>cases (show u=Value.none from r);rfl
 | bl b=>cases (show u=Value.bool b from r);rfl
 | int i=>obtain⟨t,e⟩:=(show ∃t,u=Value.int i t from r);cases e;rfl
 | str x=>obtain⟨t,e⟩:=(show ∃t,u=Value.str x t from r);cases e;rfl
 | byt b=>obtain⟨t,e⟩:=(show ∃t,u=Value.bytes b t from r);cases e;rfl
 | flt b=>obtain⟨t,e⟩:=(show ∃t,u=Value.float b t from r);cases e;rfl
 | ref a=>cases (show u=Value.ref a from r);rfl
 | ty n=>cases (show u=Value.type n from r);rfl
section
variable {P:Program} {w:World} {H H':Hp} {h h':Heap} {a C dx:Addr} {fs fs':List (Str×V)}
theorem z7e (hok:HOk P w H h) (e:H a=some (.ins C dx fs)):∃mA,ObjM h a dx C mA/\(∀f,RelO (fs.lookup f) (mA f))/\PySem.Within mA (fs.map (·.1))/\fs.length<=1000/\H dx=some (.own a):=by
 obtain⟨d,z,ne,ob,mA,n,r,q⟩:=(show ObjOk P w H h a (.ins C dx fs) from hok a _ e)
 exact⟨mA,⟨ob,n,ne⟩,r,q,z,d⟩
end
structure Cls (K:PySem.W.Frag) (C:Addr):Prop where
 pg:PySem.W.plainGet K C Str.empty=true
 hd:PySem.W.hasDictIn K C=true
 po:PySem.W.plainOver K C=true
 sa:PySem.W.findIn K (.ref C) "__setattr__" = some (some (.builtin "object.__setattr__"))
theorem Cls.get {K:PySem.W.Frag} {C:Addr} (c:Cls K C) (f:Str):PySem.W.plainGet K C f=true:=c.pg
noncomputable def NoAttr (K:PySem.W.Frag) (C:Addr) (f:Str):Prop:=PySem.W.findIn K (.ref C) f=some none
theorem NoAttr.taker {K:PySem.W.Frag} {C:Addr} {f:Str} (n:NoAttr K C f):PySem.W.takerIn K C f=some none:=by
 unfold PySem.W.takerIn
 rw[show PySem.W.findIn K (.ref C) f=some none from n]
 rfl
structure Meth (K:PySem.W.Frag) (C:Addr) (m:Str) (f:Addr):Prop where
 at_:PySem.W.findIn K (.ref C) m=some (some (.ref f))
 fn:PySem.W.isFn K (.ref f)=true
 kp:PySem.W.keepIn K (.ref f)=true
section
variable {X:Cx} {pins:List (Addr×Obj)} {σ:St} {H:Hp} {s:Shared} {a C dx:Addr} {fs:List (Str×V)} {f:Str} {v:V} {A:Around} {E:Value->Shared->Prop}
theorem z6s {b:Bool} {Q:Value->Shared->Prop} (I:Inv X pins σ H s) (e:H a=some (.ins C dx fs)) (c:Cls X.K C) (n:NoAttr X.K C f) (l:fs.lookup f=some v)
  (h:∀u s',Inv X pins σ H s'->RelV v u->Q u s'):wpAny (model X.prog X.w) A (getAttr (.ref a) f b) Q E s:=by
 obtain⟨mA,O,r,_,_,_⟩:=z7e I.hok e
 obtain⟨u,hu,ru⟩:=RelO.some_of (v:=v) (o:=mA f) (by rw[←l];exact r f)
 exact y7Y I.kIn O (c.get f) c.hd n hu (y4G ru) (h u _ (I.tok _) ru)
theorem z6r {m:Str} {g:Addr} {pl:Sem Bool} {Q:Value×List Value->Shared->Prop} (I:Inv X pins σ H s) (e:H a=some (.ins C dx fs)) (c:Cls X.K C) (k:Meth X.K C m g) (l:fs.lookup m=none)
  (h:Q (.ref g,[.ref a]) s):wpAny (model X.prog X.w) A (getMethod (.ref a) m pl) Q E s:=by
 obtain⟨mA,O,r,_,_,_⟩:=z7e I.hok e
 have hn:mA m=none:=RelO.none_of (by rw[←l];exact r m)
 exact y5x I.kIn O (c.get m) k.at_ k.fn hn h
theorem z6b {y:V} {u:Value} {Q:Unit->Shared->Prop} (I:Inv X pins σ H s) (e:H a=some (.ins C dx fs)) (c:Cls X.K C) (n:NoAttr X.K C f) (hl:fs.length<1000) (ry:RelV y u)
  (h:∀s',Inv X pins σ (upd H a (.ins C dx (putF f y fs))) s'->Q () s'):wpAny (model X.prog X.w) A (setAttr (.ref a) f u) Q E s:=by
 obtain⟨mA,O,r,wi,_,ho⟩:=z7e I.hok e
 have hz:(fs.map (·.1)).length<=sizeLine:=by rw[List.length_map,sizeLine_eq];omega
 refine y6u I.kIn O c.sa c.po n.taker c.hd wi hz fun h' O' sb=>h _ ?_
 have hd:∃o,h'.get? dx=some o:=let ⟨o,_,_,e',_⟩:=O'.ns;⟨o,e'⟩
 refine I.write (x:=a) (e:=dx) (by rw[e];exact True.intro) (.inr ho) (fun b q hb z=>(sb.2 b hb).trans z) hd ?_
 refine⟨by rw[z0U O.ne];exact ho,?_,O.ne,O'.obj,_,O'.ns,fun g=>?_,fun g hg=>?_⟩
 ·have:=z5l f y fs;omega
 ·show RelO ((putF f y fs).lookup g) (if g=f then some u else mA g)
  rw[z5k]
  by_cases q:g=f
  ·rw[if_pos q,if_pos q];exact ry
  ·rw[if_neg q,if_neg q];exact r g
 ·by_cases q:g=f
  ·rw[q];exact (z5m f y fs).1
  ·refine (z5m f y fs).2 g (wi g fun z=>hg ?_)
   show (if g=f then some u else mA g)=none
   rw[if_neg q];exact z
theorem Inv.made (I:Inv X pins σ H s):Inv X pins σ (upd (upd H s.heap.objs.size (.own (s.heap.objs.size+1))) (s.heap.objs.size+1) (.ins C s.heap.objs.size []))
  { s with heap:=(s.heap.push PySem.W.emptyDict).push (PySem.W.instObj C s.heap.objs.size) }:=by
 have e1:(s.heap.push PySem.W.emptyDict).get? s.heap.objs.size=some PySem.W.emptyDict:=Heap.get?_push_size s.heap rfl
 have e2:((s.heap.push PySem.W.emptyDict).push (PySem.W.instObj C s.heap.objs.size)).get? (s.heap.objs.size+1)=some (PySem.W.instObj C s.heap.objs.size):=by
  have:=Heap.get?_push_size (s.heap.push PySem.W.emptyDict) (o:=PySem.W.instObj C s.heap.objs.size) rfl
  rwa [Heap.size_push] at this
 have e3:(s.heap.push PySem.W.emptyDict).Ns s.heap.objs.size (fun _=>none):=⟨PySem.W.emptyDict,#[],_,e1,rfl,(fun e he=>absurd he (by simp)),fun _=>rfl⟩
 have I1:=I.laid (a:=s.heap.objs.size) (o:=.own (s.heap.objs.size+1)) (h':=s.heap.push PySem.W.emptyDict) (t':=s.toks) (fun b u q=>Heap.get?_push_of_some _ q) (Nat.le_refl _) ⟨_,e1⟩
 refine I1.laid (a:=s.heap.objs.size+1) (o:=.ins C s.heap.objs.size []) (t':=s.toks) (fun b u q=>Heap.get?_push_of_some _ q) (Nat.le_of_eq (Heap.size_push _ _)) ?_
 have ne:s.heap.objs.size≠s.heap.objs.size+1:=Nat.ne_of_lt (Nat.lt_succ_self _)
 refine⟨by rw[z0U ne,z0F],Nat.zero_le _,ne,e2,fun _=>none,(Heap.Ns1.of_empty e3).at fun o q=>Heap.get?_push_of_some _ q,fun _=>True.intro,fun y hy=>absurd rfl hy⟩
theorem y7k {prog:Program} {w:World} {env:Env} {e:Expr} {f:Str} {pos:Pos} {s:Shared} {Q:Value->Shared->Prop} (hb:attributeBase e f env (eval e env)=eval e env)
  (h:wpAny (model prog w) A (eval e env) (fun o s₁=>wpAny (model prog w) A (getAttr o f true) Q E s₁) E s):wpAny (model prog w) A (eval (.Attribute e f pos) env) Q E s:=
 Attribute_any_ h (by rw[arm_eval_Attribute,hb])
end
noncomputable def tFld (K:PySem.W.Frag) (ta:TE) (f:Str):TE:=fun σ H Q=>ta σ H fun x H1=>∃a C dx fs v,x=.ref a/\H1 a=some (.ins C dx fs)/\Cls K C/\NoAttr K C f/\fs.lookup f=some v/\Q v H1
noncomputable def sFld (K:PySem.W.Frag) (ta tv:TE) (f:Str):TS:=fun D σ H=>tv σ H fun y H1=>ta σ H1 fun x H2=>∃a C dx fs,x=.ref a/\H2 a=some (.ins C dx fs)/\Cls K C/\NoAttr K C f/\fs.length<1000/\
 D.nx σ (upd H2 a (.ins C dx (putF f y fs)))
noncomputable def InOp (X:Cx) (op:Operator) (rd:V->V->Hp->VK->Prop):Prop:=
 ∀(pins:List (Addr×Obj)) (s:Shared) (σ:St) (H:Hp) (x y:V) (u v:Value) (Q:VK),Inv X pins σ H s->RelV x u->RelV y v->rd x y H Q->wpAny (model X.prog X.w) X.A (inplaceOp op u v) (EP X pins σ Q) X.xe s
noncomputable def y3M (K:PySem.W.Frag) (ta tv:TE) (rd:V->V->Hp->VK->Prop) (f:Str):TS:=fun D σ H=>ta σ H fun x H1=>∃a C dx fs v,x=.ref a/\H1 a=some (.ins C dx fs)/\Cls K C/\NoAttr K C f/\fs.lookup f=some v/\
 tv σ H1 fun y H2=>rd v y H2 fun z H3=>∃dx' fs',H3 a=some (.ins C dx' fs')/\fs'.length<1000/\D.nx σ (upd H3 a (.ins C dx' (putF f z fs')))
section
variable {X:Cx} {o e value:Expr} {f:Str} {pos pos' tpos:Pos} {ta tv:TE}
theorem z2O (he:PE X e ta) (hb:attributeBase e f X.env (eval e X.env)=eval e X.env):PE X (.Attribute e f pos) (tFld X.K ta f):=by
 intro pins s σ H Q I h
 refine y7k hb (thn (he pins s σ H _ I h) fun u s1 ⟨x,H1,I1,rx,a,C,dx,fs,v,ex,ea,c,n,l,q⟩=>?_)
 subst ex
 obtain rfl:u=Value.ref a:=rx
 exact z6s I1 ea c n l fun u' s2 I2 ru=>⟨v,H1,I2,ru,q⟩
theorem y3V (ha:PE X o ta) (hv:PE X value tv) (hs:swapsWith value (some (.Attribute o f pos')) pos.line X.env=pure false):PS X (.Assign [.Attribute o f pos'] value pos) (sFld X.K ta tv f):=by
 intro pins s σ H D I h
 refine plainObj_wpAny_Assign_Attribute (thn (hv pins s σ H _ I h) fun u s1 ⟨y,H1,I1,ry,q⟩=>thn (ha pins s1 σ H1 _ I1 q) fun ov s2 ⟨x,H2,I2,rx,a,C,dx,fs,ex,ea,c,n,l,q2⟩=>?_) hs
 subst ex
 obtain rfl:ov=Value.ref a:=rx
 exact z6b I2 ea c n l ry fun s3 I3=>⟨σ,_,I3,q2⟩
theorem z8w {op:Operator} {rd:V->V->Hp->VK->Prop} (ha:PE X o ta) (hv:PE X value tv) (hop:InOp X op rd):PS X (.AugAssign (.Attribute o f tpos) op value pos) (y3M X.K ta tv rd f):=by
 intro pins s σ H D I h
 refine wpAny_AugAssign_AttributeAny (thn (ha pins s σ H _ I h) fun ov s1 ⟨x,H1,I1,rx,a,C,dx,fs,v,ex,ea,c,n,l,q⟩=>?_)
 subst ex
 obtain rfl:ov=Value.ref a:=rx
 refine z6s I1 ea c n l fun u s2 I2 ru=>thn (hv pins s2 σ H1 _ I2 q) fun w3 s3 ⟨y,H2,I3,ry,q3⟩=>thn (hop pins s3 σ H2 v y u w3 _ I3 ru ry q3) fun w4 s4 ⟨z,H3,I4,rz,dx',fs',ea',l',q4⟩=>?_
 exact z6b I4 ea' c n l' rz fun s5 I5=>⟨σ,_,I5,q4⟩
noncomputable def rAdd:V->V->Hp->VK->Prop:=fun x y H Q=>∃i j,x=.int i/\y=.int j/\Q (.int (i+j)) H
theorem y6Y:InOp X .Add rAdd:=by
 rintro pins s σ H x y u v Q I rx ry ⟨i,j,rfl,rfl,q⟩
 obtain⟨t,rfl⟩:=(show ∃t,u=Value.int i t from rx)
 obtain⟨t',rfl⟩:=(show ∃t',v=Value.int j t' from ry)
 exact PyProof.Rows.iadd_int ⟨.int (i+j),H,I.tok _,⟨_,rfl⟩,q⟩
end
section
variable {X:Cx} {pins:List (Addr×Obj)} {σ:St} {H:Hp} {s:Shared} {A:Around} {E:Value->Shared->Prop} {Q:Value->Shared->Prop} {c:Value} {b:Bool}
inductive TyOf (K:PySem.W.Frag) (H:Hp):V->Value->Prop where
 | non:TyOf K H .non (.type "NoneType")
 | bl (x:Bool):TyOf K H (.bl x) (.type "bool")
 | int (i:Int):TyOf K H (.int i) (.type "int")
 | str (x:Str):TyOf K H (.str x) (.type "str")
 | flt (x:UInt64):TyOf K H (.flt x) (.type "float")
 | lst {a:Addr} {xs:List V} (e:H a=some (.lst xs)):TyOf K H (.ref a) (.type "list")
 | frz {a:Addr} {o:Obj} {xs:List V} (e:H a=some (.frz o (.lst xs))):TyOf K H (.ref a) (.type "list")
 | tup {a:Addr} {xs:List V} (e:H a=some (.tup xs)):TyOf K H (.ref a) (.type "tuple")
 | dK {a:Addr} {kvs:List (Key×V)} (e:H a=some (.dK kvs)):TyOf K H (.ref a) (.type "dict")
 | dT {a:Addr} {kvs:List (List Key×V)} (e:H a=some (.dT kvs)):TyOf K H (.ref a) (.type "dict")
 | ins {a C dx:Addr} {fs:List (Str×V)} (e:H a=some (.ins C dx fs)) (cl:Cls K C) (ha:PySem.W.findIn K (.ref C) "__class__" = some (some (.builtin "object.__class__")))
   (hn:PySem.W.specialIn K (.builtin "object.__class__") "__get__" = some (some (.builtin "getset_descriptor.__get__"))) (htk:PySem.W.takesIn K (.builtin "object.__class__")=some true)
   (hm:PySem.W.mroIn K C (.type "object")=some true):TyOf K H (.ref a) (.ref C)
theorem y3t {x:V} {u t:Value} (I:Inv X pins σ H s) (rx:RelV x u) (ty:TyOf X.K H x t) (e:PySem.W.kitOne X.K t c=some b) (h:∀tk,Q (.bool b) { s with toks:=tk }) :
  wpAny (model X.prog X.w) A (call (.builtin "isinstance") [u,c]) Q E s:=by
 cases ty with
 | non=>cases (show u=Value.none from rx);exact PySem.W.kia_one PySem.W.kitx_none I.kIn True.intro e (fun z=>nomatch z) h
 | bl y=>cases (show u=Value.bool y from rx);exact PySem.W.kia_one PySem.W.kitx_bool I.kIn True.intro e (fun z=>nomatch z) h
 | int i=>obtain⟨t,q⟩:=(show ∃t,u=Value.int i t from rx);cases q;exact PySem.W.kia_one PySem.W.kitx_int I.kIn True.intro e (fun z=>nomatch z) h
 | str y=>obtain⟨t,q⟩:=(show ∃t,u=Value.str y t from rx);cases q;exact PySem.W.kia_one PySem.W.kitx_str I.kIn True.intro e (fun z=>nomatch z) h
 | flt y=>obtain⟨t,q⟩:=(show ∃t,u=Value.float y t from rx);cases q;exact PySem.W.kia_one PySem.W.kitx_float I.kIn True.intro e (fun z=>nomatch z) h
 | @lst a xs ea=>
  cases (show u=Value.ref a from rx)
  obtain⟨_,_,n,_,h1⟩:=(show ObjOk X.prog X.w H s.heap a (.lst xs) from I.hok a _ ea)
  exact PySem.W.kia_one PySem.W.kitx_list I.kIn ⟨_,h1,rfl⟩ e (fun z=>nomatch z) h
 | @frz a ob xs ea=>
  cases (show u=Value.ref a from rx)
  obtain⟨_,_,_,n,_,h1⟩:=(show ObjOk X.prog X.w H s.heap a (.frz ob (.lst xs)) from I.hok a _ ea)
  exact PySem.W.kia_one PySem.W.kitx_list I.kIn ⟨_,h1,rfl⟩ e (fun z=>nomatch z) h
 | @tup a xs ea=>
  cases (show u=Value.ref a from rx)
  obtain⟨_,_,_,p⟩:=(show ObjOk X.prog X.w H s.heap a (.tup xs) from I.hok a _ ea)
  obtain⟨o,h1,h2,_⟩:=p
  exact PySem.W.kia_one PySem.W.kitx_tuple I.kIn ⟨o,h1,h2⟩ e (fun z=>nomatch z) h
 | @dK a kvs ea=>
  cases (show u=Value.ref a from rx)
  obtain⟨_,_,vs,_,p⟩:=(show ObjOk X.prog X.w H s.heap a (.dK kvs) from I.hok a _ ea)
  obtain⟨o,es,ep,h1,h2,_⟩:=p
  exact PySem.W.kia_one PySem.W.kitx_dict I.kIn ⟨o,h1,h2.1⟩ e (fun z=>nomatch z) h
 | @dT a kvs ea=>
  cases (show u=Value.ref a from rx)
  obtain⟨_,_,xs,_,o,es,ep,h1,h2,_⟩:=(show ObjOk X.prog X.w H s.heap a (.dT kvs) from I.hok a _ ea)
  exact PySem.W.kia_one PySem.W.kitx_dict I.kIn ⟨o,h1,h2.1⟩ e (fun z=>nomatch z) h
 | @ins a C dx fs ea cl ha hn htk hm=>
  cases (show u=Value.ref a from rx)
  obtain⟨mA,O,_⟩:=z7e I.hok ea
  obtain⟨od,J,_⟩:=O.look
  exact PySem.W.kia_one (PySem.W.kitx_own (cl.get _) cl.hd ha hn htk hm) I.kIn J e (fun z=>nomatch z) h
end
end L2
namespace L2
open PySem PySem.Spec PyProof.Rows
structure Room (k:Nat) (A:Around):Prop where
 hd:A.handled=none
 dp:A.depth+3*k+5<recursionLimit
 un:A.units+16*k+200<cLine
theorem Room.mono {j k:Nat} {A:Around} (r:Room k A) (h:j<=k):Room j A:=⟨r.hd,by have:=r.dp;omega,by have:=r.un;omega⟩
theorem Room.deeper {k:Nat} {A:Around} (r:Room (k+1) A) (env:Env):Room k (A.deeper env):=
 ⟨r.hd,by have:=r.dp;show A.depth+1+3*k+5<_;omega,by have:=r.un;show A.units+3+16*k+200<_;omega⟩
theorem y2N {A:Around} {C:Addr} {us:List Value} {kw:List (Str×Value)}:(A.under (.builtin "type.__call__" ⟨.ref C::us,kw⟩)).depth=A.depth+1:=by
 first|rfl|simp [Around.under,Code.weight,Code.isCreation,Code.isGuard,Code.isCaller,Code.frames,Code.isFrame,guardIds]
theorem y2M {A:Around} {C:Addr} {us:List Value} {kw:List (Str×Value)}:(A.under (.builtin "type.__call__" ⟨.ref C::us,kw⟩)).units=A.units+1:=by
 first|rfl|simp [Around.under,Code.cUnits,Code.frames,Code.isFrame]
theorem Room.make {k:Nat} {A:Around} (r:Room (k+1) A) (C:Addr) (us:List Value) (kw:List (Str×Value)):Room k (A.under (.builtin "type.__call__" ⟨.ref C::us,kw⟩)):=
 ⟨r.hd,by have:=r.dp;rw[y2N];omega,by have:=r.un;rw[y2M];omega⟩
theorem Room.depth {k:Nat} {A:Around} (r:Room k A):A.depth<recursionLimit:=by have:=r.dp;omega
theorem Room.units {k:Nat} {A:Around} (r:Room k A):A.units+64<cLine:=by have:=r.un;omega
noncomputable def tNil:TA:=fun _ H Q=>Q [] H
noncomputable def tCons (ta:TE) (tr:TA):TA:=fun σ H Q=>ta σ H fun x H1=>tr σ H1 fun xs H2=>Q (x::xs) H2
section
variable {X:Cx} {e:Expr} {es:List Expr} {te:TE} {t:TA} {pos:Pos}
theorem z0C:PA X [] tNil:=fun _ _ _ _ H Q I h=>Calls.spliced_nil ⟨[],H,I,.nil,h⟩
theorem z0A (ha:PE X e te) (hr:PA X es t) (hs:starEach (e::es) X.env=(false,eval e X.env)::starEach es X.env:=by rfl):PA X (e::es) (tCons te t):=by
 intro pos pins s σ H Q I h
 rw[hs]
 show wpAny _ _ (spliced ((false,eval e X.env)::backTo pos (starEach es X.env))) _ _ s
 refine Calls.spliced_cons (thn (ha pins s σ H _ I h) fun u s1 ⟨x,H1,I1,r1,q1⟩=>?_)
 exact thn (hr pos pins s1 σ H1 _ I1 q1) fun us s2 ⟨xs,H2,I2,r2,q2⟩=>⟨x::xs,H2,I2,.cons r1 r2,q2⟩
noncomputable def tTup (t:TA):TE:=fun σ H Q=>t σ H fun xs H1=>xs.length<=sizeLine/\∀p,H1 p=none->Q (.ref p) (upd H1 p (.tup xs))
noncomputable def tLst (t:TA):TE:=fun σ H Q=>t σ H fun xs H1=>xs.length<=sizeLine/\∀p,H1 p=none->Q (.ref p) (upd H1 p (.lst xs))
theorem z1y {x1} (h:PA X es t):PE X (.Tuple es x1 pos) (tTup t):=by
 intro pins s σ H Q I hq
 refine wpAny_Tuple_spliced (thn (h pos pins s σ H _ I hq) fun us s1 ⟨xs,H1,I1,r,z,q⟩=>⟨by rw[←r.length];exact z,?_⟩)
 have hf:H1 s1.heap.objs.size=none:=I1.hok.fresh (Nat.le_refl _)
 refine⟨.ref s1.heap.objs.size,upd H1 s1.heap.objs.size (.tup xs),I1.laid (t':=s1.toks) (fun b u e=>Heap.get?_push_of_some _ e) (Nat.le_refl _) ?_,rfl,q _ hf⟩
 exact⟨z,us,r,⟨_,Heap.get?_push_size _ rfl,rfl,_,rfl⟩⟩
theorem z1T (h:PA X es t):PE X (.List es pos) (tLst t):=by
 intro pins s σ H Q I hq
 refine wpAny_List_spliced (thn (h pos pins s σ H _ I hq) fun us s1 ⟨xs,H1,I1,r,z,q⟩=>⟨by rw[←r.length];exact z,?_⟩)
 have hf:H1 s1.heap.objs.size=none:=I1.hok.fresh (Nat.le_refl _)
 refine⟨.ref s1.heap.objs.size,upd H1 s1.heap.objs.size (.lst xs),I1.laid (t':=s1.toks) (fun b u e=>Heap.get?_push_of_some _ e) (Nat.le_refl _) ?_,rfl,q _ hf⟩
 exact⟨z,us,0,r,Heap.get?_push_size _ rfl⟩
end
noncomputable abbrev Sp:=List V->Hp->VK->XK->Prop
noncomputable abbrev CXT:=List Env->Hp->Shared->XK->Value->Shared->Prop
structure Env0 (P:Program) (w:World) (K:PySem.W.Frag) (mg:Str->Option Value) (base:Heap) (A:Around) (outer:List Env) (s:Shared) (H:Hp):Prop where
 frames:A.frames=some outer
 mod:Mod K mg base
 bs:∀b o,base.get? b=some o->s.heap.get? b=some o/\H b=none
 bsz:base.objs.size<=s.heap.objs.size
 funs:s.heap.FunFrames base outer
 frf:∀b∈frs outer,H b=none
 hok:HOk P w H s.heap
 bare:AllBare s.gens
noncomputable def CE (outer:List Env) (P:Program) (w:World) (H:Hp) (s:Shared) (Q:VK) (u:Value) (s':Shared):Prop:=
 ∃v H',s'.os=s.os/\AllBare s'.gens/\Un (frs outer) [] H H' s.heap s'.heap/\HOk P w H' s'.heap/\RelV v u/\Q v H'
noncomputable def CR (CX:CXT) (outer:List Env) (P:Program) (w:World) (H:Hp) (s:Shared) (Q:VK) (E:XK) (r:Result) (s':Shared):Prop:=
 match r with
 | .ok (.ret u)=>CE outer P w H s Q u s'
 | .ok _=>False
 | .error e=>CX outer H s E e s'
structure FnOk (P:Program) (w:World) (K:PySem.W.Frag) (mg:Str->Option Value) (base:Heap) (CX:CXT) (k:Nat) (f:Addr) (fd:FuncData) (ps:List Str) (sp:Sp):Prop where
 len:∀vs H Q E,sp vs H Q E->vs.length=ps.length
 run:∀(A:Around) (outer:List Env) (s:Shared) (H:Hp) (args:Args) (us:List Value) (vs:List V) (Q:VK) (E:XK),Room k A->Env0 P w K mg base A outer s H->BindsTo s fd args (ps.zip us)->Vals vs us->sp vs H Q E->
  codeAny (model P w) A (.call (.ref f) args) (CR CX outer P w H s Q E) s
theorem FnOk.mono {P:Program} {w:World} {K:PySem.W.Frag} {mg:Str->Option Value} {base:Heap} {CX:CXT} {j k:Nat} {f:Addr} {fd:FuncData} {ps:List Str} {sp:Sp} (F:FnOk P w K mg base CX j f fd ps sp) (h:j<=k) :
  FnOk P w K mg base CX k f fd ps sp:=⟨F.len,fun A outer s H args us vs Q E hr=>F.run A outer s H args us vs Q E (hr.mono h)⟩
theorem Env0.make {P:Program} {w:World} {K:PySem.W.Frag} {mg:Str->Option Value} {base:Heap} {A:Around} {outer:List Env} {s:Shared} {H:Hp} (e:Env0 P w K mg base A outer s H) (C:Addr) (us:List Value) (kw:List (Str×Value)) :
  Env0 P w K mg base (A.under (.builtin "type.__call__" ⟨.ref C::us,kw⟩)) outer s H:=⟨by first|exact e.frames|(simpa [Around.under,Code.envs,Code.isFrame,pushEnvs] using e.frames),e.mod,e.bs,e.bsz,e.funs,e.frf,e.hok,e.bare⟩
section
variable {X:Cx} {pins:List (Addr×Obj)} {σ:St} {H:Hp} {s s':Shared}
theorem Inv.env0 (I:Inv X pins σ H s):Env0 X.prog X.w X.K X.mg X.base X.A X.stack s H:=
 ⟨I.ok.frames,I.ok.mod,I.bs,Nat.le_trans I.ok.bsz I.sz,I.stack,I.stkFree,I.hok,I.bare⟩
theorem Inv.after {Q:VK} {u:Value} (I:Inv X pins σ H s) (h:CE X.stack X.prog X.w H s Q u s'):EP X pins σ Q u s':=by
 obtain⟨v,H',os,bare,un,hok,r,q⟩:=h
 obtain⟨hh,g,d,t,os'⟩:=s'
 obtain rfl:os'=s.os:=os
 exact⟨v,H',I.call (h':=hh) (g':=g) (d':=d) (t':=t) (ch:=[]) un hok bare (fun b z=>absurd z (by simp)),r,q⟩
end
noncomputable def tCall (sp:Sp) (dvs:List V) (E:XK) (t:TA):TE:=fun σ H Q=>t σ H fun vs H1=>sp (vs++dvs) H1 Q E
noncomputable def tMeth (C:Addr) (m:Str) (sp:Sp) (dvs:List V) (E:XK) (ta:TE) (t:TA):TE:=fun σ H Q=>ta σ H fun x H1=>∃a dx fs,x=.ref a/\H1 a=some (.ins C dx fs)/\fs.lookup m=none/\
 t σ H1 fun vs H2=>sp (x::(vs++dvs)) H2 Q E
noncomputable def tMake (C:Addr) (sp:Sp) (dvs:List V) (E:XK) (t:TA):TE:=fun σ H Q=>t σ H fun vs H1=>∀x dx,H1 x=none->H1 dx=none->dx≠x->
 sp (.ref x::(vs++dvs)) (upd (upd H1 dx (.own x)) x (.ins C dx [])) (fun v H2=>v=.non/\Q (.ref x) H2) E
noncomputable def Binds (K:PySem.W.Frag) (fd:FuncData) (ps:List Str) (ds:List Value):Prop:=
 ∀(s:Shared) (us:List Value),K.In s.heap->(us++ds).length=ps.length->BindsTo s fd ⟨us,[]⟩ (ps.zip (us++ds))
theorem Binds.all {K:PySem.W.Frag} {fd:FuncData} {ps:List Str} (h:∀us:List Value,us.length=ps.length->bindArgs fd ⟨us,[]⟩=pure (ps.zip us)):Binds K fd ps []:=fun s us _ hl=>by
 rw[List.append_nil] at hl ⊢
 exact .of_eq (h us hl)
noncomputable def z3E (CX:CXT) (X:Cx) (E:XK):Prop:=∀(pins:List (Addr×Obj)) (σ:St) (H:Hp) (s:Shared) (e:Value) (s':Shared),Inv X pins σ H s->CX X.stack H s E e s'->X.xe e s'
section
variable {X:Cx} {CX:CXT} {k:Nat} {f C:Addr} {fd:FuncData} {ps:List Str} {sp:Sp} {dvs:List V} {ds:List Value} {E:XK} {x m:Str} {p pos apos:Pos} {e o:Expr} {es:List Expr} {ta:TE} {t:TA}
theorem y3N {pins:List (Addr×Obj)} {σ:St} {H:Hp} {s:Shared} {Q:VK} {us:List Value} {vs:List V} (F:FnOk X.prog X.w X.K X.mg X.base CX k f fd ps sp) (hr:Room k X.A) (hb:Binds X.K fd ps ds) (hd:Vals dvs ds) (hx:z3E CX X E)
  (I:Inv X pins σ H s) (r:Vals vs us) (h:sp (vs++dvs) H Q E):wpAny (model X.prog X.w) X.A (call (.ref f) us) (EP X pins σ Q) X.xe s:=by
 have r2:Vals (vs++dvs) (us++ds):=r.append hd
 have hl:(us++ds).length=ps.length:=by rw[←r2.length];exact F.len _ _ _ _ h
 refine wpAny_call (codeAny_mono (F.run X.A X.stack s H ⟨us,[]⟩ (us++ds) (vs++dvs) Q E hr I.env0 (hb s us I.kIn hl) r2 h) fun r s' hq=>?_)
 cases r with
 | error e=>exact hx pins σ H s e s' I hq
 | ok fl=>
  cases fl with
  | ret u=>exact I.after hq
  | next=>exact False.elim hq
  | brk=>exact False.elim hq
  | cont=>exact False.elim hq
theorem y3d (F:FnOk X.prog X.w X.K X.mg X.base CX k f fd ps sp) (hr:Room k X.A) (hg:Gl X x) (hm:X.mg x=some (.ref f)) (hk:PySem.W.keepIn X.K (.ref f)=true) (hb:Binds X.K fd ps ds) (hd:Vals dvs ds) (hx:z3E CX X E)
  (ha:PA X (e::es) t) (hdb:(x == ("__debug__" : Str))=false:=by decide) (he:starEach (e::es) X.env=(false,eval e X.env)::starEach es X.env:=by rfl) (hpl:(backTo pos (starEach es X.env)).any (·.1)=false:=by rfl) :
  PE X (.Call (.Name x p) (e::es) [] pos) (tCall sp dvs E t):=by
 intro pins s σ H Q I h
 refine wpAny_Call_Name_kw (z3l I hg hm ?_ hdb)
 refine PySem.W.callWith_K (h₀:=X.base) I.ok.mod.kin hk (thn (ha pos pins s σ H _ I h) fun us s1 ⟨vs,H1,I1,r,q⟩=>⟨I1.kIn,?_⟩) he hpl
 exact y3N F hr hb hd hx I1 r q
theorem y3c {pl:Sem Bool} (he:PE X o ta) (c:Cls X.K C) (hm:Meth X.K C m f) (F:FnOk X.prog X.w X.K X.mg X.base CX k f fd ps sp) (hr:Room k X.A) (hb:Binds X.K fd ps ds) (hd:Vals dvs ds) (hx:z3E CX X E) (ha:PA X (e::es) t)
  (hst:starEach (e::es) X.env=(false,eval e X.env)::starEach es X.env:=by rfl) (hpl:(backTo pos (starEach es X.env)).any (·.1)=false:=by rfl)
  (ht:eval (.Call (.Attribute o m apos) (e::es) [] pos) X.env=(do
   let ov ←eval o X.env
   standAt apos.atName
   let (f,first) ←holding [ov] (getMethod ov m pl)
   callWith pos f first (backTo pos (starEach (e::es) X.env)) (backToKw pos (keywordEach [] X.env))):=by rfl) :
  PE X (.Call (.Attribute o m apos) (e::es) [] pos) (tMeth C m sp dvs E ta t):=by
 intro pins s σ H Q I h
 refine PySem.W.methodCall_KW (pl:=pl) (thn (he pins s σ H _ I h) fun u s1 ⟨x,H1,I1,rx,a,dx,fs,ex,ea,l,q⟩=>?_) ht
 subst ex
 obtain rfl:u=Value.ref a:=rx
 refine z6r I1 ea c hm l ?_
 refine PySem.W.callWith_K (first:=[.ref a]) (h₀:=X.base) I.ok.mod.kin hm.kp (thn (ha pos pins s1 σ H1 _ I1 q) fun us s2 ⟨vs,H2,I2,r,q2⟩=>⟨I2.kIn,?_⟩) hst hpl
 exact y3N (us:=.ref a::us) (vs:=.ref a::vs) F hr hb hd hx I2 (.cons rfl r) q2
theorem y5S {pl:Sem Bool} (he:PE X o ta) (c:Cls X.K C) (hm:Meth X.K C m f) (F:FnOk X.prog X.w X.K X.mg X.base CX k f fd ps sp) (hr:Room k X.A) (hb:Binds X.K fd ps ds) (hd:Vals dvs ds) (hx:z3E CX X E)
  (ht:eval (.Call (.Attribute o m apos) [] [] pos) X.env=(do
   let ov ←eval o X.env
   standAt apos.atName
   let (f,first) ←holding [ov] (getMethod ov m pl)
   callWith pos f first (backTo pos (starEach [] X.env)) (backToKw pos (keywordEach [] X.env))):=by rfl) :
  PE X (.Call (.Attribute o m apos) [] [] pos) (tMeth C m sp dvs E ta tNil):=by
 intro pins s σ H Q I h
 refine PySem.W.methodCall_KW (pl:=pl) (thn (he pins s σ H _ I h) fun u s1 ⟨x,H1,I1,rx,a,dx,fs,ex,ea,l,q⟩=>?_) ht
 subst ex
 obtain rfl:u=Value.ref a:=rx
 refine z6r I1 ea c hm l ?_
 exact PySem.W.callWith_K0 (first:=[.ref a]) I1.kIn hm.kp (y3N (us:=[.ref a]) (vs:=[.ref a]) F hr hb hd hx I1 (.cons rfl .nil) q)
structure Mk (K:PySem.W.Frag) (C f:Addr):Prop where
 makes:PySem.W.makesIn K C=true
 init:PySem.W.findIn K (.ref C) "__init__" = some (some (.ref f))
 fn:PySem.W.isFn K (.ref f)=true
 kp:PySem.W.keepIn K (.ref C)=true
theorem y1T {pins:List (Addr×Obj)} {σ:St} {H:Hp} {s:Shared} {Q:VK} {us:List Value} {vs:List V} (M:Mk X.K C f) (F:FnOk X.prog X.w X.K X.mg X.base CX k f fd ps sp) (hr:Room (k+1) X.A) (hb:Binds X.K fd ps ds) (hd:Vals dvs ds)
  (hx:z3E CX X E) (I:Inv X pins σ H s) (r:Vals vs us)
  (h:∀x dx,H x=none->H dx=none->dx≠x->sp (.ref x::(vs++dvs)) (upd (upd H dx (.own x)) x (.ins C dx [])) (fun v H2=>v=.non/\Q (.ref x) H2) E) :
  wpAny (model X.prog X.w) X.A (call (.ref C) us) (EP X pins σ Q) X.xe s:=by
 have hq:=h (s.heap.objs.size+1) s.heap.objs.size (I.hok.fresh (Nat.le_succ _)) (I.hok.fresh (Nat.le_refl _)) (Nat.ne_of_lt (Nat.lt_succ_self _))
 have I2:=Inv.made (C:=C) I
 have r2:Vals (V.ref (s.heap.objs.size+1)::(vs++dvs)) (Value.ref (s.heap.objs.size+1)::(us++ds)):=.cons rfl (r.append hd)
 have hl:(Value.ref (s.heap.objs.size+1)::us++ds).length=ps.length:=by
  have e:=r2.length
  rw[F.len _ _ _ _ hq] at e
  exact e.symm
 refine wpAny_call (y5j (f:=f) I.kIn M.makes M.init (beq_iff_eq.mp M.fn) (codeAny_mono (F.run _ X.stack _ _ ⟨Value.ref (s.heap.objs.size+1)::us,[]⟩ (Value.ref (s.heap.objs.size+1)::(us++ds)) _ _ E (hr.make C us [])
  (I2.env0.make C us []) (hb _ (Value.ref (s.heap.objs.size+1)::us) I2.kIn hl) r2 hq) fun r s' hq'=>?_))
 cases r with
 | error e=>exact hx pins σ _ _ e s' I2 hq'
 | ok fl=>
  cases fl with
  | ret u=>
   obtain⟨v,H',I3,rv,ev,q3⟩:=I2.after hq'
   subst ev
   exact⟨rv,⟨V.ref (s.heap.objs.size+1),H',I3,rfl,q3⟩⟩
  | next=>exact False.elim hq'
  | brk=>exact False.elim hq'
  | cont=>exact False.elim hq'
theorem y7F (M:Mk X.K C f) (F:FnOk X.prog X.w X.K X.mg X.base CX k f fd ps sp) (hr:Room (k+1) X.A) (hg:Gl X x) (hm:X.mg x=some (.ref C)) (hb:Binds X.K fd ps ds) (hd:Vals dvs ds) (hx:z3E CX X E)
  (ha:PA X (e::es) t) (hdb:(x == ("__debug__" : Str))=false:=by decide) (he:starEach (e::es) X.env=(false,eval e X.env)::starEach es X.env:=by rfl) (hpl:(backTo pos (starEach es X.env)).any (·.1)=false:=by rfl) :
  PE X (.Call (.Name x p) (e::es) [] pos) (tMake C sp dvs E t):=by
 intro pins s σ H Q I h
 refine wpAny_Call_Name_kw (z3l I hg hm ?_ hdb)
 refine PySem.W.callWith_K (h₀:=X.base) I.ok.mod.kin M.kp (thn (ha pos pins s σ H _ I h) fun us s1 ⟨vs,H1,I1,r,q⟩=>⟨I1.kIn,?_⟩) he hpl
 exact y1T M F hr hb hd hx I1 r q
theorem y5T (M:Mk X.K C f) (F:FnOk X.prog X.w X.K X.mg X.base CX k f fd ps sp) (hr:Room (k+1) X.A) (hg:Gl X x) (hm:X.mg x=some (.ref C)) (hb:Binds X.K fd ps ds) (hd:Vals dvs ds) (hx:z3E CX X E)
  (hdb:(x == ("__debug__" : Str))=false:=by decide):PE X (.Call (.Name x p) [] [] pos) (tMake C sp dvs E tNil):=by
 intro pins s σ H Q I h
 refine wpAny_Call_Name_kw (z3l I hg hm ?_ hdb)
 exact PySem.W.callWith_K0 I.kIn M.kp (y1T (us:=[]) M F hr hb hd hx I .nil h)
end
section
variable {X:Cx} {CX:CXT} {k:Nat} {f C:Addr} {fd:FuncData} {ps ks:List Str} {sp:Sp} {E:XK} {x m:Str} {p pos apos kpos:Pos} {e o:Expr} {es:List Expr} {kws:List Keyword} {te ta:TE} {t tk:TA} {nm:Option Str}
variable {g:List Value->List Value->List Value} {gV:List V->List V->List V}
end
structure FnScope (N P:List Str) (sc:Scope):Prop where
 kind:sc.kind=.function
 co:sc.isCoroutine=false
 gen:sc.isGenerator=false
 nd:N.Nodup
 pre:N.take P.length=P
 par:∀x∈P,sc.names.lookup x=some .local∨sc.names.lookup x=some .cell
 nofree:∀y∈sc.names,y.2≠.free
theorem z9X {kindOf:Str->Option NameKind} {x:Str}:∀ {binds:List (Str×Value)} {m:Str->Option Value},(∀v,(x,v)∉binds)->bindL kindOf binds m x=m x
  | [],_,_=>rfl
  | (n,v)::r,m,h=>by
    unfold bindL
    rw[z9X fun w hw=>h w (List.mem_cons_of_mem _ hw)]
    split
    · have:x≠n:=by rintro rfl;exact h v List.mem_cons_self
      simp [this]
    · rfl
theorem z9Z {kindOf:Str->Option NameKind} {x:Str}:∀ {binds:List (Str×Value)} {m:Str->Option Value},(∀v,(x,v)∉binds)->bindC kindOf binds m x=m x
  | [],_,_=>rfl
  | (n,v)::r,m,h=>by
    unfold bindC
    rw[z9Z fun w hw=>h w (List.mem_cons_of_mem _ hw)]
    split
    · rfl
    · have:x≠n:=by rintro rfl;exact h v List.mem_cons_self
      simp [this]
theorem z9Y {kindOf:Str->Option NameKind} {x:Str} {v:Value}:∀ {P:List Str} {vs:List Value} {i:Nat} {m:Str->Option Value},P.Nodup->P[i]?=some x->vs[i]?=some v->kindOf x=some .local->
  bindL kindOf (P.zip vs) m x=some v
 | [],_,_,_,_,h,_,_=>by simp at h
 | _::_,[],_,_,_,_,h,_=>by simp at h
 | p::P,w::vs,0,m,nd,h1,h2,hk=>by
  simp at h1 h2;subst h1;subst h2
  show bindL kindOf ((p,w)::P.zip vs) m p=_
  unfold bindL
  rw[z9X fun v hv=>(List.nodup_cons.mp nd).1 (List.of_mem_zip hv).1,if_pos hk]
  simp
 | p::P,w::vs,i+1,m,nd,h1,h2,hk=>by
  show bindL kindOf ((p,w)::P.zip vs) m x=_
  unfold bindL
  exact z9Y (i:=i) (List.nodup_cons.mp nd).2 (by simpa using h1) (by simpa using h2) hk
theorem z9a {kindOf:Str->Option NameKind} {x:Str} {v:Value}:∀ {P:List Str} {vs:List Value} {i:Nat} {m:Str->Option Value},P.Nodup->P[i]?=some x->vs[i]?=some v->kindOf x≠some .local->
  bindC kindOf (P.zip vs) m x=some v
 | [],_,_,_,_,h,_,_=>by simp at h
 | _::_,[],_,_,_,_,h,_=>by simp at h
 | p::P,w::vs,0,m,nd,h1,h2,hk=>by
  simp at h1 h2;subst h1;subst h2
  show bindC kindOf ((p,w)::P.zip vs) m p=_
  unfold bindC
  rw[z9Z fun v hv=>(List.nodup_cons.mp nd).1 (List.of_mem_zip hv).1,if_neg hk]
  simp
 | p::P,w::vs,i+1,m,nd,h1,h2,hk=>by
  show bindC kindOf ((p,w)::P.zip vs) m x=_
  unfold bindC
  exact z9a (i:=i) (List.nodup_cons.mp nd).2 (by simpa using h1) (by simpa using h2) hk
noncomputable def start (N:List Str) (vs:List V):St:=vs.map some++List.replicate (N.length-vs.length) none
noncomputable def cxOf (CX:CXT) (P:Program) (w:World) (K:PySem.W.Frag) (mg:Str->Option Value) (base:Heap) (N:List Str) (qual:Str) (scope:Scope) (f:Addr) (cd:Value) (A:Around) (outer:List Env) (s:Shared) (H:Hp) (E:XK):Cx where
 prog:=P
 w:=w
 K:=K
 mg:=mg
 base:=base
 A:=A.deeper (envOfC qual scope s.heap.objs.size f cd)
 N:=N
 s₀:=s
 H₀:=H
 env:=envOfC qual scope s.heap.objs.size f cd
 outer:=outer
 stack:=envOfC qual scope s.heap.objs.size f cd::outer
 ex:=[]
 calm:=true
 fn:=fun _=>true
 pn:=[]
 xe:=fun e s'=>wpAny (model P w) (A.deeper (envOfC qual scope s.heap.objs.size f cd)) (leaving (envOfC qual scope s.heap.objs.size f cd) e) (fun _ s''=>CX outer H s E e s'') (fun e' s''=>CX outer H s E e' s'') s'
theorem y1s {sc:Scope} {n:Nat} {x:Str} (h:sc.names.lookup x=some .cell):∃c,(cellsFrom n sc.names []).lookup x=some c:=by
 have q:=PySem.W.cellsFrom_some sc.names n [] (.inl h)
 exact Option.isSome_iff_exists.mp q
theorem y3z {CX:CXT} {P:Program} {w:World} {K:PySem.W.Frag} {mg:Str->Option Value} {base:Heap} {N ps:List Str} {qual:Str} {scope:Scope} {f:Addr} {cd:Value} {A:Around} {outer:List Env} {s s1:Shared} {H:Hp} {E:XK} {us:List Value} {vs:List V}
  (S:FnScope N ps scope) (hd:A.handled=none) (e0:Env0 P w K mg base A outer s H) (hl:vs.length=ps.length) (r:Vals vs us)
  (x:InCallC s s.heap.objs.size (bindL (envOfC qual scope s.heap.objs.size f cd).kindOf (ps.zip us) fun _=>none) (cellsFrom (s.heap.objs.size+1) scope.names []) (bindC (envOfC qual scope s.heap.objs.size f cd).kindOf (ps.zip us) fun _=>none) s1) :
  Inv (cxOf CX P w K mg base N qual scope f cd A outer s H E) [] (start N vs) H s1:=by
 have hpl:ps.length<=N.length:=by have:=congrArg List.length S.pre;rw[List.length_take] at this;omega
 obtain⟨h1,tk,rfl,hk⟩:=x.done
 have noA:∀b:Addr,b∉(cxOf CX P w K mg base N qual scope f cd A outer s H E).ex:=fun b z=>absurd (show b∈([]:List Addr) from z) (by simp)
 refine⟨⟨e0.mod,S.kind,rfl,rfl,Nat.le_refl _,fun y z c h1 h2=>?_,fun y hy=>?_,fun y c _ h=>?_,fun _=>hd,Around.frames_deeper e0.frames,.inr ⟨rfl,rfl⟩,fun b z=>absurd z (noA b),e0.bs,e0.bsz,fun b _ _=>noA b,fun b z=>absurd z (noA b),e0.funs,e0.frf⟩,
  rfl,e0.bare,Un.kept hk,⟨_,x.toInCall.ns,fun i y v h1 h2 h3=>?_⟩,fun y c h=>⟨_,x.cell y c h⟩,e0.hok.fresh (Nat.le_refl _),fun y c h=>?_,fun p hp=>absurd (show p∈([]:List (Addr×Obj)) from hp) (by simp),e0.hok.kept hk,?_⟩
 ·exact name_of_addr x.apart (PySem.mem_of_lookup h1) (PySem.mem_of_lookup h2)
 ·have hy:scope.names.lookup y=some .cell∨scope.names.lookup y=some .free:=hy
  rcases hy with hy|hy
  ·exact y1s hy
  ·exact absurd rfl (S.nofree _ (PySem.mem_of_lookup hy))
 ·exact Nat.le_of_lt (x.above y c (PySem.mem_of_lookup h))
 ·have hi:i<vs.length:=by
   unfold start at h2
   by_cases hi:i<vs.length
   ·exact hi
   ·rw[List.getElem?_append_right (by simpa using hi)] at h2
    rw[List.getElem?_replicate] at h2
    split at h2 <;> cases h2
  have ha:vs[i]?=some v:=by
   unfold start at h2
   rw[List.getElem?_append_left (by simpa using hi),List.getElem?_map] at h2
   cases e:vs[i]? with
   | none=>rw[e] at h2;cases h2
   | some a=>rw[e] at h2;cases h2;rfl
  obtain⟨u,hu,rv⟩:=r.get ha
  have hp:ps[i]?=some y:=by
   rw[←S.pre,List.getElem?_take_of_lt (by omega)];exact h1
  have ndP:ps.Nodup:=by rw[←S.pre];exact S.nd.sublist (List.take_sublist _ _)
  refine⟨u,rv,?_⟩
  rcases S.par y (List.mem_of_getElem? hp) with k|k
  ·exact .inl ⟨k,z9Y ndP hp hu k⟩
  ·obtain⟨c,e⟩:=y1s (n:=s.heap.objs.size+1) k
   refine .inr ⟨.inl k,c,e,?_⟩
   have q:=x.cell y c e
   rw[z9a ndP hp hu (by show scope.names.lookup y≠_;rw[k];decide)] at q
   exact q
 ·exact e0.hok.fresh (Nat.le_of_lt (x.above y c (PySem.mem_of_lookup h)))
 ·unfold start
  show _=N.length
  rw[List.length_append,List.length_map,List.length_replicate]
  omega
theorem fn_of {CX:CXT} {P:Program} {w:World} {K:PySem.W.Frag} {mg:Str->Option Value} {base:Heap} {k:Nat} {f:Addr} {name qual:Str} {params:Arguments} {body:List Stmt} {scope:Scope} {dV kV doc pm cdv ct oc:Value} {an od:Option Addr}
  {osl:Array (Option Value)} {N ps:List Str} {sp:Sp} (lk:K.lookup f=some ⟨oc,od,.func (PySem.W.fnOf name qual params body scope dV kV doc pm an cdv ct),osl⟩) (hcd:PySem.W.codeIn K cdv qual=true) (S:FnScope N ps scope)
  (len:∀vs H Q E,sp vs H Q E->vs.length=ps.length)
  (hbody:∀(A:Around) (outer:List Env) (s:Shared) (H:Hp) (vs:List V) (Q:VK) (E:XK),Room k (A.deeper (envOfC qual scope s.heap.objs.size f cdv))->sp vs H Q E->
   ∃t,PSs (cxOf CX P w K mg base N qual scope f cdv A outer s H E) body t/\t { nx:=fun _ H'=>Q .non H',rt:=Q } (start N vs) H) :
  FnOk P w K mg base CX (k+1) f (PySem.W.fnOf name qual params body scope dV kV doc pm an cdv ct) ps sp:=by
 refine⟨len,fun A outer s H args us vs Q E hr e0 hb r hsp=>?_⟩
 have hl:=len _ _ _ _ hsp
 have KX:K.In s.heap:=e0.mod.kin.keeps fun b o e=>(e0.bs b o e).1
 have lim:s.heap.NoLimit:=e0.mod.nolimit.keeps fun b o e=>(e0.bs b o e).1
 have hkind:∀y∈ps.zip us,scope.names.lookup y.1=some .local∨(scope.names.lookup y.1=some .cell/\((cellsFrom (s.heap.objs.size+1) scope.names []).lookup y.1).isSome=true):=fun⟨n,v⟩ hy=>by
  rcases S.par n (List.of_mem_zip hy).1 with q|q
  ·exact .inl q
  ·exact .inr ⟨q,PySem.W.cellsFrom_some _ _ _ (.inl q)⟩
 refine codeAny_call_function hr.depth (KX _ _ lk) rfl S.co S.gen rfl (PySem.W.codeRec_of KX hcd) (hb _ _ _ _ ?_)
 refine wpAny_newFunctionEnv_cells S.kind hkind fun env he s1 x=>?_
 subst he
 refine⟨lim.keeps x.toInCall.keep,codeAny_func ?_⟩
 obtain⟨t,ht,hq⟩:=hbody A outer s H vs Q E (hr.deeper _) hsp
 have I:Inv (cxOf CX P w K mg base N qual scope f cdv A outer s H E) [] (start N vs) H s1:=y3z S hr.hd e0 hl r x
 refine wpAny_mono (ht [] s1 (start N vs) H _ I hq) (fun fl s' hs=>?_) fun e s' hs=>hs
 have fin:∀ {σ':St} {H':Hp} {v:V} {u:Value},Inv (cxOf CX P w K mg base N qual scope f cdv A outer s H E) [] σ' H' s'->RelV v u->Q v H'->CE outer P w H s Q u s':=
  fun {σ' H' v u} J rv q=>⟨v,H',J.os,J.bare,J.base,J.hok,rv,q⟩
 cases fl with
 | ret u=>
  obtain⟨v,σ',H',J,rv,q⟩:=hs
  exact fin J rv q
 | next=>
  obtain⟨σ',H',J,q⟩:=hs
  exact fin (v:=V.non) (u:=Value.none) J rfl q
 | brk=>
  obtain⟨_,_,_,q⟩:=hs
  exact False.elim q
 | cont=>
  obtain⟨_,_,_,q⟩:=hs
  exact False.elim q
end L2
namespace L2
open PySem PySem.Spec PyProof.Rows
section
variable {X:Cx} {x:Str} {p pos:Pos} {e:Expr} {es:List Expr} {t:TA} {id T:String} {r:List V->Hp->VK->Prop}
noncomputable def tCB (r:List V->Hp->VK->Prop) (t:TA):TE:=fun σ H Q=>t σ H fun vs H1=>r vs H1 Q
theorem z0M (hc:CallR X (.builtin id) r) (hg:Gl X x) (hm:X.mg x=none) (hv:bootBuiltins x=some (.builtin id)) (ha:PA X (e::es) t) (hn:x≠ "__name__" :=by decide) (hdb:(x == ("__debug__" : Str))=false:=by decide)
  (he:starEach (e::es) X.env=(false,eval e X.env)::starEach es X.env:=by rfl) (hpl:(backTo pos (starEach es X.env)).any (·.1)=false:=by rfl):PE X (.Call (.Name x p) (e::es) [] pos) (tCB r t):=by
 intro pins s σ H Q I h
 refine wpAny_Call_Name_kw (z4A I hg hm hv ?_ hn hdb)
 exact PyProof.Rows.callWith_builtin1 (thn (ha pos pins s σ H _ I h) fun us s1 ⟨vs,H1,I1,r1,q1⟩=>hc pins s1 σ H1 vs us Q I1 r1 q1) he hpl
theorem z1Q (hc:CallR X (.type T) r) (hg:Gl X x) (hm:X.mg x=none) (hv:bootBuiltins x=some (.type T)) (ha:PA X (e::es) t) (hn:x≠ "__name__" :=by decide) (hdb:(x == ("__debug__" : Str))=false:=by decide)
  (he:starEach (e::es) X.env=(false,eval e X.env)::starEach es X.env:=by rfl) (hpl:(backTo pos (starEach es X.env)).any (·.1)=false:=by rfl):PE X (.Call (.Name x p) (e::es) [] pos) (tCB r t):=by
 intro pins s σ H Q I h
 refine wpAny_Call_Name_kw (z4A I hg hm hv ?_ hn hdb)
 exact PyProof.Rows.callWith_type1 (thn (ha pos pins s σ H _ I h) fun us s1 ⟨vs,H1,I1,r1,q1⟩=>hc pins s1 σ H1 vs us Q I1 r1 q1) he hpl
end
end L2
namespace HT
open PySem PyProof.Rows
section
open PySem.SeqAt
open PySem.AutoSeq1 (wpAny_loadPart')
open PySem.MeetsSeq PySem.MeetsSeq2 PySem.MeetsSeq3
end
section
variable {prog:Program} {w:World} {A:Around} {E:Value->Shared->Prop} {s:Shared}
theorem cat_tup {t b:Addr} {vs ws:List Value} {Q:Value->Shared->Prop} (ht:IsTup s.heap t vs.toArray) (hb:IsTup s.heap b ws.toArray) (hv:vs≠[])
  (h1:ws=[]->Q (.ref t) s) (h2:ws≠[]->Q (.ref s.heap.objs.size) { s with heap:=s.heap.push { cls:=.type "tuple",data:=.seq (vs++ws).toArray } })
  (hsz:vs.length+ws.length<=sizeLine):wpAny (model prog w) A (binaryOp .Add (.ref t) (.ref b)) Q E s:=by
 obtain⟨⟨cls,dd,data,sl⟩,ho,hc,n,hd⟩:=id ht
 obtain⟨⟨cls2,dd2,data2,sl2⟩,ho2,hc2,n2,hd2⟩:=id hb
 simp only at hc hd hc2 hd2
 subst hc hd hc2 hd2
 have e:vs.toArray++ws.toArray=(vs++ws).toArray:=by simp
 by_cases hw:ws=[]
 ·exact concat_meets ⟨_,ho,rfl⟩ ⟨_,ho2,rfl⟩ noFill_tuple_add seq_tuple_add PySem.F.slot_tuple_add PySem.F.entry_tuple_add (PySem.F.args_tuple_add_2 _ _)
   (tuple_addW1 t b vs.toArray ws.toArray n n2 dd dd2 sl sl2 (by simpa using hv) (by simp [hw])) ⟨ho,ho2,h1 hw⟩
 ·refine concat_meets ⟨_,ho,rfl⟩ ⟨_,ho2,rfl⟩ noFill_tuple_add seq_tuple_add PySem.F.slot_tuple_add PySem.F.entry_tuple_add (PySem.F.args_tuple_add_2 _ _)
   (tuple_addW2 t b vs.toArray ws.toArray n n2 dd dd2 sl sl2 (by simpa using hv) (by simpa using hw) (by rw[List.size_toArray,List.size_toArray];exact hsz)) ⟨ho,ho2,?_⟩
  rw[e]
  exact h2 hw
noncomputable def sIx (n d:Nat):Option Int->Nat
 | none=>d
 | some v=>if v<0 then (v+(n:Int)).toNat else min v.toNat n
theorem sIx_none (n d:Nat):sIx n d none=d:=rfl
theorem sIx_nat (n d k:Nat):sIx n d (some (k:Int))=min k n:=by
 show (if (k:Int)<0 then ((k:Int)+(n:Int)).toNat else min (k:Int).toNat n)=min k n
 rw[if_neg (by omega),Int.toNat_natCast]
theorem y7x (n d:Nat) (hd:d<=n) (o:Option Int):sIx n d o<=n:=by
 cases o with
 | none=>exact hd
 | some v=>
  show (if v<0 then (v+(n:Int)).toNat else min v.toNat n)<=n
  by_cases hv:v<0
  ·rw[if_pos hv];omega
  ·rw[if_neg hv];exact Nat.min_le_right _ _
theorem y4n (v:Int) (n d:Nat):(if v<0 then max (v+(n:Int)) 0 else min v (n:Int))=((sIx n d (some v):Nat):Int):=by
 show (if v<0 then max (v+(n:Int)) 0 else min v (n:Int))=(((if v<0 then (v+(n:Int)).toNat else min v.toNat n):Nat):Int)
 by_cases hv:v<0
 ·simp only [if_pos hv];omega
 ·simp only [if_neg hv];omega
theorem y2b (lo hi:Option Int) (n:Nat):Builtin.Slice.sliceAdjust lo hi 1 (n:Int)=(((sIx n 0 lo:Nat):Int),((sIx n n hi:Nat):Int)):=by
 have h1:¬((1:Int)<0):=by omega
 unfold Builtin.Slice.sliceAdjust
 simp only [h1,if_false]
 refine Prod.ext ?_ ?_
 ·cases lo with
  | none=>rfl
  | some v=>exact y4n v n 0
 ·cases hi with
  | none=>rfl
  | some v=>exact y4n v n n
theorem y2J (i j:Nat):Builtin.Slice.slicePlaces (i:Int) (j:Int) 1=j-i:=by
 unfold Builtin.Slice.slicePlaces
 have h1:(1:Int) > 0:=by omega
 simp only [h1,if_true,Int.ediv_one]
 split <;> omega
theorem z6a {v:Value} {o:Option Int} {Q:Option Int->Shared->Prop} (p:IsPart v o) (h:Q o s):wpAny (model prog w) A (Builtin.Slice.slicePartIndex v) Q E s:=by
 cases p with
 | none=>exact slicePart_none h
 | int i t=>exact slicePart_int h
theorem z4n {sl:Addr} {vl vu:Value} {lo hi:Option Int} {n:Nat} {Q:Int×Int×Nat->Shared->Prop} (hs:s.heap.IsSliceOf sl vl vu .none) (pl:IsPart vl lo) (pu:IsPart vu hi)
  (h:Q (((sIx n 0 lo:Nat):Int),1,sIx n n hi-sIx n 0 lo) s):wpAny (model prog w) A (Builtin.Slice.sliceApplied (.ref sl) (pure (n:Int))) Q E s:=by
 obtain⟨os,hos,hcs,hds⟩:=id hs
 unfold Builtin.Slice.sliceApplied Builtin.Slice.sliceFields
 refine wpAny_bind (wpAny_bind (wpAny_field hos hds (x:=vl) rfl (wpAny_bind (wpAny_field hos hds (x:=vu) rfl (wpAny_bind (wpAny_field hos hds (x:=.none) rfl (wpAny_pure ?_)))))))
 refine wpAny_bind (slicePart_none ?_)
 show wpAny _ _ (if ((1:Int) == 0)=true then _ else _) _ _ s
 rw[if_neg (by decide)]
 refine wpAny_bind (z6a pl (wpAny_bind (z6a pu (wpAny_bind (wpAny_pure ?_)))))
 show wpAny _ _ (match Builtin.Slice.sliceAdjust lo hi 1 (n:Int) with|(lo,hi)=>pure (lo,(1:Int),Builtin.Slice.slicePlaces lo hi 1)) _ _ s
 rw[y2b lo hi n]
 show wpAny _ _ (pure (((sIx n 0 lo:Nat):Int),(1:Int),Builtin.Slice.slicePlaces ((sIx n 0 lo:Nat):Int) ((sIx n n hi:Nat):Int) 1)) _ _ s
 rw[y2J]
 exact wpAny_pure h
theorem y5R (xs:Array Value) (i k:Nat):((List.range k).filterMap fun (m:Nat)=>xs[((i:Int)+(m:Int)*1).toNat]?).toArray=((xs.toList.drop i).take k).toArray:=by
 have e:(fun (m:Nat)=>xs[((i:Int)+(m:Int)*1).toNat]?)=fun m=>xs[i+m]?:=by
  funext m
  have:((i:Int)+(m:Int)*1).toNat=i+m:=by omega
  rw[this]
 rw[e]
 have:=pick_run xs i k
 rw[List.filterMap_map] at this
 have e2:((fun x=>xs[x]?)∘fun x=>i+x)=fun m=>xs[i+m]?:=rfl
 rw[e2] at this
 rw[this]
theorem getItem_tuple_cut {t sl:Addr} {items:Array Value} {vl vu:Value} {lo hi:Option Int} {Q:Value->Shared->Prop} (ht:IsTup s.heap t items) (hs:s.heap.IsSliceOf sl vl vu .none) (pl:IsPart vl lo) (pu:IsPart vu hi)
  (hw:¬(sIx items.size 0 lo=0/\sIx items.size items.size hi=items.size))
  (h:Q (.ref s.heap.objs.size) { s with heap:=s.heap.push { cls:=.type "tuple",data:=.seq ((items.toList.drop (sIx items.size 0 lo)).take (sIx items.size items.size hi-sIx items.size 0 lo)).toArray } })
  (hsz:items.size<=sizeLine):wpAny (model prog w) A (getItem (.ref t) (.ref sl)) Q E s:=by
 have htake:sizeOk (.seq ((items.toList.drop (sIx items.size 0 lo)).take (sIx items.size items.size hi-sIx items.size 0 lo)).toArray):=by
  show ((items.toList.drop (sIx items.size 0 lo)).take (sIx items.size items.size hi-sIx items.size 0 lo)).toArray.size<=sizeLine
  rw[List.size_toArray,List.length_take,List.length_drop,Array.length_toList]
  omega
 have hj:sIx items.size items.size hi<=items.size:=y7x _ _ (Nat.le_refl _) hi
 obtain⟨os,hos,hcs,hds⟩:=id hs
 have hTs:s.TypeIs (.ref sl) "slice" :=⟨os,hos,hcs⟩
 unfold getItem
 try with_reducible refine wpAny_holding ?_
 first|refine wpAny_bind (wpAny_pure ?_)|skip
 refine wpAny_bind (wpAny_sequenceKey ht.typeIs (by decide) ?_)
 refine wpAny_bind (wpAny_callSpecial?_slot (name:=Str.ofString "__getitem__") ht.typeIs PyProof.Rows.slot_tuple_getitem
  (wpAny_call_entry PyProof.Rows.slot_tuple_getitem ht.typeIs entry_tuple_getitem ?_ (args_tuple_getitem _ _)))
 show wpAny _ _ (Builtin.Tuple.tupleItemsOf (.ref t) >>= _) _ _ s
 refine wpAny_bind (tupleItemsOf_ ht ?_)
 refine wpAny_bind (wpAny_typeOf hTs ?_)
 rw[if_pos (by decide)]
 refine wpAny_bind (z4n hs pl pu ?_)
 have hno:¬((((sIx items.size 0 lo:Nat):Int) == 0 && (1:Int) == 1 && (sIx items.size items.size hi-sIx items.size 0 lo) == items.size)=true):=by
  intro q
  rw[Bool.and_eq_true,Bool.and_eq_true] at q
  have q1:((sIx items.size 0 lo:Nat):Int)=0:=eq_of_beq q.1.1
  have q2:sIx items.size items.size hi-sIx items.size 0 lo=items.size:=eq_of_beq q.2
  exact hw ⟨by omega,by omega⟩
 show wpAny _ _ (if (((sIx items.size 0 lo:Nat):Int) == 0 && (1:Int) == 1 && (sIx items.size items.size hi-sIx items.size 0 lo) == items.size)=true then _ else _) _ _ s
 rw[if_neg hno,y5R]
 first
  | exact wpAny_bind (m:=Builtin.Tuple.tupleExact _) (wpAny_newObj_type (wpAny_pure ⟨_,rfl,wpAny_pure h⟩) htake)
  | exact wpAny_bind (m:=Builtin.Tuple.tupleExact _) (wpAny_newObj_type (wpAny_bind (wpAny_pure (wpAny_pure ⟨_,rfl,wpAny_pure h⟩))) htake)
  | exact wpAny_bind (wpAny_bind (m:=Builtin.Tuple.tupleExact _) (wpAny_newObj_type (wpAny_pure (wpAny_pure ⟨_,rfl,wpAny_pure h⟩)) htake))
  | exact wpAny_bind (wpAny_bind (m:=Builtin.Tuple.tupleExact _) (wpAny_newObj_type (wpAny_pure ⟨_,rfl,wpAny_pure h⟩) htake))
end
end HT
namespace L2
open PySem PySem.Spec PyProof.Rows
noncomputable abbrev TO:=St->Hp->(Option Int->Hp->Prop)->Prop
noncomputable def PO (X:Cx) (e:Option Expr) (t:TO):Prop:=
 ∀(pins:List (Addr×Obj)) (s:Shared) (σ:St) (H:Hp) (Q:Option Int->Hp->Prop),Inv X pins σ H s->t σ H Q->
  wpAny (model X.prog X.w) X.A (evalPart e X.env) (fun u s'=>∃o H',Inv X pins σ H' s'/\IsPart u o/\Q o H') X.xe s
noncomputable def y2p:TO:=fun _ H Q=>Q none H
noncomputable def tPart (t:TE):TO:=fun σ H Q=>t σ H fun x H1=>∃i,x=.int i/\Q (some i) H1
theorem z6o {ns:List Int}:∀ {us:List Value},Vals (ns.map V.int) us->IntsAre us ns:=by
 induction ns with
 | nil=>intro us r;rw[List.map_nil] at r;cases r;exact .nil
 | cons n ns ih=>
  intro us r
  rw[List.map_cons] at r
  cases r with
  | cons r1 r2=>
   obtain⟨t,e⟩:=r1
   subst e
   exact .cons n t (ih r2)
section
variable {X:Cx} {e:Expr} {te:TE} {lo hi:Option Expr} {tl th:TO} {pos p2:Pos}
theorem z5Y:PO X none y2p:=by
 intro pins s σ H Q I h
 rw[evalPart_none]
 exact wpAny_pure ⟨none,H,I,.none,h⟩
theorem z1x (h:PE X e te):PO X (some e) (tPart te):=by
 intro pins s σ H Q I hw
 rw[evalPart_some]
 refine thn (h pins s σ H _ I hw) fun u s1 ⟨x,H1,I1,r1,q1⟩=>?_
 obtain⟨i,rfl,q⟩:=q1
 obtain⟨t,rfl⟩:=r1
 exact⟨some i,H1,I1,.int i t,q⟩
noncomputable def SlR (X:Cx) (r:V->Option Int->Option Int->Hp->VK->Prop):Prop:=
 ∀(pins:List (Addr×Obj)) (s:Shared) (σ:St) (H:Hp) (x:V) (v vl vu:Value) (lo hi:Option Int) (sl:Addr) (Q:VK),Inv X pins σ H s->RelV x v->s.heap.IsSliceOf sl vl vu .none->IsPart vl lo->IsPart vu hi->r x lo hi H Q->
  ∃T id,typeLookup (.type T) "__getitem__" = pure (some (.builtin id))/\s.TypeIs v T/\wpAny (model X.prog X.w) X.A (getItem v (.ref sl)) (EP X pins σ Q) X.xe s
noncomputable def tSl (r:V->Option Int->Option Int->Hp->VK->Prop) (te:TE) (tl th:TO):TE:=fun σ H Q=>te σ H fun x H1=>tl σ H1 fun l H2=>th σ H2 fun u H3=>r x l u H3 Q
theorem z2G {r:V->Option Int->Option Int->Hp->VK->Prop} (hr:SlR X r) (he:PE X e te) (hl:PO X lo tl) (hu:PO X hi th):PE X (.Subscript e (.Slice lo hi none p2) pos) (tSl r te tl th):=by
 intro pins s σ H Q I h
 refine Subscript_ (thn (he pins s σ H _ I h) fun v s1 ⟨x,H1,I1,r1,q1⟩=>?_)
 refine wpAny_Slice (thn (hl pins s1 σ H1 _ I1 q1) fun vl s2 ⟨l,H2,I2,pl,q2⟩=>thn (hu pins s2 σ H2 _ I2 q2) fun vu s3 ⟨u,H3,I3,pu,q3⟩=>?_)
 rw[evalPart_none]
 refine wpAny_pure ?_
 have I4:Inv X pins σ H3 { s3 with heap:=s3.heap.push { cls:=.type "slice",data:=.fields #[vl,vu,.none] } }:=I3.kept (t':=s3.toks) fun b ob q=>Heap.get?_push_of_some _ q
 obtain⟨T,id,hT,ht,hg⟩:=hr pins { s3 with heap:=s3.heap.push { cls:=.type "slice",data:=.fields #[vl,vu,.none] } } σ H3 x v vl vu l u s3.heap.objs.size Q I4 r1 (Heap.IsSliceOf.new ..) pl pu q3
 show wpAny (model X.prog X.w) X.A (subscriptTail e (.Slice lo hi none p2) v (.ref s3.heap.objs.size)) (EP X pins σ Q) X.xe { s3 with heap:=s3.heap.push { cls:=.type "slice",data:=.fields #[vl,vu,.none] } }
 exact tail_any (ops:=[.ref s3.heap.objs.size,v]) ht hT hg (by with_unfolding_all rfl)
noncomputable def cutV (xs:List V) (lo hi:Option Int):List V:=(xs.drop (HT.sIx xs.length 0 lo)).take (HT.sIx xs.length xs.length hi-HT.sIx xs.length 0 lo)
theorem z5z (xs:List V) (lo hi:Option Int):(cutV xs lo hi).length<=xs.length:=by
 unfold cutV
 rw[List.length_take,List.length_drop]
 omega
noncomputable def rSlT (K:PySem.W.Frag):V->Option Int->Option Int->Hp->VK->Prop:=fun x lo hi H Q=>∃a xs,x=.ref a/\SqT K H a xs/\
 ¬(HT.sIx xs.length 0 lo=0/\HT.sIx xs.length xs.length hi=xs.length)/\∀p,H p=none->Q (.ref p) (upd H p (.tup (cutV xs lo hi)))
theorem y7u:SlR X (rSlT X.K):=by
 intro pins s σ H x v vl vu lo hi sl Q I rx hs pl pu h
 obtain⟨a,xs,rfl,hx,hw,q⟩:=h
 cases rx
 obtain⟨its,r,ht,hz⟩:=I.tuple hx
 have hlen:its.toArray.size=xs.length:=by rw[List.size_toArray];exact r.length.symm
 refine⟨"tuple",_,PyProof.Rows.slot_tuple_getitem.lookup,ht.typeIs,?_⟩
 refine HT.getItem_tuple_cut ht hs pl pu (by rw[hlen];exact hw) ?_ (by rw[hlen];exact hz)
 rw[hlen]
 refine⟨.ref s.heap.objs.size,_,I.laid (t':=s.toks) (o:=.tup (cutV xs lo hi)) (fun b ob q=>Heap.get?_push_of_some _ q) (Nat.le_refl _) ?_,rfl,q _ (I.hok.fresh (Nat.le_refl _))⟩
 exact⟨Nat.le_trans (z5z xs lo hi) hz,_,(r.drop (HT.sIx xs.length 0 lo)).take (HT.sIx xs.length xs.length hi-HT.sIx xs.length 0 lo),IsTup.new _ _⟩
noncomputable def rCatT (K:PySem.W.Frag):R2:=fun x y H Q=>∃a b xs ys,x=.ref a/\y=.ref b/\SqT K H a xs/\SqT K H b ys/\xs≠[]/\xs.length+ys.length<=sizeLine/\
 (ys=[]->Q (.ref a) H)/\(ys≠[]->∀p,H p=none->Q (.ref p) (upd H p (.tup (xs++ys))))
theorem Vals.nil_iff {xs:List V} {us:List Value} (r:Vals xs us):us=[] ↔ xs=[]:=by
 cases r with
 | nil=>simp
 | cons _ _=>simp
theorem y7M:OpR X (binaryOp .Add) (rCatT X.K):=by
 intro pins s σ H x y v u Q I rx ry h
 obtain⟨a,b,xs,ys,rfl,rfl,ha,hb,hx,hz,q1,q2⟩:=h
 cases rx
 cases ry
 obtain⟨its,r1,p1,_⟩:=I.tuple ha
 obtain⟨its2,r2,p2,_⟩:=I.tuple hb
 refine HT.cat_tup p1 p2 (fun z=>hx (r1.nil_iff.mp z)) (fun z=>⟨.ref a,H,I,rfl,q1 (r2.nil_iff.mp z)⟩) (fun z=>?_) (by rw[←r1.length,←r2.length];exact hz)
 refine⟨.ref s.heap.objs.size,_,I.laid (t':=s.toks) (o:=.tup (xs++ys)) (fun b ob q=>Heap.get?_push_of_some _ q) (Nat.le_refl _) ?_,rfl,q2 (fun w=>z (r2.nil_iff.mpr w)) _ (I.hok.fresh (Nat.le_refl _))⟩
 exact⟨by rw[List.length_append];exact hz,_,r1.append r2,IsTup.new _ _⟩
end
end L2
namespace L2
open PySem PySem.Spec PyProof.Rows
noncomputable def ixN (n:Nat) (i:Int):Option Nat:=if 0<=i then (if i<n then some i.toNat else none) else if -(n:Int)<=i then some (i+n).toNat else none
noncomputable def atI {α:Type} (xs:List α) (i:Int):Option α:=(ixN xs.length i).bind fun j=>xs[j]?
theorem y3s {n:Nat} {i:Int} {j:Nat} (h:ixN n i=some j):seqIndex? i n=some j/\j<n/\-(n:Int)<=i/\i<n:=by
 unfold ixN at h
 by_cases h0:0<=i
 ·rw[if_pos h0] at h
  by_cases h1:i<n
  ·rw[if_pos h1] at h
   have e:i.toNat=j:=Option.some.inj h
   exact⟨by rw[seqIndex_of h0 h1,e],by omega,by omega,h1⟩
  ·rw[if_neg h1] at h;cases h
 ·rw[if_neg h0] at h
  by_cases h1:-(n:Int)<=i
  ·rw[if_pos h1] at h
   have e:(i+n).toNat=j:=Option.some.inj h
   exact⟨by rw[seqIndex_neg (by omega) h1,e],by omega,h1,by omega⟩
  ·rw[if_neg h1] at h;cases h
theorem y0t {α:Type} {xs:List α} {i:Int} {v:α} (h:atI xs i=some v):∃j,seqIndex? i xs.length=some j/\xs[j]?=some v/\j<xs.length/\-(xs.length:Int)<=i/\i<xs.length:=by
 unfold atI at h
 cases e:ixN xs.length i with
 | none=>rw[e] at h;cases h
 | some j=>
  rw[e] at h
  obtain⟨h1,h2,h3,h4⟩:=y3s e
  exact⟨j,h1,h,h2,h3,h4⟩
theorem z0X {α:Type} {xs:List α} {j:Nat} {v:α} (h:xs[j]?=some v):atI xs (j:Int)=some v:=by
 have hj:j<xs.length:=(List.getElem?_eq_some_iff.mp h).1
 have e:ixN xs.length (j:Int)=some j:=by
  unfold ixN
  rw[if_pos (by omega),if_pos (by omega)];simp
 unfold atI;rw[e];exact h
noncomputable def y7n (b:Expr):Prop:=∀o i,subscripted b false o i=operate [o,i] (getItem o i)
noncomputable def IxR (X:Cx) (r:R2):Prop:=
 ∀(value slice:Expr) (pins:List (Addr×Obj)) (s:Shared) (σ:St) (H:Hp) (x y:V) (v u:Value) (Q:VK),Inv X pins σ H s->RelV x v->RelV y u->r x y H Q->
  subscripted slice false v u=operate [v,u] (getItem v u)->wpAny (model X.prog X.w) X.A (subscriptTail value slice v u) (EP X pins σ Q) X.xe s
noncomputable def MtR (X:Cx) (id:String) (r:V->List V->Hp->VK->Prop):Prop:=
 ∀(pins:List (Addr×Obj)) (s:Shared) (σ:St) (H:Hp) (x:V) (xs:List V) (v:Value) (us:List Value) (Q:VK),Inv X pins σ H s->RelV x v->Vals xs us->r x xs H Q->
  wpAny (model X.prog X.w) X.A (call (.builtin id) (v::us)) (EP X pins σ Q) X.xe s
section
variable {X:Cx} {a b:Expr} {ta tb:TE} {pos:Pos}
theorem pe_ix {r:R2} (hr:IxR X r) (ha:PE X a ta) (hb:PE X b tb) (hs:y7n b):PE X (.Subscript a b pos) (tOp r ta tb):=by
 intro pins s σ H Q I h
 exact Subscript_ (binT ha hb I h fun v u s2 x y H2 I2 rx ry q=>hr a b pins s2 σ H2 x y v u Q I2 rx ry q (hs _ _))
noncomputable def rIxL (K:PySem.W.Frag):R2:=fun x y H Q=>∃p xs i v,x=.ref p/\y=.int i/\SqL K H p xs/\atI xs i=some v/\Q v H
noncomputable def rIxT (K:PySem.W.Frag):R2:=fun x y H Q=>∃p xs i v,x=.ref p/\y=.int i/\SqT K H p xs/\atI xs i=some v/\Q v H
noncomputable def rIxS:R2:=fun x y H Q=>∃z i c,x=.str z/\y=.int i/\z.length<=sizeLine/\atI z.cps.toList i=some c/\Q (.str ⟨#[c]⟩) H
theorem z0b:IxR X (rIxL X.K):=by
 intro value slice pins s σ H x y v u Q I rx ry h hs
 obtain⟨p,xs,i,z,rfl,rfl,hq,he,q⟩:=h
 cases rx
 obtain⟨t,rfl⟩:=ry
 obtain⟨its,r,pl,hz⟩:=I.list hq
 obtain⟨j,h1,h2,h3,h4,h5⟩:=y0t he
 obtain⟨w,ew,rw'⟩:=r.get h2
 have hl:=r.length
 have hn:=z6n
 have fin:EP X pins σ Q w s:=⟨z,H,I,rw',q⟩
 by_cases h0:0<=i
 ·have hj:i.toNat=j:=by
   rw[seqIndex_of h0 h5] at h1
   exact Option.some.inj h1
  exact item_listR pl.isList h0 (by omega) (by rw[hj];simpa using ew) fin hs
 ·have hj:(i+(its.toArray.size:Int)).toNat=j:=by
   rw[seqIndex_neg (by omega) h4] at h1
   rw[List.size_toArray,←hl]
   exact Option.some.inj h1
  exact subscriptTail_builtinR (x:=w) pl.isList.typeIs slot_list_getitem.lookup
   (wpAny_getItem_list_neg (Q:=fun r s'=>r=w/\EP X pins σ Q r s') pl.isList (by omega) (by rw[List.size_toArray] <;> omega) (by omega) (by rw[hj];simpa using ew) ⟨rfl,fin⟩) hs
theorem z0R:IxR X (rIxT X.K):=by
 intro value slice pins s σ H x y v u Q I rx ry h hs
 obtain⟨p,xs,i,z,rfl,rfl,hq,he,q⟩:=h
 cases rx
 obtain⟨t,rfl⟩:=ry
 obtain⟨its,r,pl,hz⟩:=I.tuple hq
 obtain⟨j,h1,h2,h3,h4,h5⟩:=y0t he
 obtain⟨w,ew,rw'⟩:=r.get h2
 have hl:=r.length
 have hn:=z6n
 have fin:EP X pins σ Q w s:=⟨z,H,I,rw',q⟩
 exact subscriptTail_builtinR (x:=w) pl.typeIs slot_tuple_getitem.lookup
  (getItem_tuple (j:=j) (Q:=fun r s'=>r=w/\EP X pins σ Q r s') pl (by omega) (by omega) (by rw[List.size_toArray,←hl];exact h1) (by simpa using ew) ⟨rfl,fin⟩) hs
theorem y6X:IxR X rIxS:=by
 intro value slice pins s σ H x y v u Q I rx ry h hs
 obtain⟨z,i,c,rfl,rfl,hz,he,q⟩:=h
 obtain⟨t,rfl⟩:=rx
 obtain⟨t',rfl⟩:=ry
 obtain⟨j,h1,h2,h3,h4,h5⟩:=y0t he
 have hl:z.cps.toList.length=z.length:=by simp [Str.length]
 rw[hl] at h1 h4 h5
 have hn:=z6n
 exact tail_any (typeIs_str s z t) slot_str_getitem.lookup (getItem_str (c:=c) (by
  have e1:decide (i < -(2^63:Int))=false:=decide_eq_false (by omega)
  have e2:decide (i ≥ 2^63)=false:=decide_eq_false (by omega)
  rw[e1,e2,Bool.or_false]) (by rw[h1];simpa using h2) ⟨.str ⟨#[c]⟩,H,I.tok _,⟨_,rfl⟩,q⟩) hs
theorem y2L (its:List Value) (n j:Nat) (u:Value):Obj.mapSeq (·.setIfInBounds j u) { cls:=.type "list",data:=.seq its.toArray n } = { cls:=.type "list",data:=.seq (its.set j u).toArray n }:=by
 simp [Obj.mapSeq]
theorem Inv.lst {pins:List (Addr×Obj)} {σ:St} {H:Hp} {s:Shared} {p:Addr} {xs:List V} (I:Inv X pins σ H s) (h:H p=some (.lst xs)) :
  ∃(its:List Value) (n:Nat),Vals xs its/\s.heap.get? p=some { cls:=.type "list",data:=.seq its.toArray n }/\xs.length<=sizeLine:=by
 obtain⟨z,its,n,r,e⟩:=I.hok p _ h
 exact⟨its,n,r,e,z⟩
theorem Inv.lstUpd {pins:List (Addr×Obj)} {σ:St} {H:Hp} {s:Shared} {p:Addr} {xs ys:List V} {its its':List Value} {n n':Nat} {f:Obj->Obj} (I:Inv X pins σ H s) (h:H p=some (.lst xs))
  (ho:s.heap.get? p=some { cls:=.type "list",data:=.seq its.toArray n }) (hf:f { cls:=.type "list",data:=.seq its.toArray n } = { cls:=.type "list",data:=.seq its'.toArray n' }) (r:Vals ys its') (hz:ys.length<=sizeLine) (t:Nat) :
  Inv X pins σ (upd H p (.lst ys)) { s with heap:=s.heap.update p f,toks:=t }:=by
 have e:(s.heap.update p f).get? p=some { cls:=.type "list",data:=.seq its'.toArray n' }:=by
  rw[Heap.get?_update_self f ho (by rw[hf] <;> rfl),hf]
 refine I.write (x:=p) (e:=p) (by rw[h];trivial) (.inl rfl) (fun b u hb q=>(Heap.get?_update_other _ _ (Ne.symm hb)).trans q) ⟨_,e⟩ ?_
 exact⟨hz,its',n',r,e⟩
noncomputable def rSetL:V->V->V->Hp->(Hp->Prop)->Prop:=fun o i v H Q=>∃p xs k j,o=.ref p/\i=.int k/\H p=some (.lst xs)/\ixN xs.length k=some j/\Q (upd H p (.lst (xs.set j v)))
theorem y5F:PSet X rSetL:=by
 intro pins s σ H o i v ov iv u Q I ro ri rv h
 obtain⟨p,xs,k,j,rfl,rfl,hp,hj,q⟩:=h
 cases ro
 obtain⟨t,rfl⟩:=ri
 obtain⟨its,n,r,ho,hz⟩:=I.lst hp
 obtain⟨h1,h2,h3,h4⟩:=y3s hj
 have hl:=r.length
 have hn:=z6n
 have I':Inv X pins σ (upd H p (.lst (xs.set j v))) { s with heap:=s.heap.update p (Obj.mapSeq (·.setIfInBounds j u)) }:=
  I.lstUpd hp ho (y2L its n j u) (r.set rv j) (by rw[List.length_set];exact hz) s.toks
 by_cases h0:0<=k
 ·have hk:k.toNat=j:=by
   rw[seqIndex_of h0 h4] at h1
   exact Option.some.inj h1
  exact PySem.W.ki_setAt ho h0 (by omega) (by rw[List.size_toArray,←hl];exact h4) (by rw[hk];exact⟨_,I',q⟩)
 ·have hk:(k+(its.toArray.size:Int)).toNat=j:=by
   rw[seqIndex_neg (by omega) h3] at h1
   rw[List.size_toArray,←hl]
   exact Option.some.inj h1
  exact PySem.W.ki_setBack ho (by omega) (by rw[List.size_toArray,←hl];exact h3) (by omega) (by rw[hk];exact⟨_,I',q⟩)
theorem z8k (lo hi:Option Int) (n:Nat):(sliceBounds lo hi none n).1=((HT.sIx n 0 lo:Nat):Int)/\(sliceBounds lo hi none n).2.1=((HT.sIx n n hi:Nat):Int)/\(sliceBounds lo hi none n).2.2=1:=by
 refine⟨?_,?_,rfl⟩
 ·cases lo with
  | none=>simp [sliceBounds,HT.sIx]
  | some i=>
   simp only [sliceBounds,HT.sIx,Option.getD_none,show (1:Int) > 0 by decide,if_true]
   by_cases h:i<0
   ·simp only [h,if_true] <;> omega
   ·simp only [h,if_false] <;> omega
 ·cases hi with
  | none=>simp [sliceBounds,HT.sIx]
  | some i=>
   simp only [sliceBounds,HT.sIx,Option.getD_none,show (1:Int) > 0 by decide,if_true]
   by_cases h:i<0
   ·simp only [h,if_true] <;> omega
   ·simp only [h,if_false] <;> omega
theorem z7O (its:List Value) (lo hi:Option Int):slicePick its.toArray lo hi none=((its.drop (HT.sIx its.length 0 lo)).take (HT.sIx its.length its.length hi-HT.sIx its.length 0 lo)).toArray:=by
 obtain⟨h1,h2,h3⟩:=z8k lo hi its.toArray.size
 unfold slicePick
 rw[h1,h2,h3]
 simp only [sliceRange_one,pick_run,List.size_toArray] <;> rfl
noncomputable def rSlL (K:PySem.W.Frag):V->Option Int->Option Int->Hp->VK->Prop:=fun x lo hi H Q=>∃a xs,x=.ref a/\SqL K H a xs/\∀p,H p=none->Q (.ref p) (upd H p (.lst (cutV xs lo hi)))
theorem z9z:SlR X (rSlL X.K):=by
 intro pins s σ H x v vl vu lo hi sl Q I rx hs pl pu h
 obtain⟨a,xs,rfl,hx,q⟩:=h
 cases rx
 obtain⟨its,r,ht,hz⟩:=I.list hx
 have hlen:=r.length
 refine⟨"list",_,slot_list_getitem.lookup,ht.isList.typeIs,?_⟩
 refine wpAny_getItem_list_slice ht.isList hs pl pu .none (by simp) ?_ (by rw[List.size_toArray] <;> omega)
 rw[z7O,←hlen]
 refine⟨.ref s.heap.objs.size,_,I.laid (t':=s.toks) (o:=.lst (cutV xs lo hi)) (fun b ob q=>Heap.get?_push_of_some _ q) (Nat.le_refl _) ?_,rfl,q _ (I.hok.fresh (Nat.le_refl _))⟩
 exact⟨Nat.le_trans (z5z xs lo hi) hz,_,0,(r.drop (HT.sIx xs.length 0 lo)).take (HT.sIx xs.length xs.length hi-HT.sIx xs.length 0 lo),Heap.get?_push_size _ rfl⟩
theorem z0Q:CallR X (.builtin "len") (fun xs H Q=>∃p ys,xs=[.ref p]/\(SqL X.K H p ys∨SqT X.K H p ys)/\Q (.int ys.length) H):=by
 intro pins s σ H xs us Q I r h
 obtain⟨p,ys,rfl,hq,q⟩:=h
 obtain⟨u,rfl,rx⟩:=vals1 r
 cases rx
 have hn:=z6n
 rcases hq with hq|hq
 ·obtain⟨its,r',pl,hz⟩:=I.list hq
  have hlen:=r'.length
  exact Calls.call_len_list pl.isList (by simp only [List.size_toArray] <;> omega) ⟨.int ys.length,H,I.tok _,⟨s.toks+1,by rw[List.size_toArray,hlen]⟩,q⟩
 ·obtain⟨its,r',pl,hz⟩:=I.tuple hq
  have hlen:=r'.length
  exact len_tuple pl (by simp only [List.size_toArray] <;> omega) ⟨.int ys.length,H,I.tok _,⟨s.toks+1,by rw[List.size_toArray,hlen]⟩,q⟩
theorem z0w:CallR X (.builtin "len") (fun xs H Q=>∃z,xs=[.str z]/\z.length<=sizeLine/\Q (.int z.length) H):=by
 intro pins s σ H xs us Q I r h
 obtain⟨z,rfl,hz,q⟩:=h
 obtain⟨u,rfl,t,rfl⟩:=vals1 r
 have hn:=z6n
 exact len_str (by omega) ⟨.int z.length,H,I.tok _,⟨_,rfl⟩,q⟩
theorem z4m:CallR X (.type "list") (fun xs H Q=>∃p ys,xs=[.ref p]/\(SqL X.K H p ys∨SqT X.K H p ys)/\∀l,H l=none->Q (.ref l) (upd H l (.lst ys))):=by
 intro pins s σ H xs us Q I r h
 obtain⟨p,ys,rfl,hq,q⟩:=h
 obtain⟨u,rfl,rx⟩:=vals1 r
 cases rx
 have fin:∀(its:List Value),Vals ys its->ys.length<=sizeLine->∀(h':Heap) (c':Nat),(∀b o',s.heap.get? b=some o'->h'.get? b=some o')->
   h'.get? s.heap.objs.size=some { cls:=.type "list",dict:=none,data:=.seq its.toArray c',slots:=#[] }->EP X pins σ Q (.ref s.heap.objs.size) { s with heap:=h' }:=fun its r' hz h' c' kp e=>
  ⟨.ref s.heap.objs.size,_,I.laid (t':=s.toks) kp (Nat.le_refl _) (show ObjOk X.prog X.w _ h' _ (.lst ys) from⟨hz,its,c',r',e⟩),rfl,q _ (I.hok.fresh (Nat.le_refl _))⟩
 rcases hq with hq|hq
 ·obtain⟨its,r',pl,hz⟩:=I.list hq
  have hlen:=r'.length
  obtain⟨o,ho,hc,n,hd⟩:=pl.isList
  exact call_list_seq p (.inl rfl) ho hc hd (fun h' c' kp e=>fin its r' hz h' c' kp e) (by simp only [List.size_toArray] <;> omega)
 ·obtain⟨its,r',pl,hz⟩:=I.tuple hq
  have hlen:=r'.length
  obtain⟨o,ho,hc,n,hd⟩:=pl
  exact call_list_seq p (.inr rfl) ho hc hd (fun h' c' kp e=>fin its r' hz h' c' kp e) (by simp only [List.size_toArray] <;> omega)
theorem z8M:CallR X (.type "tuple") (fun xs H Q=>∃p ys,xs=[.ref p]/\((SqL X.K H p ys/\∀l,H l=none->Q (.ref l) (upd H l (.tup ys)))∨(SqT X.K H p ys/\Q (.ref p) H))):=by
 intro pins s σ H xs us Q I r h
 obtain⟨p,ys,rfl,h⟩:=h
 obtain⟨u,rfl,rx⟩:=vals1 r
 cases rx
 rcases h with⟨hq,q⟩|⟨hq,q⟩
 ·obtain⟨its,r',pl,hz⟩:=I.list hq
  have hlen:=r'.length
  refine call_tuple_list pl.isList (fun h' kp=>?_) (by simp only [List.size_toArray] <;> omega)
  have I1:Inv X pins σ H { s with heap:=h' }:=I.kept (t':=s.toks) kp
  have I2:Inv X pins σ (upd H h'.objs.size (.tup ys)) { s with heap:=h'.push { cls:=.type "tuple",data:=.seq its.toArray } }:=
   I1.laid (t':=s.toks) (fun b o e=>Heap.get?_push_of_some _ e) (Nat.le_refl _) (show ObjOk X.prog X.w _ _ _ (.tup ys) from⟨hz,its,r',IsTup.new _ _⟩)
  exact⟨.ref h'.objs.size,_,I2,rfl,q _ (I1.hok.fresh (Nat.le_refl _))⟩
 ·obtain⟨its,r',pl,hz⟩:=I.tuple hq
  exact call_tuple_same pl ⟨.ref p,H,I,rfl,q⟩
noncomputable def tyV (K:PySem.W.Frag) (T:String) (x:V) (H:Hp):Prop:=match x with
 | .str _=>T = "str"
 | .int _=>T = "int"
 | .ref p=>(T = "list" /\∃xs,SqL K H p xs)∨(T = "tuple" /\∃o,K.lookup p=some o/\o.cls=.type "tuple" /\o.dict=none)∨
   (T = "dict" /\((∃kvs,H p=some (.dK kvs))∨∃kvs,H p=some (.dT kvs)))∨(T = "set" /\∃S n,H p=some (.set S n))
 | _=>False
theorem y7o {pins:List (Addr×Obj)} {σ:St} {H:Hp} {s:Shared} {T:String} {x:V} {v:Value} (I:Inv X pins σ H s) (r:RelV x v) (ty:tyV X.K T x H) :
  s.TypeIs v T/\∀a,v=.ref a->∃ob,s.heap.get? a=some ob/\ob.dict=none:=by
 cases x with
 | str z=>
  obtain⟨t,rfl⟩:=r
  cases (show T = "str" from ty)
  exact⟨typeIs_str s z t,fun _ e=>nomatch e⟩
 | int i=>
  obtain⟨t,rfl⟩:=r
  cases (show T = "int" from ty)
  exact⟨typeIs_int s i t,fun _ e=>nomatch e⟩
 | ref p=>
  cases r
  rcases ty with⟨rfl,xs,hq⟩|⟨rfl,o,hk,hc,hd⟩|⟨rfl,hk⟩|⟨rfl,S,n,hk⟩
  ·obtain⟨its,_,pl,_⟩:=I.list hq
   refine⟨pl.isList.typeIs,fun a e=>?_⟩
   cases e
   obtain⟨o,n,e,c,hd,_⟩:=pl
   exact⟨o,e,hd⟩
  ·refine⟨⟨o,I.kIn p o hk,hc⟩,fun a e=>?_⟩
   cases e
   exact⟨o,I.kIn _ o hk,hd⟩
  ·have z:∃o,s.heap.get? p=some o/\o.ExactDict:=by
    rcases hk with⟨kvs,hk⟩|⟨kvs,hk⟩
    ·obtain⟨_,_,_,_,o,_,_,e,ex,_⟩:=I.hok p _ hk
     exact⟨o,e,ex⟩
    ·obtain⟨_,_,_,_,o,_,_,e,ex,_⟩:=I.hok p _ hk
     exact⟨o,e,ex⟩
   obtain⟨o,e,ex⟩:=z
   refine⟨⟨o,e,ex.1⟩,fun a e2=>?_⟩
   cases e2
   exact⟨o,e,ex.2.1⟩
  ·obtain⟨o,_,_,_,e,ex,_⟩:=I.hok p _ hk
   refine⟨⟨o,e,ex.1⟩,fun a e2=>?_⟩
   cases e2
   exact⟨o,e,ex.2.1⟩
 | _=>exact False.elim ty
noncomputable def tBM0 (K:PySem.W.Frag) (T:String) (r:V->List V->Hp->VK->Prop) (to:TE):TE:=fun σ H Q=>to σ H fun x H1=>tyV K T x H1/\r x [] H1 Q
noncomputable def tBM (K:PySem.W.Frag) (T:String) (r:V->List V->Hp->VK->Prop) (to:TE) (t:TA):TE:=fun σ H Q=>to σ H fun x H1=>tyV K T x H1/\t σ H1 fun xs H2=>r x xs H2 Q
variable {o e:Expr} {es:List Expr} {to:TE} {t:TA} {name:Str} {apos cpos:Pos} {T id:String} {r:V->List V->Hp->VK->Prop}
theorem pe_bm (pa:PlainAttrs T) (slot:Slot T name id) (hty:typeOf (.builtin id)=pure (.type "method_descriptor")) (hm:MtR X id r) (ho:PE X o to) (ha:PA X (e::es) t)
  (hbase:attributeBase o name X.env (eval o X.env)=eval o X.env:=by rfl)
  (hfew:((backTo cpos (starEach (e::es) X.env)).all (fun x=>!x.1) && (backToKw cpos (keywordEach [] X.env)).all (fun x=>x.1.isSome)
   && decide ((e::es).length+([]:List Keyword).length+(if ([]:List Keyword).isEmpty then 0 else 1)<30))=true:=by rfl)
  (hline:(apos.endLine == cpos.line)=true:=by rfl) (hs:starEach (e::es) X.env=(false,eval e X.env)::starEach es X.env:=by rfl) (hplain:(backTo cpos (starEach es X.env)).any (·.1)=false:=by rfl) :
  PE X (.Call (.Attribute o name apos) (e::es) [] cpos) (tBM X.K T r to t):=by
 intro pins s σ H Q I h
 refine wpAny_Call_method_late hbase hfew hline rfl (thn (ho pins s σ H _ I h) fun v s1 ⟨x,H1,I1,r1,ty,q1⟩=>?_)
 obtain⟨h1,h2⟩:=y7o I1 r1 ty
 refine⟨T,id,pa,slot,hty,h1,h2,?_⟩
 have hA:=ha cpos pins s1 σ H1 _ I1 q1
 rw[hs] at hA ⊢
 refine Calls.callWith_builtin (by show (false || (backTo cpos (starEach es X.env)).any (·.1))=false;rw[hplain] <;> rfl) (Calls.evalArgs_plain ?_)
 exact thn hA fun us s2 ⟨vs,H2,I2,r2,q2⟩=>hm pins s2 σ H2 x vs v us Q I2 r1 r2 q2
end
end L2
namespace L2
open PySem PySem.Spec PyProof.Rows
noncomputable def MtM (X:Cx) (id:String) (r:V->List V->Hp->VK->Prop):Prop:=
 ∀(pins:List (Addr×Obj)) (s:Shared) (σ:St) (H:Hp) (x:V) (xs:List V) (v:Value) (us:List Value) (Q:VK),Inv X pins σ H s->RelV x v->Vals xs us->r x xs H Q->
  wpAny (model X.prog X.w) X.A (call (.builtin id) (v::us)) (EP X pins σ Q) X.xe s
theorem Vals.one:∀ {x:V} {us:List Value},Vals [x] us->∃u,us=[u]/\RelV x u
 | _,_,.cons r .nil=>⟨_,rfl,r⟩
theorem Vals.two:∀ {x y:V} {us:List Value},Vals [x,y] us->∃u v,us=[u,v]/\RelV x u/\RelV y v
 | _,_,_,.cons r (.cons q .nil)=>⟨_,_,rfl,r,q⟩
section
variable {X:Cx} {pins:List (Addr×Obj)} {σ:St} {H:Hp} {s:Shared} {l b:Addr} {xs ys zs:List V}
theorem Inv.lset {its its':List Value} {n:Nat} {f:Array Value->Array Value} {t':Nat} (I:Inv X pins σ H s) (hH:H l=some (.lst xs))
  (e:s.heap.get? l=some { cls:=.type "list",data:=.seq its.toArray n }) (hf:f its.toArray=its'.toArray) (hv:Vals ys its') (hz:ys.length<=sizeLine) :
  Inv X pins σ (upd H l (.lst ys)) { s with heap:=s.heap.update l (Obj.mapSeq f),toks:=t' }:=by
 have q:=PySem.IsL.update e f
 rw[hf] at q
 refine I.write (x:=l) (e:=l) (by rw[hH];exact trivial) (.inl rfl) (fun b' u hb hu=>(Heap.get?_update_other s.heap (Obj.mapSeq f) (Ne.symm hb)).trans hu) ⟨_,q⟩ ?_
 exact⟨hz,its',_,hv,q⟩
theorem Inv.lnew {its:List Value} {t':Nat} (I:Inv X pins σ H s) (hv:Vals ys its) (hz:ys.length<=sizeLine) :
  Inv X pins σ (upd H s.heap.objs.size (.lst ys)) { s with heap:=s.heap.push { cls:=.type "list",data:=.seq its.toArray },toks:=t' }:=
 I.laid (fun _ _ q=>Heap.get?_push_of_some _ q) (Nat.le_refl _) ⟨hz,its,0,hv,Heap.get?_push_size _ rfl⟩
theorem Inv.fresh (I:Inv X pins σ H s):H s.heap.objs.size=none:=I.hok.fresh (Nat.le_refl _)
theorem Inv.lstM (I:Inv X pins σ H s) (hH:H l=some (.lst xs)):xs.length<=sizeLine/\∃(its:List Value) (n:Nat),Vals xs its/\xs.length=its.length/\s.heap.get? l=some { cls:=.type "list",data:=.seq its.toArray n }:=by
 obtain⟨z,its,n,r,e⟩:=I.hok l _ hH
 exact⟨z,its,n,r,r.length,e⟩
theorem y5a {n:Nat} (h:n<=sizeLine):Builtin.List.listTooLong n=false:=by
 unfold Builtin.List.listTooLong
 exact decide_eq_false (by omega)
end
section
variable {X:Cx}
noncomputable def y6x:V->List V->Hp->VK->Prop:=fun x vs H Q=>∃l xs y,x=.ref l/\vs=[y]/\H l=some (.lst xs)/\xs.length<sizeLine/\Q .non (upd H l (.lst (xs++[y])))
theorem z1g:MtM X "list.append" y6x:=by
 intro pins s σ H x vs v us Q I rx rv h
 obtain⟨l,xs,y,rfl,rfl,hH,hz,q⟩:=h
 cases rx
 obtain⟨u,rfl,ru⟩:=rv.one
 obtain⟨z,its,n,r,hl,e⟩:=I.lstM hH
 refine call_meets F.slot_list_append ⟨_,e,rfl⟩ F.entry_list_append (F.args_list_append_2 _ _) (PySem.list_append l its.toArray n u (by rw[List.size_toArray];omega)) ⟨e,?_⟩
 refine⟨.non,_,I.lset (its':=its++[u]) hH e (by simp) (r.append (.cons ru .nil)) ?_,rfl,q⟩
 rw[List.length_append,List.length_singleton]
 omega
noncomputable def y6w:V->List V->Hp->VK->Prop:=fun x vs H Q=>∃l b xs zs,x=.ref l/\vs=[.ref b]/\H l=some (.lst xs)/\H b=some (.lst zs)/\xs.length+zs.length<=sizeLine/\Q .non (upd H l (.lst (xs++zs)))
theorem z9D:MtM X "list.extend" y6w:=by
 intro pins s σ H x vs v us Q I rx rv h
 obtain⟨l,b,xs,zs,rfl,rfl,hH,hB,hz,q⟩:=h
 cases rx
 obtain⟨u,rfl,ru⟩:=rv.one
 cases ru
 obtain⟨z,its,n,r,hl,e⟩:=I.lstM hH
 obtain⟨z2,its2,n2,r2,hl2,e2⟩:=I.lstM hB
 have hsz:its.toArray.size+its2.toArray.size<=sizeLine:=by rw[List.size_toArray,List.size_toArray];omega
 have hlong:¬(!its.toArray.isEmpty && Builtin.List.listTooLong (its.toArray.size+its2.toArray.size))=true:=by
  rw[y5a hsz,Bool.and_false]
  exact Bool.false_ne_true
 refine call_meets F.slot_list_extend ⟨_,e,rfl⟩ F.entry_list_extend (F.args_list_extend_2 _ _)
  (AutoSeq1.list_extend_list_list_0 l its.toArray n b its2.toArray n2 hlong (by rw[List.size_toArray];omega) (by omega)) ⟨e,e2,?_⟩
 refine⟨.non,_,I.lset (its':=its++its2) hH e (by simp) (r.append r2) ?_,rfl,q⟩
 rw[List.length_append]
 omega
noncomputable def rCat:R2:=fun x y H Q=>∃l b xs zs,x=.ref l/\y=.ref b/\H l=some (.lst xs)/\H b=some (.lst zs)/\xs.length+zs.length<=sizeLine/\∀p,H p=none->Q (.ref p) (upd H p (.lst (xs++zs)))
theorem y6V:OpR X (binaryOp .Add) rCat:=by
 intro pins s σ H x y v u Q I rx ry h
 obtain⟨l,b,xs,zs,rfl,rfl,hH,hB,hz,q⟩:=h
 cases rx
 cases ry
 obtain⟨z,its,n,r,hl,e⟩:=I.lstM hH
 obtain⟨z2,its2,n2,r2,hl2,e2⟩:=I.lstM hB
 refine PySem.P.add_list e e2 ?_ (by rw[List.size_toArray,List.size_toArray];omega)
 have ea:its.toArray++its2.toArray=(its++its2).toArray:=by simp
 rw[ea]
 exact⟨.ref _,_,I.lnew (t':=s.toks) (r.append r2) (by rw[List.length_append];omega),rfl,q _ I.fresh⟩
end
section
variable {prog:Program} {w:World} {A:Around} {E:Value->Shared->Prop} {s:Shared}
end
section
variable {X:Cx}
end
end L2
namespace Att
open PySem PySem.W PySem.Calls PyProof.Rows
theorem z5n {P:Params} {h:Heap}:∀(ns:List Int) (vs:List Value),WellAll P h vs (ns.map WData.int)->IntsAre vs ns:=by
 intro ns
 induction ns with
 | nil=>
  intro vs w
  rw[List.map_nil] at w
  cases w
  exact .nil
 | cons n ns ih=>
  intro vs w
  rw[List.map_cons] at w
  cases w with
  | cons a b=>
   cases a
   exact .cons _ _ (ih _ b)
theorem script_of {l:OpenLaw} {n:Nat} (hn:l.most=some n) {P:Params} {h:Heap} {args:List WData} {vals:List Value}
    (hpre:l.row.toRowW.claim.pre args=true) (hwl:WellAll P h vals args) :
    ∃a vs ns,vals=[Value.ref a]/\args=[WData.list (ns.map WData.int)]/\h.get? a=some { cls:=.type "list",data:=.seq vs.toArray }/\IntsAre vs ns/\ns.length<=n:=by
  have hsh:WShape.hasAll [] args [.list .int]=true:=(pre_splitW hpre).1
  have hc:l.pre.holds [] { args:=args }=true:=(pre_splitW hpre).2
  obtain⟨d,r,rfl,h1,h2⟩:=hasAllW_cons hsh
  obtain rfl:=hasAllW_nil h2
  obtain⟨xs,rfl,h3⟩:=hasW_list h1
  obtain⟨ns,rfl⟩:=items_int h3
  have hlen:ns.length<=n:=by
    unfold OpenLaw.pre at hc
    have h4:(WTm.not (.lt (.lit (.int (n:Int))) (.len (.arg 0)))).holds [] { args:=[.list (ns.map .int)] }=true:=by
      have h4:=(holds_andW hc).1
      rw[hn] at h4
      exact h4
    have h5:=condW_of h4 (w_not (w_lt w_lit (w_len_list (w_arg rfl))))
    rw[List.length_map] at h5
    refine Nat.le_of_not_lt fun q=>?_
    have q':(n:Int)<((ns.length:Nat):Int):=by omega
    first
      | (rw[decide_eq_true q'] at h5;exact absurd h5 (by decide))
      | (simp at h5;omega)
  cases hwl with
  | cons w1 w2=>
    cases w2
    cases w1 with
    | list ho hall=>exact⟨_,_,ns,rfl,rfl,ho,z5n ns _ hall,hlen⟩
theorem post_true (l:OpenLaw) (args:List WData):l.row.toRowW.claim.post args (.bool true) args=true:=
 postW_of (r:=l.row.toRowW) (X:=(true == true))
  (show WShape.has [] (.bool true) .bool=true by first|rfl|decide|simp [WShape.has,WShape.arms,WShape.armsAll])
  (show (WTm.eq .res (.lit (.bool true))).value [] { args:=args,res:=some (.bool true),after:=args }=some (.bool (true == true)) from w_eq_bool (w_res rfl) w_lit) rfl
section
variable {prog:Program} {w:World} {A:Around} {E:Value->Shared->Prop} {s:Shared} {K:Frag}
end
end Att
namespace L2
open PySem PySem.Spec PyProof.Rows
theorem z8V:∀ {vs:List Value} {ns:List Int},IntsAre vs ns->Vals (ns.map V.int) vs
 | _,_,.nil=>.nil
 | _,_,.cons n t h=>.cons ⟨t,rfl⟩ (z8V h)
noncomputable def Only (H:Hp):Prop:=∀b,H b=none∨∃o xs,H b=some (.frz o (.lst xs))
theorem y5q {P:Program} {w:World} {K:PySem.W.Frag} {mg mb:Str->Option Value} {CX:CXT} {k:Nat} {fa a:Addr} {fd:FuncData} {x:Str} {sp:Sp} {s₁:Shared} {vs:List Value} {ns:List Int}
  (KX:K.In s₁.heap) (hns:s₁.heap.Ns mainGlobals mg) (hb:s₁.heap.Ns builtinsNs mb) (hbb:∀x:Str,x≠ "__name__" ->mb x=bootBuiltins x) (hlim:s₁.heap.NoLimit) (hg:s₁.gens = #[])
  (ha:s₁.heap.get? a=some { cls:=.type "list",data:=.seq vs.toArray }) (hi:IntsAre vs ns) (hl:ns.length<=sizeLine) (hr:Room k callerA)
  (F:∀base:Heap,K.In base->base.Ns mainGlobals mg->FnOk P w K mg base CX k fa fd [x] sp) (hbind:∀(s:Shared) (u:Value),BindsTo s fd ⟨[u],[]⟩ [(x,u)])
  (hsp:∀H:Hp,Only H->SqL K H a (ns.map V.int)->sp [.ref a] H (fun v _=>v=.bl true) fun _ _ _=>False)
  (hCX:∀H e s',CX [] H s₁ (fun _ _ _=>False) e s'->False) :
  codeAny (model P w) callerA (.call (.ref fa) ⟨[.ref a],[]⟩) (fun r s'=>r=.ok (.ret (.bool true))/\OldK s₁.heap s'.heap/\s'.os=s₁.os/\AllBare s'.gens) s₁:=by
 have rv:=z8V hi
 have lenV:=hi.length
 have core:∀H:Hp,Only H->SqL K H a (ns.map V.int)->HOk P w H s₁.heap->(∀b,H b≠none->b=a)->(H a≠none->K.lookup a=none)->
   codeAny (model P w) callerA (.call (.ref fa) ⟨[.ref a],[]⟩) (fun r s'=>r=.ok (.ret (.bool true))/\OldK s₁.heap s'.heap/\s'.os=s₁.os/\AllBare s'.gens) s₁:=by
  intro H hO hS hok hA hK
  have base_of:∀ {b:Addr} {o:Obj},s₁.heap.get? b=some o->H b=none->(hidT s₁.heap H).get? b=some o:=fun e n=>y5t e n
  have noA:∀ {b:Addr} {o:Obj} {es:Array DictEntry} {ep:Nat},s₁.heap.get? b=some o->o.data=.dict es ep->H b=none:=fun {b o es ep} e d=>by
   cases q:H b with
   | none=>rfl
   | some u=>
    have e':b=a:=hA b (by rw[q];simp)
    subst e'
    rw[ha] at e;cases e
    have d':Data.seq vs.toArray _=Data.dict es ep:=d
    cases d'
  have nsK:∀ {b:Addr} {m:Str->Option Value},s₁.heap.Ns b m->(hidT s₁.heap H).Ns b m:=fun {b m} ⟨o,es,ep,e,d,r⟩=>⟨o,es,ep,base_of e (noA e d),d,r⟩
  have hKb:K.In (hidT s₁.heap H):=fun b o e=>base_of (KX b o e) (by
   cases q:H b with
   | none=>rfl
   | some u=>
    have e':b=a:=hA b (by rw[q];simp)
    subst e'
    rw[hK (by rw[q];simp)] at e;cases e)
  have hM:Mod K mg (hidT s₁.heap H):=⟨hKb,nsK hns,⟨mb,nsK hb,hbb⟩,let ⟨mc,h1,h2⟩:=hlim;⟨mc,nsK h1,h2⟩⟩
  have e0:Env0 P w K mg (hidT s₁.heap H) callerA [] s₁ H:=⟨rfl,hM,fun b o e=>y7N e,Nat.le_of_eq (y4F _ _),trivial,fun b hb=>absurd (show b∈([]:List Addr) from hb) (by simp),hok,.of_eq hg⟩
  refine codeAny_mono ((F _ hKb (nsK hns)).run callerA [] s₁ H ⟨[.ref a],[]⟩ [.ref a] [.ref a] _ _ hr e0 (hbind s₁ (.ref a)) (.cons rfl .nil) (hsp H hO hS)) fun r s' h=>?_
  cases r with
  | error e=>exact (hCX H e s' h).elim
  | ok fl=>
   cases fl with
   | next=>exact False.elim h
   | brk=>exact False.elim h
   | cont=>exact False.elim h
   | ret u=>
    obtain⟨v,H',os,bare,un,hok',r',q⟩:=h
    have q':v=.bl true:=q
    subst q'
    obtain rfl:u=Value.bool true:=r'
    refine⟨rfl,OldK.of_keep fun b o e=>?_,os,bare⟩
    cases q:H b with
    | none=>exact un.keep b o e q (by intro z;exact absurd (show b∈([]:List Addr) from z) (by simp)) (by simp)
    | some u=>
     rcases hO b with z|⟨ob,xs,z⟩
     ·rw[q] at z;cases z
     ·have z2:=un.frzs b ob _ z
      obtain⟨e1,_⟩:=hok b _ z
      obtain⟨e2,_⟩:=hok' b _ z2
      rw[e] at e1;cases e1
      exact e2
 cases hk:K.lookup a with
 | some o=>
  have e:=KX a o hk
  rw[ha] at e
  cases e
  refine core (fun _=>none) (fun _=>.inl rfl) (.inr ⟨_,vs.toArray,_,hk,rfl,rfl,rfl,by rw[List.size_toArray,lenV];exact hl,by simpa using rv⟩) (fun b u z=>by have z':(none:Option HO)=some u:=z;cases z') (fun b z=>absurd rfl z) fun z=>absurd rfl z
 | none=>
  refine core (fun b=>if b=a then some (.frz { cls:=.type "list",data:=.seq vs.toArray } (.lst (ns.map V.int))) else none) (fun b=>?_) (.inl (.inr ⟨{ cls:=.type "list",data:=.seq vs.toArray },if_pos rfl⟩)) (fun b u z=>?_) (fun b z=>?_) fun _=>hk
  ·by_cases hb:b=a
   ·exact .inr ⟨_,_,if_pos hb⟩
   ·exact .inl (if_neg hb)
  ·by_cases hb:b=a
   ·have z':=(if_pos hb).symm.trans z
    cases z'
    subst hb
    exact⟨ha,by rw[List.length_map];exact hl,vs,_,rv,ha⟩
   ·have z':=(if_neg hb).symm.trans z
    cases z'
  ·by_cases hb:b=a
   ·exact hb
   ·exact absurd (if_neg hb) z
end L2
namespace L2
open PySem PySem.Spec PyProof.Rows
end L2
/- THE LAST THEOREM (shape; LID, My.* are yours):
   My.Adr: a structure of the addresses that your layer names (classes,functions);My.Txt K t: a structure (Prop) of the equations over K;
   My.txt_mk:{K} {implicit addresses ..} (e1:nsIn K mainGlobals "law" = some (some (.ref f))) (e2:K.lookup f=some ⟨oc,od,.func (fnOf "law" "law" params body scope dV kV doc pm an cdv ct),sl⟩) (e3:codeIn K cdv "law" = true) .. : ∃t,My.Txt K t

set_option maxRecDepth 100000 in
set_option maxHeartbeats 0 in
theorem PySem.Challenge.cw_LID_holds : PySem.Challenge.rw_LID.Holds := by
  w_on;o_law;k_head;(case hw=>w_witness2)
  k_fill
  refine L2.walk_of (l:=PySem.Challenge.rw_LID) (n:=63) (k:=40) (x:= "script") (CX:=fun w=>..) (sp:=fun _=>My.sp_law) rfl (by decide) rfl ⟨rfl,by decide,by decide⟩ (fun w h Y=>PySem.W.kIn_of Y) ?F ?S ?C
  case F=>
    intro w mg fa h KX G hmg
    have T:∃t,My.Txt (L2.KOf KX) t:=by
      dsimp only [L2.KOf]                          -- K must stand as «<heap const> w.params» for k_is
      refine' My.txt_mk ?e1 ?e2 ?e3 ..
      (case e1 => PySem.W.k_is)                    -- in the order: a name -> its address -> its object -> its parts
      (case e2=>PySem.W.k_is)
      ..
    obtain⟨t,T⟩:=T
    have e0:=hmg.symm.trans (PySem.W.mg_of KX G T.law)
    cases e0                                       -- fa is the law's own address
    exact ⟨_, fun s u => .of_eq rfl, fun base kb nb => My.law_fn T kb nb⟩     -- if «.of_eq rfl» comes too early: refine' ⟨_, ?b, fun base kb nb => My.law_fn T kb nb⟩; exact fun s u => .of_eq rfl
  case S=>exact fun w H a ns hl hO hS=>..
  case C=>exact ..
(the tactic k_is has no namespace: write k_is) -/
namespace L2
open PySem PySem.Spec PyProof.Rows
noncomputable def z2j (s:Stmt) (j:Nat):Stmt:=match s with
 | .ClassDef _ _ _ body _ _ _ _ _ _ _=>body.getD j (.Pass ⟨0,0,0,0⟩)
 | _=>.Pass ⟨0,0,0,0⟩
noncomputable def z2N (s:Stmt):Arguments:=match s with
 | .FunctionDef _ a _ _ _ _ _ _ _ _=>a
 | _=>{ posonlyargs:=[],args:=[],vararg:=none,kwonlyargs:=[],kw_defaults:=[],kwarg:=none,defaults:=[] }
noncomputable def z1G (s:Stmt):List Stmt:=match s with
 | .FunctionDef _ _ b _ _ _ _ _ _ _=>b
 | _=>[]
noncomputable def z0G (s:Stmt):Scope:=match s with
 | .FunctionDef _ _ _ _ _ _ sc _ _ _=>sc
 | _=>{ kind:=.function,names:=[],isGenerator:=false,isCoroutine:=false }
noncomputable abbrev CX0:CXT:=fun _ _ _ _ _ _=>False
noncomputable abbrev E0:XK:=fun _ _ _=>False
theorem pass0 {X:Cx}:z3E CX0 X E0:=fun _ _ _ _ _ _ _ h=>h.elim
structure Fun (K:PySem.W.Frag) (x qual:Str) (st:Stmt) (f:Addr) (fd:FuncData):Prop where
 ex:∃(oc:Value) (od:Option Addr) (kV doc pm:Value) (an:Option Addr) (cdv ct:Value) (osl:Array (Option Value)),
  fd=PySem.W.fnOf x qual (z2N st) (z1G st) (z0G st) .none kV doc pm an cdv ct/\K.lookup f=some ⟨oc,od,.func fd,osl⟩/\PySem.W.codeIn K cdv qual=true
 kp:PySem.W.keepIn K (.ref f)=true
section
variable {P:Program} {w:World} {K:PySem.W.Frag} {mg:Str->Option Value} {base:Heap}
theorem Fun.ok {x qual:Str} {st:Stmt} {f:Addr} {fd:FuncData} {N ps:List Str} {k:Nat} {sp:Sp} (F:Fun K x qual st f fd) (S:FnScope N ps (z0G st)) (len:∀vs H Q E,sp vs H Q E->vs.length=ps.length)
  (hbody:∀(cdv:Value) (A:Around) (outer:List Env) (s:Shared) (H:Hp) (vs:List V) (Q:VK) (E:XK),Room k (A.deeper (envOfC qual (z0G st) s.heap.objs.size f cdv))->sp vs H Q E->
   ∃t,PSs (cxOf CX0 P w K mg base N qual (z0G st) f cdv A outer s H E).nox (z1G st) t/\t { nx:=fun _ H'=>Q .non H',rt:=Q } (start N vs) H):FnOk P w K mg base CX0 (k+1) f fd ps sp:=by
 obtain⟨oc,od,kV,doc,pm,an,cdv,ct,osl,rfl,lk,hcd⟩:=F.ex
 refine fn_of lk hcd S len fun A outer s H vs Q E hr hsp=>?_
 obtain⟨t,h,q⟩:=hbody cdv A outer s H vs Q E hr hsp
 exact⟨t,h.nox,q⟩
theorem y6a {x qual:Str} {st:Stmt} {f:Addr} {oc:Value} {od an:Option Addr} {osl:Array (Option Value)} {kV doc pm cdv ct:Value} (l:K.lookup f=some ⟨oc,od,.func (PySem.W.fnOf x qual (z2N st) (z1G st) (z0G st) .none kV doc pm an cdv ct),osl⟩)
  (c:PySem.W.codeIn K cdv qual=true) (k:PySem.W.keepIn K (.ref f)=true):Fun K x qual st f (PySem.W.fnOf x qual (z2N st) (z1G st) (z0G st) .none kV doc pm an cdv ct):=⟨⟨oc,od,kV,doc,pm,an,cdv,ct,osl,rfl,l,c⟩,k⟩
end
theorem hu_of {A:Around} {k:Nat} (hr:Room k A):A.units+1<cLine:=Nat.lt_of_le_of_lt (Nat.add_le_add_left (by decide:1<=64) _) hr.units
theorem y3E {n:Nat} (h:n<=1000):n<sizeLine:=Nat.lt_of_le_of_lt h (by decide)
section
variable {X:Cx}
theorem pv (i:Nat) {x:Str} {pos:Pos} (hN:X.N[i]?=some x:=by rfl) (hv:Vis X.env.scope x:=by first|exact Or.inl rfl|exact Or.inr (Or.inl rfl)|exact Or.inr (Or.inr rfl)) (hd:(x == ("__debug__" : Str))=false:=by decide)
  (hcd:(x == ("__classdict__" : Str))=false:=by decide):PE X (.Name x pos) (tVar i):=y8H hN hv hd hcd
end
noncomputable def Same (H H':Hp):Prop:=∀b o,H b=some o->H' b=some o
theorem Same.refl (H:Hp):Same H H:=fun _ _ h=>h
theorem Same.trans {H H1 H2:Hp} (a:Same H H1) (b:Same H1 H2):Same H H2:=fun c o h=>b c o (a c o h)
theorem Same.free {H H':Hp} (e:Same H H') {l:Addr} (h:H' l=Option.none):H l=Option.none:=by
 cases q:H l with
 | none=>rfl
 | some o=>
  rw[e l o q] at h
  cases h
theorem Same.seq {K:PySem.W.Frag} {H H':Hp} {a:Addr} {xs:List V} (e:Same H H') (h:SqL K H a xs):SqL K H' a xs:=by
 rcases h with (h|⟨o,h⟩)|h
 ·exact .inl (.inl (e _ _ h))
 ·exact .inl (.inr ⟨o,e _ _ h⟩)
 ·exact .inr h
end L2
namespace L2
open PySem PySem.Spec PyProof.Rows
section
variable {κ:Type} [DecidableEq κ]
noncomputable def valV (kvs:List (κ×V)) (k:κ):Option V:=(kvs.find? fun kv=>decide (kv.1=k)).map (·.2)
noncomputable def putK (kvs:List (κ×V)) (k:κ) (v:V):List (κ×V):=
 if (kvs.any fun kv=>decide (kv.1=k))=true then kvs.map (fun kv=>if kv.1=k then (kv.1,v) else kv) else kvs++[(k,v)]
theorem z1N {p:κ×V} {r:List (κ×V)} {k:κ} (e:p.1=k):valV (p::r) k=some p.2:=by simp [valV,List.find?_cons,e]
theorem z1O {p:κ×V} {r:List (κ×V)} {k:κ} (e:¬p.1=k):valV (p::r) k=valV r k:=by simp [valV,List.find?_cons,e]
theorem z4q (k:κ):∀kvs:List (κ×V),(kvs.any fun kv=>decide (kv.1=k))=(valV kvs k).isSome
 | []=>rfl
 | p::r=>by
  rw[List.any_cons]
  by_cases e:p.1=k
  ·simp only [z1N e,decide_eq_true e,Bool.true_or,Option.isSome_some]
  ·rw[z1O e,decide_eq_false e,Bool.false_or];exact z4q k r
theorem y0u (k j:κ) (y:V):∀kvs:List (κ×V),valV (kvs.map fun kv=>if kv.1=k then (kv.1,y) else kv) j=(valV kvs j).map fun x=>if j=k then y else x
 | []=>rfl
 | p::r=>by
  have ih:=y0u k j y r
  rw[List.map_cons]
  by_cases h:p.1=k
  ·rw[if_pos h]
   by_cases e:p.1=j
   ·rw[z1N (p:=(p.1,y)) e,z1N e,Option.map_some,if_pos (e.symm.trans h)]
   ·rw[z1O (p:=(p.1,y)) e,z1O e,ih]
  ·rw[if_neg h]
   by_cases e:p.1=j
   ·rw[z1N (p:=p) e,z1N e,Option.map_some,if_neg (fun z=>h (e.trans z))]
   ·rw[z1O (p:=p) e,z1O e,ih]
theorem z8X (k j:κ) (y:V):∀kvs:List (κ×V),valV kvs k=none->valV (kvs++[(k,y)]) j=if j=k then some y else valV kvs j
 | [],_=>by
  by_cases e:k=j
  ·rw[if_pos e.symm];exact z1N (p:=(k,y)) e
  ·rw[if_neg (fun z=>e z.symm)];exact z1O (p:=(k,y)) e
 | p::r,hn=>by
  rw[List.cons_append]
  have hk:¬p.1=k:=fun z=>by rw[z1N z] at hn;cases hn
  rw[z1O hk] at hn
  have ih:=z8X k j y r hn
  by_cases e:p.1=j
  ·rw[z1N e,z1N e,if_neg (fun z=>hk (e.trans z))]
  ·rw[z1O e,z1O e,ih]
theorem y4z (kvs:List (κ×V)) (k j:κ) (y:V):valV (putK kvs k y) j=if j=k then some y else valV kvs j:=by
 unfold putK
 by_cases a:(kvs.any fun kv=>decide (kv.1=k))=true
 ·rw[if_pos a,y0u]
  rw[z4q] at a
  by_cases e:j=k
  ·obtain⟨x,hx⟩:=Option.isSome_iff_exists.mp a
   rw[if_pos e,e,hx,Option.map_some,if_pos rfl]
  ·rw[if_neg e]
   cases valV kvs j with
   | none=>rfl
   | some x=>rw[Option.map_some,if_neg e]
 ·rw[if_neg a]
  refine z8X k j y kvs ?_
  rw[z4q] at a
  cases q:valV kvs k with
  | none=>rfl
  | some x=>rw[q] at a;exact (a rfl).elim
theorem z3k (kvs:List (κ×V)) (k:κ) (v:V):(putK kvs k v).length<=kvs.length+1:=by
 unfold putK
 split
 ·rw[List.length_map];omega
 ·rw[List.length_append,List.length_cons,List.length_nil];omega
theorem RelO.isSome_eq {o:Option V} {u:Option Value} (r:RelO o u):o.isSome=u.isSome:=by
 cases o with
 | none=>cases u with
  | none=>rfl
  | some _=>exact (show False from r).elim
 | some _=>cases u with
  | none=>exact (show False from r).elim
  | some _=>rfl
theorem KV.val {kvs:List (κ×V)} {vs:List (κ×Value)} (r:KV kvs vs) (k:κ):RelO (valV kvs k) (valueAt vs k):=by
 unfold KV at r
 induction r with
 | nil=>exact True.intro
 | @cons p q ps qs h t ih=>
  obtain⟨h1,h2⟩:=h
  by_cases e:p.1=k
  ·have e':q.1=k:=h1.symm.trans e
   have b:valueAt (q::qs) k=some q.2:=by simp [valueAt,List.find?_cons,e']
   rw[z1N e,b];exact h2
  ·have e':¬q.1=k:=fun z=>e (h1.trans z)
   have b:valueAt (q::qs) k=valueAt qs k:=by simp [valueAt,List.find?_cons,e']
   rw[z1O e,b];exact ih
theorem KV.any {kvs:List (κ×V)} {vs:List (κ×Value)} (r:KV kvs vs) (k:κ):(kvs.any fun kv=>decide (kv.1=k))=vs.any fun kv=>decide (kv.1=k):=by
 unfold KV at r
 induction r with
 | nil=>rfl
 | cons h t ih=>rw[List.any_cons,List.any_cons,ih,h.1]
theorem KV.repl {kvs:List (κ×V)} {vs:List (κ×Value)} (r:KV kvs vs) (k:κ) {y:V} {u:Value} (ry:RelV y u) :
  KV (kvs.map fun kv=>if kv.1=k then (kv.1,y) else kv) (vs.map fun kv=>if kv.1=k then (kv.1,u) else kv):=by
 unfold KV at r ⊢
 induction r with
 | nil=>exact .nil
 | @cons p q ps qs h t ih=>
  rw[List.map_cons,List.map_cons]
  refine .cons ?_ ih
  obtain⟨h1,h2⟩:=h
  by_cases e:p.1=k
  ·rw[if_pos e,if_pos (h1.symm.trans e)];exact⟨h1,ry⟩
  ·rw[if_neg e,if_neg (fun z=>e (h1.trans z))];exact⟨h1,h2⟩
theorem KV.put {kvs:List (κ×V)} {vs:List (κ×Value)} (r:KV kvs vs) (k:κ) {y:V} {u:Value} (ry:RelV y u):KV (putK kvs k y) (stored vs k u):=by
 unfold putK stored
 rw[r.any k]
 by_cases e:(vs.any fun kv=>decide (kv.1=k))=true
 ·rw[if_pos e,if_pos e];exact r.repl k ry
 ·rw[if_neg e,if_neg e];exact Paired.snoc r ⟨rfl,ry⟩
theorem KV.length {kvs:List (κ×V)} {vs:List (κ×Value)} (r:KV kvs vs):kvs.length=vs.length:=Paired.length r
end
theorem kV_is {P:Program} {w:World} {k:Key} {u:Value} (r:RelV (kV k) u):(z0s P w).is k u=true:=by
 cases k with
 | inl i=>obtain⟨t,e⟩:=(show ∃t,u=Value.int i t from r);subst e;exact y0Q P w i t
 | inr x=>obtain⟨t,e⟩:=(show ∃t,u=Value.str x t from r);subst e;exact z5j P w x t
theorem z9F {P:Program} {w:World}:∀ {ks:List Key} {us:List Value},Vals (ks.map kV) us->ItemsAre (z0s P w) ks us
 | [],_,r=>by rw[List.map_nil] at r;cases r;exact .nil
 | k::ks,_,r=>by
  rw[List.map_cons] at r
  cases r with
  | cons h t=>exact .cons (kV_is h) (z9F t)
noncomputable abbrev KT (H:Hp):List (List Key×V)->List (List Key×Addr×Value)->Prop:=Paired fun p q=>p.1=q.1/\H q.2.1=some (.tup (p.1.map kV))/\RelV p.2 q.2.2
theorem KT.val {H:Hp} {kvs:List (List Key×V)} {xs:List (List Key×Addr×Value)} (r:KT H kvs xs) (k:List Key):RelO (valV kvs k) ((atKey xs k).map (·.2)):=by
 induction r with
 | nil=>exact True.intro
 | @cons p q ps qs h t ih=>
  obtain⟨h1,_,h2⟩:=h
  by_cases e:p.1=k
  ·have e':q.1=k:=h1.symm.trans e
   have b:atKey (q::qs) k=some q.2:=by simp [atKey,List.find?_cons,e']
   rw[z1N e,b];exact h2
  ·have e':¬q.1=k:=fun z=>e (h1.trans z)
   have b:atKey (q::qs) k=atKey qs k:=by simp [atKey,List.find?_cons,e']
   rw[z1O e,b];exact ih
theorem KT.repl {H:Hp} {kvs:List (List Key×V)} {xs:List (List Key×Addr×Value)} (r:KT H kvs xs) (k:List Key) {y:V} {u:Value} (ry:RelV y u) :
  KT H (kvs.map fun kv=>if kv.1=k then (kv.1,y) else kv) (xs.map (putAt k u)):=by
 induction r with
 | nil=>exact .nil
 | @cons p q ps qs h t ih=>
  rw[List.map_cons,List.map_cons]
  refine .cons ?_ ih
  obtain⟨h1,h2,h3⟩:=h
  unfold putAt
  by_cases e:p.1=k
  ·rw[if_pos e,if_pos (h1.symm.trans e)];exact⟨h1,h2,ry⟩
  ·rw[if_neg e,if_neg (fun z=>e (h1.trans z))];exact⟨h1,h2,h3⟩
theorem KT.put {H:Hp} {kvs:List (List Key×V)} {xs:List (List Key×Addr×Value)} (r:KT H kvs xs) (k:List Key) {b:Addr} {y:V} {u:Value} (hb:H b=some (.tup (k.map kV))) (ry:RelV y u) :
  KT H (putK kvs k y) (storedH xs k b u):=by
 have e:(kvs.any fun kv=>decide (kv.1=k))=(atKey xs k).isSome:=by
  rw[z4q,(r.val k).isSome_eq,Option.isSome_map]
 unfold putK storedH
 rw[e]
 by_cases q:(atKey xs k).isSome=true
 ·rw[if_pos q,if_pos q];exact r.repl k ry
 ·rw[if_neg q,if_neg q];exact Paired.snoc r ⟨rfl,hb,ry⟩
theorem KT.keeps {H H':Hp} {kvs:List (List Key×V)} {xs:List (List Key×Addr×Value)} (r:KT H kvs xs) (ht:∀b ys,H b=some (.tup ys)->H' b=some (.tup ys)):KT H' kvs xs:=
 Paired.mapP r fun _ _ z=>⟨z.1,ht _ _ z.2.1,z.2.2⟩
section
variable {P:Program} {w:World} {H:Hp} {h:Heap} {a:Addr}
theorem rd_of {u:HO} (ok:HOk P w H h) (e:Rd H a u):ObjOk P w H h a u:=e.ok ok
theorem dk_rd {kvs:List (Key×V)} (ok:HOk P w H h) (e:Rd H a (.dK kvs)):kvs.length<=sizeLine/\(a == sysModules)=false/\∃vs,KV kvs vs/\h.DictOf (z0s P w) a vs:=
 show ObjOk P w H h a (.dK kvs) from rd_of ok e
theorem dk_of {kvs:List (Key×V)} (ok:HOk P w H h) (e:H a=some (.dK kvs)):kvs.length<=sizeLine/\(a == sysModules)=false/\∃vs,KV kvs vs/\h.DictOf (z0s P w) a vs:=dk_rd ok (.inl e)
theorem y1i {ks:List Key} (ok:HOk P w H h) (e:H a=some (.tup (ks.map kV))):(tupleKind (z0s P w)).is h ks a:=by
 obtain⟨_,its,r,o,h1,h2,n,h3⟩:=(show ObjOk P w H h a (.tup (ks.map kV)) from ok a _ e)
 exact⟨o,its.toArray,n,h1,h2,h3,by simpa using z9F r⟩
theorem dt_rd {kvs:List (List Key×V)} (ok:HOk P w H h) (e:Rd H a (.dT kvs)):kvs.length<=sizeLine/\(a == sysModules)=false/\
  ∃xs,KT H kvs xs/\h.DictOfH (tupleKind (z0s P w)) a xs:=by
 obtain⟨z,y,xs,r,o,es,ep,h1,h2,h3,h4,h5⟩:=(show ObjOk P w H h a (.dT kvs) from rd_of ok e)
 refine⟨z,y,xs,r,o,es,ep,h1,h2,h3,h4,fun x hx=>?_,h5⟩
 have all:∀ {l:List (List Key×V)} {m:List (List Key×Addr×Value)},KT H l m->∀x∈m,(tupleKind (z0s P w)).is h x.1 x.2.1:=by
  intro l m q
  induction q with
  | nil=>intro x hx;exact nomatch hx
  | @cons p q ps qs hq t ih=>
   intro x hx
   rcases List.mem_cons.mp hx with e|hx
   ·subst e
    exact y1i ok (by rw[←hq.1];exact hq.2.1)
   ·exact ih x hx
 exact all r x hx
theorem dt_of {kvs:List (List Key×V)} (ok:HOk P w H h) (e:H a=some (.dT kvs)):kvs.length<=sizeLine/\(a == sysModules)=false/\
  ∃xs,KT H kvs xs/\h.DictOfH (tupleKind (z0s P w)) a xs:=dt_rd ok (.inl e)
end
noncomputable def DGet (H:Hp) (a:Addr) (y:V) (r:Option V):Prop:=
 (∃kvs k,Rd H a (.dK kvs)/\y=kV k/\r=valV kvs k)∨∃kvs k b,Rd H a (.dT kvs)/\y=.ref b/\H b=some (.tup (k.map kV))/\r=valV kvs k
noncomputable def DPut (H:Hp) (a:Addr) (y v:V) (H':Hp):Prop:=
 (∃kvs k,H a=some (.dK kvs)/\y=kV k/\kvs.length<sizeLine/\H'=upd H a (.dK (putK kvs k v)))∨
 ∃kvs k b,H a=some (.dT kvs)/\y=.ref b/\H b=some (.tup (k.map kV))/\kvs.length<sizeLine/\H'=upd H a (.dT (putK kvs k v))
theorem DGet.k {H:Hp} {a:Addr} {kvs:List (Key×V)} {k:Key} (e:H a=some (.dK kvs)):DGet H a (kV k) (valV kvs k):=.inl ⟨kvs,k,.inl e,rfl,rfl⟩
theorem DPut.k {H:Hp} {a:Addr} {kvs:List (Key×V)} {k:Key} {v:V} (e:H a=some (.dK kvs)) (hl:kvs.length<sizeLine):DPut H a (kV k) v (upd H a (.dK (putK kvs k v))):=.inl ⟨kvs,k,e,rfl,hl,rfl⟩
section
variable {X:Cx} {pins:List (Addr×Obj)} {σ:St} {H:Hp} {s:Shared} {a:Addr} {y v:V} {u r:Value} {o:Option V} {A:Around} {E:Value->Shared->Prop}
theorem Inv.big (I:Inv X pins σ H s):sysModules<s.heap.objs.size:=by
 have h:mainGlobals<s.heap.objs.size:=(I.mod.glob.keeps I.bk).lt
 exact Nat.lt_trans (by decide) h
theorem y4f {Q:Value->Shared->Prop} (hu:A.units+1<cLine) (I:Inv X pins σ H s) (g:DGet H a y (some v)) (ry:RelV y u) (h:∀w' s',Inv X pins σ H s'->RelV v w'->Q w' s') :
  wpAny (model X.prog X.w) A (getItem (.ref a) u) Q E s:=by
 rcases g with⟨kvs,k,e,ey,l⟩|⟨kvs,k,b,e,ey,eb,l⟩
 ·subst ey
  obtain⟨z,hd,vs,rel,dd⟩:=dk_rd I.hok e
  obtain⟨w',hw,rw'⟩:=RelO.some_of (v:=v) (o:=valueAt vs k) (by rw[l];exact rel.val k)
  exact wpAny_getItem_of (kV_is ry) dd.mapOf hw (h w' _ (I.tok _) rw')
 ·subst ey
  cases (show u=Value.ref b from ry)
  obtain⟨z,hd,xs,rel,dd⟩:=dt_rd I.hok e
  obtain⟨w',hw,rw'⟩:=RelO.some_of (v:=v) (o:=(atKey xs k).map (·.2)) (by rw[l];exact rel.val k)
  obtain⟨p,hp,hp2⟩:=Option.map_eq_some_iff.mp hw
  refine wpAny_getItem_heap (tupleKind_room_in1 hu) (y1i I.hok eb) dd hp ?_
  rw[hp2]
  exact h w' _ (I.tok _) rw'
theorem y7d {Q:Value->Shared->Prop} (hu:A.units+1<cLine) (I:Inv X pins σ H s) (g:DGet H a y o) (ry:RelV y u) (h:∀s',Inv X pins σ H s'->Q (.bool (!o.isSome)) s') :
  wpAny (model X.prog X.w) A (compareOp .NotIn u (.ref a)) Q E s:=by
 rcases g with⟨kvs,k,e,ey,l⟩|⟨kvs,k,b,e,ey,eb,l⟩
 ·subst ey
  obtain⟨z,hd,vs,rel,dd⟩:=dk_rd I.hok e
  refine wpAny_notIn_of (kV_is ry) hd dd.mapOf ?_
  rw[←(rel.val k).isSome_eq,←l]
  exact h _ (I.tok _)
 ·subst ey
  cases (show u=Value.ref b from ry)
  obtain⟨z,hd,xs,rel,dd⟩:=dt_rd I.hok e
  refine wpAny_notIn_heap (tupleKind_room_in1 hu) (y1i I.hok eb) hd dd ?_
  have q:=(rel.val k).isSome_eq
  rw[Option.isSome_map] at q
  rw[←q,←l]
  exact h _ (I.tok _)
theorem y4d {h':Heap} {t':Nat} {ob:HO} (I:Inv X pins σ H s) (mu:Mut (H a)) (hs:Heap.SameBut a s.heap h') (he:∃q,h'.get? a=some q) (new:ObjOk X.prog X.w (upd H a ob) h' a ob) :
  Inv X pins σ (upd H a ob) { s with heap:=h',toks:=t' }:=
 I.write (x:=a) (e:=a) mu (.inl rfl) (fun b q hb z=>(hs.2 b hb).trans z) he new
theorem y8W {P:Program} {w:World} {H':Hp} {h':Heap} {kvs:List (Key×V)} {vs:List (Key×Value)} (z:kvs.length<=sizeLine) (hd:(a == sysModules)=false) (rel:KV kvs vs) (dd:h'.DictOf (z0s P w) a vs) :
  ObjOk P w H' h' a (.dK kvs):=⟨z,hd,vs,rel,dd⟩
theorem y4e {H':Hp} {Q:Unit->Shared->Prop} (hu:A.units+1<cLine) (I:Inv X pins σ H s) (g:DPut H a y v H') (ry:RelV y u) (rv:RelV v r) (h:∀s',Inv X pins σ H' s'->Q () s') :
  wpAny (model X.prog X.w) A (setItem (.ref a) u r) Q E s:=by
 rcases g with⟨kvs,k,e,ey,l,eH⟩|⟨kvs,k,b,e,ey,eb,l,eH⟩
 ·subst ey eH
  obtain⟨z,hd,vs,rel,dd⟩:=dk_of I.hok e
  have hz:vs.length<=sizeLine:=by rw[←rel.length];exact z
  have hl:(putK kvs k v).length<=sizeLine:=by have:=z3k kvs k v;omega
  refine wpAny_setItem_pairs (hsz:=hz) (kV_is ry) dd fun h' dd' hs=>h _ ?_
  have he:∃q,h'.get? a=some q:=let ⟨q,_,_,hq,_⟩:=dd';⟨q,hq⟩
  exact y4d I (by rw[e];exact True.intro) hs he (y8W hl hd (rel.put k rv) dd')
 ·subst ey eH
  cases (show u=Value.ref b from ry)
  obtain⟨z,hd,xs,rel,dd⟩:=dt_of I.hok e
  have hz:xs.length<=sizeLine:=by rw[←Paired.length rel];exact z
  have hl:(putK kvs k v).length<=sizeLine:=by have:=z3k kvs k v;omega
  refine wpAny_setItem_heap (hsz:=hz) (tupleKind_room_in1 hu) (y1i I.hok eb) dd fun h' dd' hs=>h _ ?_
  obtain⟨q,es,ep,hq,h2,h3,h4,_,h5⟩:=dd'
  refine y4d I (by rw[e];exact True.intro) hs ⟨q,hq⟩ ⟨hl,hd,_,(rel.put k eb rv).keeps fun c ys ec=>?_,q,es,ep,hq,h2,h3,h4,h5⟩
  rw[z0U (ne_of ec e (fun z=>nomatch z))]
  exact ec
end
section
variable {X:Cx} {pins:List (Addr×Obj)} {σ:St} {H:Hp} {s:Shared} {a:Addr} {kvs:List (Key×V)} {k:Key} {u:Value} {A:Around} {E:Value->Shared->Prop}
end
noncomputable def NoSl (i:Expr):Prop:=∀ov iv,subscripted i false ov iv=operate [ov,iv] (getItem ov iv)
theorem y6o {prog:Program} {w:World} {A:Around} {E:Value->Shared->Prop} {s:Shared} {env:Env} {value slice:Expr} {pos:Pos} {T id:String} {Q:Value->Shared->Prop}
  (hl:typeLookup (.type T) "__getitem__" = pure (some (.builtin id))) (hs:NoSl slice)
  (h:wpAny (model prog w) A (eval value env) (fun o s₁=>wpAny (model prog w) A (eval slice env) (fun i s₂=>s₂.TypeIs o T/\wpAny (model prog w) A (getItem o i) Q E s₂) E s₁) E s) :
  wpAny (model prog w) A (eval (.Subscript value slice pos) env) Q E s:=by
 refine Subscript_ (wpAny_mono h (fun o s₁ h₁=>wpAny_mono h₁ (fun i s₂ h₂=>?_) fun _ _ x=>x) fun _ _ x=>x)
 obtain⟨hT,h₂⟩:=h₂
 unfold subscriptTail
 refine wpAny_bind ?_
 rw[getitemInPython_of_ne hT.not_modules]
 refine wpAny_bind (wpAny_specialOf hT hl ?_)
 have fin:wpAny (model prog w) A (subscripted slice false o i) (fun r s₃=>wpAny (model prog w) A (letTemporaryGo value o r >>= fun _=>pure r) Q E s₃) E s₂:=by
  rw[hs o i]
  exact wpAny_operating (wpAny_mono h₂ (fun r s₃ h₃=>wpAny_bind (wpAny_letTemporaryGo (wpAny_pure h₃))) fun _ _ x=>x)
 first
  | exact wpAny_pure (wpAny_bind fin)
  | exact wpAny_bind (wpAny_pure (wpAny_bind fin))
  | exact wpAny_bind fin
theorem y0q {X:Cx} {pins:List (Addr×Obj)} {σ:St} {H:Hp} {s:Shared} {a:Addr} {y:V} {o:Option V} (I:Inv X pins σ H s) (g:DGet H a y o):s.TypeIs (.ref a) "dict" :=by
 rcases g with⟨kvs,k,e,_,_⟩|⟨kvs,k,b,e,_,_,_⟩
 ·obtain⟨_,_,vs,_,dd⟩:=dk_rd I.hok e
  exact dd.typeIs
 ·obtain⟨_,_,xs,_,dd⟩:=dt_rd I.hok e
  exact dd.typeIs
noncomputable def tDGet (td ty:TE):TE:=fun σ H Q=>td σ H fun x H1=>ty σ H1 fun y H2=>∃a v,x=.ref a/\DGet H2 a y (some v)/\Q v H2
noncomputable def tDIn (ty td:TE):TE:=fun σ H Q=>ty σ H fun y H1=>td σ H1 fun x H2=>∃a o,x=.ref a/\DGet H2 a y o/\Q (.bl o.isSome) H2
noncomputable def y2r (ty td:TE):TE:=fun σ H Q=>ty σ H fun y H1=>td σ H1 fun x H2=>∃a o,x=.ref a/\DGet H2 a y o/\Q (.bl (!o.isSome)) H2
noncomputable def sDPut (td ty tv:TE):TS:=fun D σ H=>tv σ H fun v H1=>td σ H1 fun x H2=>ty σ H2 fun y H3=>∃a H4,x=.ref a/\DPut H3 a y v H4/\D.nx σ H4
section
variable {X:Cx} {o i e value:Expr} {pos pos' tpos:Pos} {td ty tv:TE}
theorem y7G (hu:X.A.units+1<cLine) (ho:PE X o td) (hi:PE X i ty) (hs:NoSl i):PE X (.Subscript o i pos) (tDGet td ty):=by
 intro pins s σ H Q I h
 refine y6o PySem.F.slot_dict_getitem.lookup hs (thn (ho pins s σ H _ I h) fun u s1 ⟨x,H1,I1,rx,q1⟩=>thn (hi pins s1 σ H1 _ I1 q1) fun iv s2 ⟨y,H2,I2,ry,a,v,ex,g,q2⟩=>?_)
 subst ex
 obtain rfl:u=Value.ref a:=rx
 exact⟨y0q I2 g,y4f hu I2 g ry fun w' s3 I3 rw'=>⟨v,H2,I3,rw',q2⟩⟩
theorem y3e (hu:X.A.units+1<cLine) (hi:PE X i ty) (ho:PE X o td):PC X .NotIn i o (y2r ty td):=by
 intro pins s σ H Q I h
 refine thn (hi pins s σ H _ I h) fun iv s1 ⟨y,H1,I1,ry,q1⟩=>thn (ho pins s1 σ H1 _ I1 q1) fun u s2 ⟨x,H2,I2,rx,a,ov,ex,g,q2⟩=>?_
 subst ex
 obtain rfl:u=Value.ref a:=rx
 exact y7d hu I2 g ry fun s3 I3=>⟨.bl (!ov.isSome),H2,I3,rfl,q2⟩
theorem y6z (hu:X.A.units+1<cLine) (ho:PE X o td) (hi:PE X i ty) (hv:PE X value tv) (hs:swapsWith value (some (.Subscript o i pos')) pos.line X.env=pure false) :
  PS X (.Assign [.Subscript o i pos'] value pos) (sDPut td ty tv):=by
 intro pins s σ H D I h
 refine wpAny_Assign_Subscript (thn (hv pins s σ H _ I h) fun r s1 ⟨v,H1,I1,rv,q1⟩=>thn (ho pins s1 σ H1 _ I1 q1) fun u s2 ⟨x,H2,I2,rx,q2⟩=>thn (hi pins s2 σ H2 _ I2 q2) fun iv s3 ⟨y,H3,I3,ry,a,H4,ex,g,q3⟩=>?_) hs
 subst ex
 obtain rfl:u=Value.ref a:=rx
 exact y4e hu I3 g ry rv fun s4 I4=>⟨σ,H4,I4,q3⟩
end
theorem y6D {P:Program} {w:World} {H:Hp} (h:Heap) (hb:sysModules<h.objs.size):ObjOk P w H (h.push { cls:=.type "dict",data:=.dict #[] }) h.objs.size (.dK []):=
 ⟨Nat.zero_le _,beq_eq_false_iff_ne.mpr (Ne.symm (Nat.ne_of_lt hb)),[],.nil,Heap.DictOf.new h⟩
noncomputable def y6N:TE:=fun _ H Q=>∀p,H p=none->Q (.ref p) (upd H p (.dK []))
section
variable {X:Cx} {pos:Pos}
theorem y5V:PE X (.Dict [] [] pos) y6N:=fun pins s σ H Q I h=>
 wpAny_Dict_empty ⟨.ref s.heap.objs.size,_,I.laid (a:=s.heap.objs.size) (o:=.dK []) (t':=s.toks) (fun _ _ q=>Heap.get?_push_of_some _ q) (Nat.le_refl _) (y6D s.heap I.big),rfl,h _ (I.hok.fresh (Nat.le_refl _))⟩
end
structure M1 (X:Cx) (o:Expr) (m:Str) (apos:Pos) (e:Expr) (cpos:Pos):Prop where
 base:attributeBase o m X.env (eval o X.env)=eval o X.env
 few:((backTo cpos (starEach [e] X.env)).all (fun x=>!x.1) && (backToKw cpos (keywordEach [] X.env)).all (fun x=>x.1.isSome)
  && decide (([e]:List Expr).length+([]:List Keyword).length+(if ([]:List Keyword).isEmpty then 0 else 1)<30))=true
 line:(apos.endLine == cpos.line)=true
 trees:backTo cpos (starEach [e] X.env)=[(false,eval e X.env)]
section
variable {X:Cx} {pins:List (Addr×Obj)} {σ:St} {H:Hp} {s:Shared} {a:Addr} {y d:V} {u r:Value} {o:Option V} {A:Around} {E:Value->Shared->Prop}
end
section
variable {X:Cx} {o e f:Expr} {apos cpos:Pos} {td ty tx:TE}
end
section
variable {X:Cx} {pins:List (Addr×Obj)} {σ:St} {H:Hp} {s:Shared} {a:Addr} {kvs:List (Key×V)} {A:Around} {E:Value->Shared->Prop}
end
section
variable {X:Cx} {pins:List (Addr×Obj)} {σ:St} {H:Hp} {s:Shared} {a:Addr} {y:V} {u:Value} {A:Around} {E:Value->Shared->Prop}
end
end L2
namespace L2
open PySem PySem.Spec PyProof.Rows
theorem z9T {prog:Program} {w:World} {A:Around} {R:Result->Shared->Prop} {s:Shared} {elt target iter:Expr} {ifs:List Expr} {scope:Scope} {pos:Pos} {it acc:Value} {env:Env} (J:Nat->Shared->Prop)
  (turn:∀n s,J n s->wpAny (model prog w) A (pyNext it) (fun r s₁=>match r with
   | none=>R (.ok .next) s₁
   | some v=>wpAny (model prog w) A (letOwnedTupleGo target it v) (fun _ s₁'=>wpAny (model prog w) A (assign target env v) (fun _ s₂=>
     wpAny (model prog w) A (forIn ifs true fun c r=>if r=true then do let ok ←isTrue c env (eval c env);pure (ForInStep.yield ok) else pure (ForInStep.yield r)) (fun ok s₃=>
      if ok=true then wpAny (model prog w) A (eval elt env) (fun x s₄=>
       wpAny (model prog w) A (call (.builtin "list.append") [acc,x]) (fun _ s₅=>∃m,m<n/\J m s₅) (fun _ _=>False) s₄) (fun _ _=>False) s₃
      else ∃m,m<n/\J m s₃) (fun _ _=>False) s₂) (fun _ _=>False) s₁') (fun _ _=>False) s₁) (fun _ _=>False) s)
  (n:Nat) (h:J n s):codeAny (model prog w) A (.compLoop (.ListComp elt [⟨target,iter,ifs,0⟩] scope pos) 0 it acc env) R s:=by
 refine codeAny_loop rfl J (fun n s hI=>?_) n h
 show wpAny _ A ((compTurn (.ListComp elt [⟨target,iter,ifs,0⟩] scope pos) 0 it acc env).onRaise (fun x=>do noteFrame x env;theTreesLotGoes x)) _ _ s
 refine wpAny_noted ?_
 rw[compTurn_list]
 refine wpAny_bind (wpAny_standAt (wpAny_bind (wpAny_mono (turn n s hI) (fun r s₁ h₁=>?_) fun _ _ h'=>h'.elim)))
 cases r with
 | none=>exact wpAny_pure h₁
 | some v=>
  refine wpAny_bind (wpAny_mono h₁ (fun _ s₁' h₁'=>?_) fun _ _ h'=>h'.elim)
  refine wpAny_bind (wpAny_mono h₁' (fun _ s₂ h₂=>wpAny_bind (wpAny_mono h₂ (fun ok s₃ h₃=>?_) fun _ _ h'=>h'.elim)) fun _ _ h'=>h'.elim)
  cases ok with
  | false=>exact wpAny_pure ⟨rfl,h₃⟩
  | true=>exact wpAny_bind (wpAny_bind (wpAny_mono h₃ (fun x s₄ h₄=>wpAny_bind (wpAny_mono h₄ (fun _ s₅ h₅=>wpAny_pure (wpAny_pure ⟨rfl,h₅⟩)) fun _ _ h'=>h'.elim)) fun _ _ h'=>h'.elim))
noncomputable def z1i (X:Cx) (N:List Str) (scope:Scope) (cl:List (Str×Addr)) (s:Shared) (H:Hp) (fp:List Addr):Cx:=
 { X with N:=N,s₀:=s,H₀:=H,env:=compEnvC scope cl s.heap.objs.size X.env,outer:=X.stack,ex:=fp,fn:=fun _=>false,pn:=[],xe:=fun _ _=>False }
structure CompSc (X:Cx) (own capt:List Str) (scope:Scope) (cl:List (Str×Addr)) (fr:List Nat):Prop where
 clos:closureFor scope X.env=pure cl
 nocell:∀y∈scope.names,y.2≠.cell
 kind:scope.kind=.function
 names:∀y∈scope.names,y.2=.local->scope.names.lookup y.1=some .local
 inn:∀y c,cl.lookup y=some c->X.env.cells.lookup y=some c
 has:∀y,((relabel scope X.env).names.lookup y=some .cell∨(relabel scope X.env).names.lookup y=some .free)->∃c,cl.lookup y=some c
 cap:∀(k:Nat) (y:Str),capt[k]?=some y->∃j c,fr[k]?=some j/\X.N[j]?=some y/\X.env.scope.names.lookup y=some .cell/\cl.lookup y=some c/\
  ((relabel scope X.env).names.lookup y=some .cell∨(relabel scope X.env).names.lookup y=some .free)
 len:capt.length=fr.length
theorem CompSc.none {X:Cx} {own:List Str} {scope:Scope} (h1:∀y∈scope.names,y.2≠.free) (h2:∀y∈scope.names,y.2≠.cell) (kind:scope.kind=.function) (names:∀y∈scope.names,y.2=.local->scope.names.lookup y.1=some .local) :
  CompSc X own [] scope [] [] where
 clos:=closureFor_none h1
 nocell:=h2
 kind:=kind
 names:=names
 inn:=fun y c e=>nomatch e
 has:=fun y e=>by
  have mem:∀(l:List (Str×NameKind)) (y:Str) (k:NameKind),l.lookup y=some k->∃z∈l,z.2=k:=by
   intro l
   induction l with
   | nil=>intro y k e;cases e
   | cons a r ih=>
    intro y k e
    obtain⟨n,q⟩:=a
    rw[List.lookup_cons] at e
    cases hy:y == n with
    | true=>rw[hy] at e;exact⟨(n,q),by simp,Option.some.inj e⟩
    | false=>
     rw[hy] at e
     obtain⟨z,hz,e2⟩:=ih y k e
     exact⟨z,by simp [hz],e2⟩
  exfalso
  have same:(relabel scope X.env).names=scope.names:=by
   unfold relabel
   exact map_eq_self (l:=scope.names) fun x hx=>by
    obtain⟨n,k⟩:=x
    have:(k == NameKind.free)=false:=by simpa using h1 _ hx
    simp [this]
  rw[same] at e
  rcases e with e|e
  ·obtain⟨z,hz,e2⟩:=mem _ _ _ e;exact h2 z hz e2
  ·obtain⟨z,hz,e2⟩:=mem _ _ _ e;exact h1 z hz e2
 cap:=fun k y e=>by simp at e
 len:=rfl
noncomputable def st0 (own:List Str) (fr:List Nat) (σ:St):St:=own.map (fun _=>Option.none)++fr.map fun j=>(σ[j]?).join
theorem y4h {X:Cx} {pins:List (Addr×Obj)} {σ:St} {H:Hp} {s:Shared} {own capt:List Str} {scope:Scope} {cl:List (Str×Addr)} {fr:List Nat} {fp:List Addr} (C:CompSc X own capt scope cl fr)
  (I:Inv X pins σ H s) (hf:∀b∈fp,FpOk X pins H b/\b<s.heap.objs.size):(z1i X (own++capt) scope cl s H fp).Ok where
 mod:=I.ok.mod
 kind:=C.kind
 glob:=I.ok.glob
 blt:=I.ok.blt
 above:=Nat.le_refl _
 inj:=fun x y c e1 e2=>I.ok.inj x y c (C.inn x c e1) (C.inn y c e2)
 has:=fun x e=>C.has x e
 cab:=fun x c e _=>by cases e
 hd:=I.ok.hd
 frames:=I.ok.frames
 stk:=.inl rfl
 exf:=fun b hb=>⟨Nat.ne_of_lt (hf b hb).2,fun x c e=>(hf b hb).1.2.2.2.2.1 x c (C.inn x c e)⟩
 bs:=I.bs
 bsz:=Nat.le_trans I.ok.bsz I.sz
 noex:=fun b o e hb=>by
  rcases (hf b hb).1.2.2.2.1 with z|z
  ·exact I.ok.noex b o e z
  ·exact absurd (Nat.lt_of_lt_of_le (Heap.lt_size e) (Nat.le_trans I.ok.bsz z)) (Nat.lt_irrefl _)
 exfs:=fun b hb z=>by
  rcases List.mem_cons.mp (I.stkSub b z) with e|z
  ·exact (hf b hb).1.2.1 e
  ·exact (hf b hb).1.2.2.1 z
 funs:=I.stack
 frf:=I.stkFree
theorem z9P {X:Cx} {pins:List (Addr×Obj)} {σ:St} {H:Hp} {s:Shared} {own capt:List Str} {scope:Scope} {cl:List (Str×Addr)} {fr:List Nat} {fp:List Addr} {h':Heap} {t':Nat} {m':Str->Option Value} (C:CompSc X own capt scope cl fr)
  (I:Inv X pins σ H s) (hf:∀b∈fp,FpOk X pins H b/\b<s.heap.objs.size) (hn:h'.Ns s.heap.objs.size m') (k:∀b o,s.heap.get? b=some o->h'.get? b=some o) :
  Inv (z1i X (own++capt) scope cl s H fp) [] (st0 own fr σ) H { s with heap:=h',toks:=t' } where
 ok:=y4h C I hf
 os:=rfl
 bare:=I.bare
 base:=Un.kept k
 loc:=by
  obtain⟨m,_,hl⟩:=I.loc
  refine⟨m',hn,fun i y v e1 e2 _=>?_⟩
  have e1':(own++capt)[i]?=some y:=e1
  unfold st0 at e2
  by_cases hi:i<own.length
  ·rw[List.getElem?_append_left (by simpa using hi)] at e2
   rw[List.getElem?_map] at e2
   cases q:own[i]? with
   | none=>rw[q] at e2;cases e2
   | some _=>rw[q] at e2;cases e2
  ·rw[List.getElem?_append_right (by simpa using hi)] at e2
   rw[List.getElem?_append_right (by simpa using hi)] at e1'
   simp only [List.length_map] at e2
   obtain⟨j,c,f1,f2,f3,f4,f5⟩:=C.cap _ y e1'
   rw[List.getElem?_map,f1] at e2
   have e3:(σ[j]?).join=some v:=Option.some.inj e2
   have e4:σ[j]?=some (some v):=by
    cases q:σ[j]? with
    | none=>rw[q] at e3;cases e3
    | some z=>rw[q] at e3;exact congrArg some e3
   obtain⟨u,r,l⟩:=hl j y v f2 e4 (.inr (.inl f3))
   refine⟨u,r,.inr ⟨f5,c,f4,?_⟩⟩
   rcases l with⟨k1,_⟩|⟨_,c',h1,h2⟩
   ·have k1':X.env.scope.names.lookup y=some .local:=k1
    rw[f3] at k1';cases k1'
   ·rw[C.inn y c f4] at h1
    cases h1
    obtain⟨o,ho,hd⟩:=h2
    exact⟨o,k _ _ ho,hd⟩
 cell:=fun y c e=>by
  obtain⟨v,o,ho,hd⟩:=I.cell y c (C.inn y c e)
  exact⟨v,o,k _ _ ho,hd⟩
 free:=I.hok.fresh (Nat.le_refl _)
 freeC:=fun y c e=>I.freeC y c (C.inn y c e)
 pin:=fun p hp=>by
  have:p∈([]:List (Addr×Obj)):=hp
  cases this
 hok:=I.hok.kept k
 len:=by
  show (st0 own fr σ).length=(own++capt).length
  unfold st0
  simp [C.len]
theorem y2X {X:Cx} {pins:List (Addr×Obj)} {σ σ':St} {H H':Hp} {s s':Shared} {N:List Str} {scope:Scope} {cl:List (Str×Addr)} {fp:List Addr} {pins':List (Addr×Obj)} {h':Heap}
  (I:Inv X pins σ H s) (hf:∀b∈fp,FpOk X pins H b/\b<s.heap.objs.size) (J:Inv (z1i X N scope cl s H fp) pins' σ' H' s') (hs:Heap.SameBut s.heap.objs.size s'.heap h') :
  Inv X pins σ H' { s' with heap:=h' }:=by
 have fr:H' s.heap.objs.size=none:=J.free
 have ne:∀ {b:Addr} {o:Obj},s.heap.get? b=some o->b≠s.heap.objs.size:=fun e=>Nat.ne_of_lt (Heap.lt_size e)
 have B:Un (frs X.stack) fp H H' s.heap s'.heap:=J.base
 refine I.call' (s':={ s' with heap:=h' }) (ch:=fp) J.os ?_ ?_ J.bare fun b hb=>⟨(hf b hb).1.2.2.2.1,(hf b hb).1.2.1,(hf b hb).1.2.2.2.2.1,(hf b hb).1.2.2.2.2.2⟩
 ·exact⟨fun b o e n h1 h2=>(hs.2 b (ne e)).trans (B.keep b o e n h1 h2),fun b o e n h1 h2=>let ⟨sl,q⟩:=B.slot b o e n h1 h2;⟨sl,(hs.2 b (ne e)).trans q⟩,B.free,
   fun b o e h1=>let ⟨o',q⟩:=B.there b o e h1;⟨o',(hs.2 b (ne e)).trans q⟩,B.tups,B.frzs,B.tbls⟩
 ·intro b ob e
  refine (J.hok b ob e).stay (fun c w' hc q=>(hs.2 c ?_).trans q) (fun _ q=>q) fun _ _ q=>q
  rintro rfl
  rcases hc with rfl|hc
  ·rw[fr] at e;cases e
  ·rw[fr] at hc;cases hc
noncomputable def PTs (X:Cx) (ifs:List Expr) (t:TT):Prop:=
 ∀(pins:List (Addr×Obj)) (s:Shared) (σ:St) (H:Hp) (Q:Bool->Hp->Prop),Inv X pins σ H s->t σ H Q->
  wpAny (model X.prog X.w) X.A (forIn ifs true fun c r=>if r=true then do let ok ←isTrue c X.env (eval c X.env);pure (ForInStep.yield ok) else pure (ForInStep.yield r)) (TP X pins σ Q) X.xe s
noncomputable def tTrue:TT:=fun _ H Q=>Q true H
theorem z0v {X:Cx}:PTs X [] tTrue:=fun _ _ _ H _ I h=>wpAny_tests_nil ⟨H,I,h⟩
theorem y3T {X:Cx} {c:Expr} {t:TT} (hc:PT X c t):PTs X [c] t:=fun pins s σ H Q I h=>wpAny_tests_one (hc pins s σ H Q I h)
noncomputable def tComp (wi:TI) (g:TG) (tt:TT) (te:TE) (own:List Str) (fr:List Nat):TE:=fun σ H Q=>wi σ H fun J H1=>∀D,H1 D=none->∃W:Nat->Nat->St->Hp->Prop,(∃m,W 0 m (st0 own fr σ) (upd H1 D (.lst [])))/\∀i m σc H,W i m σc H->
 (J.stop i H/\Q (.ref D) H)∨(J.go i H/\∃N:St->Hp->Prop,(∀σ' H',N σ' H'->∃m',m'<m/\W (i+1) m' σ' H')/\∀x H',J.yld i H x H'->g x σc H' fun σ2 H2=>tt σ2 H2 fun b H3=>
  if b=true then te σ2 H3 fun y H4=>∃ys,H4 D=some (.lst ys)/\ys.length<sizeLine/\N σ2 (upd H4 D (.lst (ys++[y]))) else N σ2 H3)
theorem z9R {X:Cx} {own capt:List Str} {scope:Scope} {cl:List (Str×Addr)} {fr:List Nat} {tg iter elt:Expr} {ifs:List Expr} {wi:TI} {g:TG} {tt:TT} {te:TE} {pos:Pos} (C:CompSc X own capt scope cl fr) (hc:X.calm=true)
  (hi:PI X tg iter wi) (hg:∀s H fp,PG (z1i X (own++capt) scope cl s H fp) tg g) (ht:∀s H fp,PTs (z1i X (own++capt) scope cl s H fp) ifs tt) (he:∀s H fp,PE (z1i X (own++capt) scope cl s H fp) elt te)
  {pins:List (Addr×Obj)} {s:Shared} {σ:St} {H:Hp} {Q:VK} {RR:Value->Addr->Result->Shared->Prop} (I:Inv X pins σ H s) (h:tComp wi g tt te own fr σ H Q)
  (hR:∀(D C:Addr) (H':Hp) (s':Shared) (m:Str->Option Value),s'.heap.Ns C m->FpOk X pins H' C->(∀h',Heap.SameBut C s'.heap h'->Inv X pins σ H' { s' with heap:=h' })->Q (.ref D) H'->RR (.ref D) C (.ok .next) s') :
  wpAny (model X.prog X.w) X.A (eval iter X.env) (fun x s₁=>wpAny (model X.prog X.w) X.A (pyIter x) (fun it s₂=>wpAny (model X.prog X.w) X.A (newList []) (fun acc s₃=>
   wpAny (model X.prog X.w) X.A (newFunctionEnv scope X.env.globals cl [] X.env.qual none .none (some X.env)) (fun cenv s₄=>
    codeAny (model X.prog X.w) X.A (.compStart (.ListComp elt [⟨tg,iter,ifs,0⟩] scope pos) 0 it acc { cenv with scope:=relabel scope X.env }) (RR acc cenv.locals) s₄) X.xe s₃) X.xe s₂) X.xe s₁) X.xe s:=by
 refine thn (hi pins s σ H _ I h) fun v s1 h1=>thn h1 fun itv s2 h2=>?_
 obtain⟨it,fp,tn,J,H2,e,I2,T,st2,f2,h2⟩:=h2
 subst e
 obtain⟨W,⟨m0,w0⟩,turn⟩:=h2 s2.heap.objs.size I2.fresh
 refine wpAny_newObj_type ?_
 have I3:Inv X pins σ (upd H2 s2.heap.objs.size (.lst [])) { s2 with heap:=s2.heap.push { cls:=.type "list",data:=.seq ([]:List Value).toArray } }:=I2.lnew (ys:=[]) (its:=[]) (t':=s2.toks) .nil (Nat.zero_le _)
 generalize hs3:({ s2 with heap:=s2.heap.push { cls:=.type "list",data:=.seq ([]:List Value).toArray } }:Shared)=s3 at I3 ⊢
 have keep3:∀b o,s2.heap.get? b=some o->s3.heap.get? b=some o:=fun b o e=>by rw[←hs3];exact Heap.get?_push_of_some _ e
 have sz3:s2.heap.objs.size<s3.heap.objs.size:=by rw[←hs3];show _<(s2.heap.push _).objs.size;rw[Heap.size_push];exact Nat.lt_succ_self _
 have fin:∀b∈fp,b<s2.heap.objs.size:=fun b hb=>by obtain⟨o,e,_⟩:=T.obj _ _ st2 b hb;exact Heap.lt_size e
 have f3:∀b∈fp,FpOk X pins (upd H2 s2.heap.objs.size (.lst [])) b/\b<s3.heap.objs.size:=fun b hb=>by
  obtain⟨a1,a2⟩:=f2 b hb
  exact⟨⟨by rw[z0U (Nat.ne_of_lt (fin b hb))];exact a1,a2⟩,Nat.lt_trans (fin b hb) sz3⟩
 refine wpAny_newFunctionEnv C.nocell (by intro y hy;simp at hy) (fun h4 hn4 hs4=>?_) C.kind
 have keep4:∀b o,s3.heap.get? b=some o->h4.get? b=some o:=fun b o e=>(hs4.2 b (Nat.ne_of_lt (Heap.lt_size e))).trans (Heap.get?_push_of_some _ e)
 have I4:Inv (z1i X (own++capt) scope cl s3 (upd H2 s2.heap.objs.size (.lst [])) fp) [] (st0 own fr σ) (upd H2 s2.heap.objs.size (.lst [])) { s3 with heap:=h4,toks:=s3.toks+([]:List (Str×Value)).length }:=z9P C I3 f3 hn4 keep4
 have st4:tn 0 h4:=T.keep _ _ _ st2 fun b _ o e=>keep4 b o (keep3 b o e)
 generalize hs5:({ s3 with heap:=h4,toks:=s3.toks+([]:List (Str×Value)).length }:Shared)=s5 at I4 ⊢
 have st5:tn 0 s5.heap:=by rw[←hs5];exact st4
 generalize hX:z1i X (own++capt) scope cl s3 (upd H2 s2.heap.objs.size (.lst [])) fp=Y at I4
 have hY1:Y.prog=X.prog:=by rw[←hX];rfl
 have hY2:Y.w=X.w:=by rw[←hX];rfl
 have hY3:Y.K=X.K:=by rw[←hX];rfl
 have hY4:Y.A=X.A:=by rw[←hX];rfl
 have hY5:Y.calm=true:=by rw[←hX];exact hc
 have hY6:Y.env=compEnvC scope cl s3.heap.objs.size X.env:=by rw[←hX];rfl
 have hY7:Y.xe=fun _ _=>False:=by rw[←hX];rfl
 have gY:PG Y tg g:=by rw[←hX];exact hg _ _ _
 have tY:PTs Y ifs tt:=by rw[←hX];exact ht _ _ _
 have eY:PE Y elt te:=by rw[←hX];exact he _ _ _
 have fY:∀ {H':Hp},(∀b∈fp,H' b=none)->∀b∈fp,FpOk Y [] H' b:=fun {H'} hn b hb=>by
  have ok:=I4.ok
  refine⟨hn b hb,(ok.exf b (by rw[←hX];exact hb)).1,ok.exfs b (by rw[←hX];exact hb),.inl (by rw[←hX];exact hb),fun x c e=>(ok.exf b (by rw[←hX];exact hb)).2 x c e,fun p hp=>?_⟩
  have:p∈([]:List (Addr×Obj)):=by rw[←hX] at hp;exact hp
  cases this
 have loop:∀s6,s6=s5->codeAny (model X.prog X.w) X.A (.compLoop (.ListComp elt [⟨tg,iter,ifs,0⟩] scope pos) 0 (.ref it) (.ref s2.heap.objs.size) (compEnvC scope cl s3.heap.objs.size X.env)) (RR (.ref s2.heap.objs.size) s3.heap.objs.size) s6:=by
  rintro s6 rfl
  refine z9T (fun n s'=>∃i σ' H',Inv Y [] σ' H' s'/\tn i s'.heap/\(∀b∈fp,H' b=none)/\W i n σ' H') ?_ m0 ⟨0,_,_,I4,st5,fun b hb=>(f3 b hb).1.1,w0⟩
  rintro n s7 ⟨i,σ7,H7,I7,st7,fr7,w7⟩
  have pn:=hY1;have pw:=hY2
  rcases turn i n σ7 H7 w7 with⟨stop,qn⟩|⟨go,N,hN,step⟩
  ·have z:=T.done Y hY1 hY2 hY3 hY5 i [] s7 σ7 H7 (fun _ _=>False) I7 (fY fr7) st7 stop
   rw[hY4] at z
   refine thn z fun r s8 ⟨hr,I8⟩=>?_
   subst hr
   obtain⟨m8,hn8,_⟩:=I8.loc
   rw[hY6] at hn8
   have fC:H7 s3.heap.objs.size=none:=by have z:=I8.free;rw[hY6] at z;exact z
   refine hR _ _ H7 s8 m8 hn8 (I3.fpOk (Nat.le_refl _) fC) (fun h' sb=>?_) qn
   rw[←hX] at I8
   exact y2X I3 f3 I8 sb
  ·have z:=T.item Y hY1 hY2 hY3 hY5 i [] s7 σ7 H7 (fun _ _=>False) I7 (fY fr7) st7 go
   rw[hY4] at z
   refine thn z fun r s8 ⟨u,hr,h8⟩=>?_
   subst hr
   refine thn h8 fun _ s9 ⟨x,H9,I9,r9,y9,st9,fr9⟩=>?_
   have I9':=I9.pinned (fY fr9) (T.obj _ _ st9)
   have z2:=gY _ s9 σ7 H9 x u _ I9' r9 (step x H9 y9)
   rw[hY1,hY2,hY4,hY6,hY7] at z2
   refine thn z2 fun _ sA ⟨σA,HA,IA,qA⟩=>?_
   have z3:=tY _ sA σA HA _ IA qA
   rw[hY1,hY2,hY4,hY6,hY7] at z3
   refine thn z3 fun b sB ⟨HB,IB,qB⟩=>?_
   have again:∀ {σZ:St} {HZ:Hp} {sZ:Shared},Inv Y ([]++z8y fp s9.heap) σZ HZ sZ->N σZ HZ->∃m,m<n/\∃i σ' H',Inv Y [] σ' H' sZ/\tn i sZ.heap/\(∀b∈fp,H' b=none)/\W i m σ' H':=fun {σZ HZ sZ} IZ nZ=>by
    obtain⟨m',hm,wZ⟩:=hN σZ HZ nZ
    refine⟨m',hm,i+1,σZ,HZ,IZ.unpinned,T.keep _ _ _ st9 fun b hb o e=>(IZ.pin (b,o) (List.mem_append_right _ (List.mem_append_right _ (z3M hb e)))).1,fun b hb=>?_,wZ⟩
    obtain⟨o,e,d⟩:=T.obj _ _ st9 b hb
    exact (IZ.pin (b,o) (List.mem_append_right _ (List.mem_append_right _ (z3M hb e)))).2.1
   cases b with
   | false=>exact again IB qB
   | true=>
    have z4:=eY _ sB σA HB _ IB qB
    rw[hY1,hY2,hY4,hY6,hY7] at z4
    refine thn z4 fun y sC ⟨vy,HC,IC,rC,ys,hD,hz,nC⟩=>?_
    have z5:=z1g (X:=Y) _ sC σA HC (.ref s2.heap.objs.size) [vy] (.ref s2.heap.objs.size) [y] (fun _ H'=>N σA H') IC rfl (.cons rC .nil) ⟨_,ys,vy,rfl,rfl,hD,hz,nC⟩
    rw[hY1,hY2,hY4,hY7] at z5
    exact thn z5 fun _ sD ⟨_,HD,ID,_,nD⟩=>again ID nD
 exact codeAny_compStart_list (loop _ rfl) (T.self _ 0 _ _ _ st5 (loop _ rfl))
theorem z1F {X:Cx} {own capt:List Str} {scope:Scope} {cl:List (Str×Addr)} {fr:List Nat} {tg iter elt:Expr} {ifs:List Expr} {wi:TI} {g:TG} {tt:TT} {te:TE} {pos:Pos} (C:CompSc X own capt scope cl fr) (hc:X.calm=true)
  (hi:PI X tg iter wi) (hg:∀s H fp,PG (z1i X (own++capt) scope cl s H fp) tg g) (ht:∀s H fp,PTs (z1i X (own++capt) scope cl s H fp) ifs tt) (he:∀s H fp,PE (z1i X (own++capt) scope cl s H fp) elt te)
  (hs:∀x,foldedSetIterable iter X.env x=pure x:=by intro _;rfl):PE X (.ListComp elt [⟨tg,iter,ifs,0⟩] scope pos) (tComp wi g tt te own fr):=by
 intro pins s σ H Q I h
 rw[eval_ListComp]
 refine wpAny_comprehension_free (use:=none) rfl hs C.clos C.kind C.names ?_
 exact z9R (RR:=fun acc C=>compPost (model X.prog X.w) X.A X.xe none (EP X pins σ Q) acc C) C hc hi hg ht he I h fun D C H' s' m hn _ hI q=>⟨m,hn,fun h' sb=>⟨.ref D,H',hI h' sb,rfl,q⟩⟩
theorem z4S {X:Cx} {own capt:List Str} {scope:Scope} {cl:List (Str×Addr)} {fr:List Nat} {tg iter elt:Expr} {ifs:List Expr} {wi:TI} {g:TG} {tt:TT} {te:TE} {pos spos py:Pos} {y:Str} {i:Nat} (hN:X.N.Nodup) (hi':X.N[i]?=some y) (hy:Loc X.env.scope y) (C:CompSc X own capt scope cl fr) (hc:X.calm=true)
  (hi:PI X tg iter wi) (hg:∀s H fp,PG (z1i X (own++capt) scope cl s H fp) tg g) (ht:∀s H fp,PTs (z1i X (own++capt) scope cl s H fp) ifs tt) (he:∀s H fp,PE (z1i X (own++capt) scope cl s H fp) elt te)
  (hsw:swapsWith (.ListComp elt [⟨tg,iter,ifs,0⟩] scope pos) (some (.Name y py)) spos.line X.env=pure true:=by rfl)
  (hs:∀x,foldedSetIterable iter X.env x=pure x:=by intro _;rfl) (hf:X.fn y=true∨X.env.scope.names.lookup y=some .local:=by first|exact .inl rfl|exact .inr rfl|assumption) :
  PS X (.Assign [.Name y py] (.ListComp elt [⟨tg,iter,ifs,0⟩] scope pos) spos) (tAsg (tComp wi g tt te own fr) (gName i)):=by
 intro pins s σ H D I h
 rw[exec_Assign_Name_used _ _ _ _ hsw]
 refine wpAny_bind (wpAny_standAt (wpAny_bind ?_))
 show wpAny _ X.A (do let _ ←comprehension (.ListComp elt [⟨tg,iter,ifs,0⟩] scope pos) scope X.env _ (newList []) false (eval iter X.env) (some (assign (.Name y py) X.env))) _ _ s
 refine wpAny_bind (wpAny_mono (wpAny_comprehension_free (use:=some (assign (.Name y py) X.env)) (Q:=fun _ s'=>SP X pins D .next s') rfl hs C.clos C.kind C.names ?_) (fun _ s' hq=>wpAny_pure (wpAny_pure hq)) fun _ _ e=>e)
 refine z9R (RR:=fun acc C=>compPost (model X.prog X.w) X.A X.xe (some (assign (.Name y py) X.env)) (fun _ s'=>SP X pins D .next s') acc C) C hc hi hg ht he I h fun Dn Cn H' s' m hn F hI q=>?_
 show wpAny _ X.A (assign (.Name y py) X.env (.ref Dn)) _ _ _
 have IX:Inv X pins σ H' s':=hI s'.heap (.refl ..)
 refine wpAny_assign_Name (z8Z IX hN hi' hy (v:=.ref Dn) rfl (fun s'' I'' ⟨a,sb,ha⟩=>?_) hf)
 have na:Cn≠a:=by
  rcases ha with z|z
  ·rw[z];exact F.2.1
  ·exact fun q=>F.2.2.2.2.1 _ _ z q.symm
 refine⟨m,hn.sameBut sb na,fun h' sb'=>⟨_,H',?_,q⟩⟩
 exact I''.turned (t':=s''.toks) (fun b o hb e=>(sb'.2 b hb).trans e) F.1 F.2.1 F.2.2.2.1 F.2.2.2.2.1 F.2.2.2.2.2
end L2
namespace L2
open PySem PySem.Spec PyProof.Rows
noncomputable def Has (P:Program) (w:World) (K:PySem.W.Frag) (mg:Str->Option Value) (base:Heap) (k:Nat) (x:Str) (ps:List Str) (sp:Sp):Prop:=
 ∃f fd,FnOk P w K mg base CX0 k f fd ps sp/\(∀us:List Value,us.length=ps.length->bindArgs fd ⟨us,[]⟩=pure (ps.zip us))/\PySem.W.keepIn K (.ref f)=true/\mg x=some (.ref f)/\∃oc od osl,K.lookup f=some ⟨oc,od,.func fd,osl⟩
theorem Has.mono {P:Program} {w:World} {K:PySem.W.Frag} {mg:Str->Option Value} {base:Heap} {j k:Nat} {x:Str} {ps:List Str} {sp:Sp} (h:Has P w K mg base j x ps sp) (hk:j<=k):Has P w K mg base k x ps sp:=
 let ⟨f,fd,F,b⟩:=h
 ⟨f,fd,F.mono hk,b⟩
theorem z0J {X:Cx} {k:Nat} {x:Str} {ps:List Str} {sp:Sp} {p pos:Pos} {e:Expr} {es:List Expr} {t:TA} (h:Has X.prog X.w X.K X.mg X.base k x ps sp) (hr:Room k X.A) (ha:PA X (e::es) t) (hg:Gl X x:=by rfl)
  (hdb:(x == ("__debug__" : Str))=false:=by decide) (he:starEach (e::es) X.env=(false,eval e X.env)::starEach es X.env:=by rfl) (hpl:(backTo pos (starEach es X.env)).any (·.1)=false:=by rfl) :
  PE X (.Call (.Name x p) (e::es) [] pos) (tCall sp [] E0 t):=by
 obtain⟨f,fd,F,hb,hk,hm,_⟩:=h
 exact y3d F hr hg hm hk (.all hb) .nil pass0 ha hdb he hpl
noncomputable def TF (K:PySem.W.Frag) (mg:Str->Option Value) (x:Str) (st:Stmt):Prop:=∃f fd,Fun K x x st f fd/\mg x=some (.ref f)
theorem tf_mk {K:PySem.W.Frag} {h:Heap} {mg:Str->Option Value} {x:Str} {st:Stmt} {f:Addr} {oc:Value} {od an:Option Addr} {osl:Array (Option Value)} {kV doc pm cdv ct:Value} (X:K.In h) (G:h.Ns mainGlobals mg)
  (a:PySem.W.nsIn K mainGlobals x=some (some (.ref f))) (l:K.lookup f=some ⟨oc,od,.func (PySem.W.fnOf x x (z2N st) (z1G st) (z0G st) .none kV doc pm an cdv ct),osl⟩) (c:PySem.W.codeIn K cdv x=true) (k:PySem.W.keepIn K (.ref f)=true):TF K mg x st:=
 ⟨f,_,y6a l c k,PySem.W.mg_of X G a⟩
theorem TF.has {P:Program} {w:World} {K:PySem.W.Frag} {mg:Str->Option Value} {base:Heap} {x:Str} {st:Stmt} {N ps:List Str} {k:Nat} {sp:Sp} (T:TF K mg x st) (S:FnScope N ps (z0G st))
  (hb:∀(kV doc pm:Value) (an:Option Addr) (cdv ct:Value) (us:List Value),us.length=ps.length->bindArgs (PySem.W.fnOf x x (z2N st) (z1G st) (z0G st) .none kV doc pm an cdv ct) ⟨us,[]⟩=pure (ps.zip us))
  (len:∀vs H Q E,sp vs H Q E->vs.length=ps.length)
  (hbody:∀(f:Addr) (cdv:Value) (A:Around) (outer:List Env) (s:Shared) (H:Hp) (vs:List V) (Q:VK) (E:XK),Room k (A.deeper (envOfC x (z0G st) s.heap.objs.size f cdv))->sp vs H Q E->
   ∃t,PSs (cxOf CX0 P w K mg base N x (z0G st) f cdv A outer s H E).nox (z1G st) t/\t { nx:=fun _ H'=>Q .non H',rt:=Q } (start N vs) H):Has P w K mg base (k+1) x ps sp:=by
 obtain⟨f,fd,F,m⟩:=T
 have ok:=F.ok (P:=P) (w:=w) (mg:=mg) (base:=base) S len fun cdv A outer s H vs Q E hr hsp=>hbody f cdv A outer s H vs Q E hr hsp
 obtain⟨oc,od,kV,doc,pm,an,cdv,ct,osl,rfl,lk,hcd⟩:=F.ex
 exact⟨f,_,ok,hb kV doc pm an cdv ct,F.kp,m,oc,od,osl,lk⟩
theorem y7S {P:Program} {w:World} {K:PySem.W.Frag} {mg:Str->Option Value} {h:Heap} {k:Nat} {sp:Sp} {fa:Addr} (KX:K.In h) (G:h.Ns mainGlobals mg) (hfa:mg "law" = some (.ref fa))
  (H:∀base:Heap,K.In base->base.Ns mainGlobals mg->Has P w K mg base k "law" ["script"] sp) :
  ∃fd:FuncData,(∀(s:Shared) (v:Value),BindsTo s fd ⟨[v],[]⟩ [("script",v)])/\∀base:Heap,K.In base->base.Ns mainGlobals mg->FnOk P w K mg base CX0 k fa fd ["script"] sp:=by
 obtain⟨f,fd,F,hb,hk,hm,oc,od,osl,hl⟩:=H h KX G
 rw[hfa] at hm
 cases hm
 refine⟨fd,fun s v=>.of_eq (hb [v] rfl),fun base kb nb=>?_⟩
 obtain⟨f',fd',F',_,_,hm',oc',od',osl',hl'⟩:=H base kb nb
 rw[hfa] at hm'
 cases hm'
 rw[hl] at hl'
 cases hl'
 exact F'
theorem y0r {ns:List Int}:∀z∈ns,Builtin.Int.intBits z<=PySem.W.WData.weightAll (ns.map PySem.W.WData.int):=by
 induction ns with
 | nil=>intro z hz;cases hz
 | cons a r ih=>
  intro z hz
  rw[List.map_cons]
  show _<=PySem.W.WData.weight (.int a)+1+PySem.W.WData.weightAll (r.map PySem.W.WData.int)
  rcases List.mem_cons.mp hz with e|hz
  ·subst e
   have:PySem.W.WData.weight (.int z)=Builtin.Int.intBits z:=rfl
   omega
  ·have:=ih z hz
   omega
open PySem.W in
theorem law_walk {l:PySem.W.OpenLaw} {k:Nat} {q:Program} {loose:List Str} {XP:(Str->Option Value)->Heap->Prop} {YP:World->Heap->Prop} {d:DefRec} {K:Params->PySem.W.Frag} {sp:PySem.W.Frag->Sp}
  (hn:l.most=some 63) (hdf:d.params.defaults=[]) (hr:Room k callerA)
  (hY:∀(w:World) (h:Heap),YP w h->(K w.params).In h)
  (F:∀(w:World) (mg:Str->Option Value) (fa:Addr) (h:Heap),(K w.params).In h->h.Ns mainGlobals mg->mg d.name=some (.ref fa)->
   ∃fd:FuncData,(∀(s:Shared) (u:Value),BindsTo s fd ⟨[u],[]⟩ [("script",u)])/\
    ∀base:Heap,(K w.params).In base->base.Ns mainGlobals mg->FnOk l.prog w (K w.params) mg base CX0 k fa fd ["script"] (sp (K w.params)))
  (hsp:∀(K:PySem.W.Frag) (H:Hp) (a:Addr) (ns:List Int),ns.length<=63->(∀z∈ns,Builtin.Int.intBits z<=2^20)->SqL K H a (ns.map V.int)->sp K [.ref a] H (fun v _=>v=.bl true) fun _ _ _=>False) :
  PySem.W.WalkO q loose XP YP l.row.toRowW d [] (fun f vs=>PySem.call f vs):=by
 intro w s₀ s₁ mg mb G Y fa o pm cd doc dV kV ho hd hcd hD hmg hg args vals as hpre hlay hrd hwl hlo
 obtain rfl:dV=.none:=Dflts.none hD hdf
 obtain rfl:kV=.none:=Dflts.noKw hD
 obtain⟨a,vs,ns,rfl,rfl,hobj,hints,hlen⟩:=Att.script_of hn hpre hwl
 have hbits:∀z∈ns,Builtin.Int.intBits z<=2^20:=fun z hz=>by
  have h1:WData.layable (WData.list (ns.map WData.int))=true:=by
   have:=hlay
   simp only [WData.layableAll,List.all_cons,List.all_nil,Bool.and_true] at this
   exact this
  unfold WData.layable at h1
  have h2:WData.weight (WData.list (ns.map WData.int))<=2^20:=by
   have:=(Bool.and_eq_true_iff.mp h1).2
   exact of_decide_eq_true this
  exact Nat.le_trans (y0r z hz) h2
 have KX:=hY w _ Y
 obtain⟨fd,hb,hF⟩:=F w mg fa _ KX G.T.g hmg
 refine enter_call (codeAny_mono (y5q (CX:=CX0) (sp:=sp (K w.params)) KX G.T.g G.T.b G.T.builtins G.T.nolimit hg hobj hints (Nat.le_trans hlen (by decide)) hr hF hb (fun H _ hS=>hsp _ H a ns hlen hbits hS) fun _ _ _ z=>z) fun r s' hq=>?_)
 obtain⟨rfl,h2,h3,h4⟩:=hq
 exact⟨.inl ⟨.bool true,.bool true,[],rfl,fun _=>rfl,.bool true,Att.post_true l _,fun _=>⟨List.Pairwise.nil,fun _ hm=>(nomatch hm)⟩⟩,h2,h3,h4⟩
theorem z1l {X:Cx}:OpR X (binaryOp .Mult) (rI IntMulOk fun i j=>.int (i*j)):=opI fun _ _ _ _ _ _ _ hc q=>mul_int q hc
noncomputable def CDivA (_ j:Int):Prop:=0<j/\j.natAbs.log2<9000
theorem z0l {X:Cx}:OpR X (binaryOp .FloorDiv) (rI CDivA fun i j=>.int (i/j)):=opI fun i j _ _ _ _ _ hc q=>by
 refine floordiv_int (by have:=hc.1;omega) ?_ (.inl (PyProof.noPylong_of_log2 hc.2))
 rw[Int.fdiv_eq_ediv_of_nonneg i (Int.le_of_lt hc.1)]
 exact q
theorem mok {i j:Int} (m n:Nat) (h1:i.natAbs<2^m) (h2:j.natAbs<2^n) (h:m+n<=134217728):IntMulOk i j:=IntMulOk.of_le (intBits_le_iff.mpr h1) (intBits_le_iff.mpr h2) h
theorem mokS {i j:Int} (h1:-(2^64)<j) (h2:j<2^64):IntMulOk i j:=.of_right (intBits_le_64 h1 h2)
theorem divA {i j:Int} (n:Nat) (h0:0<j) (h:j.natAbs<2^n) (hn:n<=9000):CDivA i j:=⟨h0,Nat.lt_of_lt_of_le ((Nat.log2_lt (by omega)).mpr h) hn⟩
noncomputable def rIsI (K:PySem.W.Frag):List V->Hp->VK->Prop:=fun xs H Q=>∃x T t b,xs=[x,.ty T]/\TyOf K H x t/\PySem.W.kitOne K t (.type T)=some b/\Q (.bl b) H
theorem z8O {X:Cx}:CallR X (.builtin "isinstance") (rIsI X.K):=by
 intro pins s σ H xs us Q I r h
 obtain⟨x,T,t,b,rfl,ty,e,q⟩:=h
 obtain⟨u,c,rfl,r1,r2⟩:=Vals.two r
 obtain rfl:c=Value.type T:=r2
 exact y3t I r1 ty e fun tk=>⟨.bl b,H,I.tok tk,rfl,q⟩
section
variable {D:Ends} {σ:St} {H:Hp} {Q:VK}
theorem z9g {t u:TS}:tSeq t u D σ H=t { D with nx:=u D } σ H:=rfl
theorem z9o {c:TT} {t u:TS}:tIfS c t u D σ H=c σ H fun b H1=>if b=true then t D σ H1 else u D σ H1:=rfl
theorem z9u {te:TE} {g:TG}:tAsg te g D σ H=te σ H fun x H1=>g x σ H1 D.nx:=rfl
theorem z8D {i:Nat} {v:V} {R:St->Hp->Prop}:gName i v σ H R=R (σ.set i (some v)) H:=rfl
theorem z9i {te:TE}:tRet te D σ H=te σ H D.rt:=rfl
theorem z6x:tRetN D σ H=D.rt .non H:=rfl
theorem z7A:tNext D σ H=D.nx σ H:=rfl
theorem z5C:y7t D σ H=D.bk σ H:=rfl
theorem z7H:tCont D σ H=D.ct σ H:=rfl
theorem z7G {te:TE}:tDrop te D σ H=te σ H fun _ H1=>D.nx σ H1:=rfl
theorem tC_ap {v:V}:tC v σ H Q=Q v H:=rfl
theorem y6m {i:Nat} {v:V} (h:σ[i]?=some (some v)):tVar i σ H Q=Q v H:=propext ⟨fun⟨u,e,q⟩=>by rw[h] at e;cases e;exact q,fun q=>⟨v,h,q⟩⟩
theorem y2k {v:V} {l:St}:tVar 0 (some v::l) H Q=Q v H:=y6m rfl
theorem y2j {i:Nat} {o:Option V} {l:St}:tVar (i+1) (o::l) H Q=tVar i l H Q:=rfl
theorem y2o {r:R2} {ta tb:TE}:tOp r ta tb σ H Q=ta σ H fun x H1=>tb σ H1 fun y H2=>r x y H2 Q:=rfl
theorem y2l {r:V->Hp->VK->Prop} {ta:TE}:tUn r ta σ H Q=ta σ H fun x H1=>r x H1 Q:=rfl
theorem y3R {g:Int->Int->V} {i j:Int}:rI0 g (.int i) (.int j) H Q=Q (g i j) H:=propext ⟨fun⟨a,b,e1,e2,q⟩=>by cases e1;cases e2;exact q,fun q=>⟨i,j,rfl,rfl,q⟩⟩
theorem rI_ap {C:Int->Int->Prop} {g:Int->Int->V} {i j:Int}:rI C g (.int i) (.int j) H Q=(C i j/\Q (g i j) H):=propext ⟨fun⟨a,b,e1,e2,q⟩=>by cases e1;cases e2;exact q,fun q=>⟨i,j,rfl,rfl,q⟩⟩
theorem rU_ap {g:Int->V} {i:Int}:rU g (.int i) H Q=Q (g i) H:=propext ⟨fun⟨a,e1,q⟩=>by cases e1;exact q,fun q=>⟨i,rfl,q⟩⟩
theorem y0J {i j:Int}:rEq (.int i) (.int j) H Q=Q (.bl (decide (i=j))) H:=propext ⟨fun⟨_,q⟩=>by simpa using q,fun q=>⟨rfl,by simpa using q⟩⟩
theorem y0I {i j:Int}:rNe (.int i) (.int j) H Q=Q (.bl (!decide (i=j))) H:=propext ⟨fun⟨_,q⟩=>by simpa using q,fun q=>⟨rfl,by simpa using q⟩⟩
theorem z6w {t:TE} {R:Bool->Hp->Prop}:tTest t σ H R=t σ H fun x H'=>∃k,x=.bl k/\R k H':=rfl
theorem ex_bl {b:Bool} {R:Bool->Prop}:(∃k,V.bl b=.bl k/\R k)=R b:=propext ⟨fun⟨k,e,q⟩=>by cases e;exact q,fun q=>⟨b,rfl,q⟩⟩
theorem y4X {a:Addr} {R:Addr->Prop}:(∃k,V.ref a=.ref k/\R k)=R a:=propext ⟨fun⟨k,e,q⟩=>by cases e;exact q,fun q=>⟨a,rfl,q⟩⟩
theorem y4Y {a:Int} {R:Int->Prop}:(∃k,V.int a=.int k/\R k)=R a:=propext ⟨fun⟨k,e,q⟩=>by cases e;exact q,fun q=>⟨a,rfl,q⟩⟩
theorem z9v {t u:TT} {R:Bool->Hp->Prop}:tAnd t u σ H R=t σ H fun c H1=>if c=true then u σ H1 R else R false H1:=rfl
theorem y2n {t u:TT} {R:Bool->Hp->Prop}:tOr t u σ H R=t σ H fun c H1=>if c=true then R true H1 else u σ H1 R:=rfl
theorem z9l {t:TT} {R:Bool->Hp->Prop}:tNot t σ H R=t σ H fun c H1=>R (!c) H1:=rfl
theorem z7L {ta tb:TE}:tAndV ta tb σ H Q=ta σ H fun x H1=>∃c,x=.bl c/\if c=true then tb σ H1 Q else Q (.bl false) H1:=rfl
theorem z9k {ta tb:TE}:tOrV ta tb σ H Q=ta σ H fun x H1=>∃c,x=.bl c/\if c=true then Q (.bl true) H1 else tb σ H1 Q:=rfl
theorem z6z {ta:TE}:tNotV ta σ H Q=ta σ H fun x H1=>∃c,x=.bl c/\Q (.bl (!c)) H1:=rfl
theorem y2q {t:TT} {ta tb:TE}:tIf t ta tb σ H Q=t σ H fun c H1=>if c=true then ta σ H1 Q else tb σ H1 Q:=rfl
theorem z9m {R:List V->Hp->Prop}:tNil σ H R=R [] H:=rfl
theorem z7I {ta:TE} {tr:TA} {R:List V->Hp->Prop}:tCons ta tr σ H R=ta σ H fun x H1=>tr σ H1 fun xs H2=>R (x::xs) H2:=rfl
theorem z9f {t:TA}:tTup t σ H Q=t σ H fun xs H1=>xs.length<=sizeLine/\∀p,H1 p=none->Q (.ref p) (upd H1 p (.tup xs)):=rfl
theorem z9n {t:TA}:tLst t σ H Q=t σ H fun xs H1=>xs.length<=sizeLine/\∀p,H1 p=none->Q (.ref p) (upd H1 p (.lst xs)):=rfl
theorem z7K {sp:Sp} {dvs:List V} {E:XK} {t:TA}:tCall sp dvs E t σ H Q=t σ H fun vs H1=>sp (vs++dvs) H1 Q E:=rfl
theorem y2u {r:List V->Hp->VK->Prop} {t:TA}:tCB r t σ H Q=t σ H fun vs H1=>r vs H1 Q:=rfl
theorem z5B {r r':R2} {ta tb tc:TE}:y2t r r' ta tb tc σ H Q=ta σ H fun x H1=>tb σ H1 fun y H2=>r x y H2 fun z H3=>∃k,z=.bl k/\(if k=true then tc σ H3 fun w' H4=>r' y w' H4 Q else Q (.bl false) H3):=rfl
theorem z9j {i j:Nat} {ta:TA}:tPar i j ta D σ H=ta σ H fun vs H1=>∃v w,vs=[v,w]/\D.nx ((σ.set i (some v)).set j (some w)) H1:=rfl
theorem y4W {v w:V} {R:V->V->Prop}:(∃a b,[v,w]=[a,b]/\R a b)=R v w:=propext ⟨fun⟨a,b,e,q⟩=>by cases e;exact q,fun q=>⟨v,w,rfl,q⟩⟩
theorem z9t {i:Nat} {te:TE} {ti:TIp}:tAug i te ti D σ H=tVar i σ H fun x _=>te σ H fun y H1=>ti x y H1 fun z H2=>D.nx (σ.set i (some z)) H2:=rfl
theorem y3y {f:Int->Int->Int} {i j:Int}:ipI f (.int i) (.int j) H Q=Q (.int (f i j)) H:=propext ⟨fun⟨a,b,e1,e2,q⟩=>by cases e1;cases e2;exact q,fun q=>⟨i,j,rfl,rfl,q⟩⟩
theorem y2m {r:V->Option Int->Option Int->Hp->VK->Prop} {te:TE} {tl th:TO}:tSl r te tl th σ H Q=te σ H fun x H1=>tl σ H1 fun l H2=>th σ H2 fun u H3=>r x l u H3 Q:=rfl
theorem z4I {R:Option Int->Hp->Prop}:y2p σ H R=R none H:=rfl
theorem z6y {t:TE} {R:Option Int->Hp->Prop}:tPart t σ H R=t σ H fun x H1=>∃i,x=.int i/\R (some i) H1:=rfl
theorem y2v {K:PySem.W.Frag} {T:String} {r:V->List V->Hp->VK->Prop} {to:TE} {t:TA}:tBM K T r to t σ H Q=to σ H fun x H1=>tyV K T x H1/\t σ H1 fun xs H2=>r x xs H2 Q:=rfl
theorem z6v {R:Bool->Hp->Prop}:tTrue σ H R=R true H:=rfl
theorem y0o {to ti:TE} {t:TSet} {v:V} {R:St->Hp->Prop}:gSub to ti t v σ H R=to σ H fun o H1=>ti σ H1 fun i H2=>t o i v H2 fun H3=>R σ H3:=rfl
theorem y0U {c:Prop} [Decidable c] {A B:Prop}:(if c then A else B)=((c->A)/\(¬c->B)):=by
 by_cases h:c
 ·simp [h]
 ·simp [h]
noncomputable def oV:Option Int->V
 | some i=>.int i
 | none=>.non
end
end L2
namespace L2
open PySem PySem.Spec PyProof.Rows
theorem y4g {CX:CXT} {P:Program} {w:World} {K:PySem.W.Frag} {mg:Str->Option Value} {base:Heap} {N:List Str} {qual:Str} {scope:Scope} {f:Addr} {cd:Value} {A:Around} {outer:List Env} {s:Shared} {H:Hp} {E:XK}:(cxOf CX P w K mg base N qual scope f cd A outer s H E).K=K:=rfl
theorem z8K {X:Cx} {N:List Str} {scope:Scope} {cl:List (Str×Addr)} {s:Shared} {H:Hp} {fp:List Addr}:(z1i X N scope cl s H fp).K=X.K:=rfl
section
variable {D:Ends} {σ:St} {H:Hp} {Q:VK}
noncomputable def ForW (J:It) (g:TG) (tb:TS) (D:Ends) (σ:St) (H:Hp):Prop:=∃W:Nat->Nat->St->Hp->Prop,(∃m,W 0 m σ H)/\∀i m σ H,W i m σ H->
 (J.stop i H/\D.nx σ H)∨(J.go i H/\∃N:St->Hp->Prop,(∀σ' H',N σ' H'->∃m',m'<m/\W (i+1) m' σ' H')/\∀x H',J.yld i H x H'->g x σ H' fun σ2 H2=>tb { D with nx:=N,ct:=N,bk:=D.nx } σ2 H2)
theorem z9p {wi:TI} {g:TG} {tb:TS}:tFor wi g tb D σ H=wi σ H fun J H1=>ForW J g tb D σ H1:=rfl
theorem z1r {lo:Int} {n:Nat} {g:TG} {tb:TS} (Pv:Nat->St->Hp->Prop) (h0:Pv 0 σ H)
  (hs:∀i σ H,i<n->Pv i σ H->g (.int (lo+i)) σ H fun σ2 H2=>tb { D with nx:=Pv (i+1),ct:=Pv (i+1),bk:=D.nx } σ2 H2) (hd:∀σ H,Pv n σ H->D.nx σ H):ForW (Itr lo n) g tb D σ H:=y4S Pv h0 hs hd
theorem z1R {K:PySem.W.Frag} {a:Addr} {xs:List V} {g:TG} {tb:TS} (Pv:Nat->St->Hp->Prop) (h0:Pv 0 σ H) (hl:∀i σ H,i<=xs.length->Pv i σ H->SqL K H a xs)
  (hs:∀i x σ H,xs[i]?=some x->Pv i σ H->g x σ H fun σ2 H2=>tb { D with nx:=Pv (i+1),ct:=Pv (i+1),bk:=D.nx } σ2 H2) (hd:∀σ H,Pv xs.length σ H->D.nx σ H):ForW (Itl K a) g tb D σ H:=y5z Pv h0 hl hs hd
theorem y6A {K:PySem.W.Frag} {a:Addr} {xs:List V} {g:TG} {tb:TS} (Pv:Nat->St->Hp->Prop) (h0:Pv 0 σ H) (hl:∀i σ H,i<=xs.length->Pv i σ H->SqT K H a xs)
  (hs:∀i x σ H,xs[i]?=some x->Pv i σ H->g x σ H fun σ2 H2=>tb { D with nx:=Pv (i+1),ct:=Pv (i+1),bk:=D.nx } σ2 H2) (hd:∀σ H,Pv xs.length σ H->D.nx σ H):ForW (Itt K a) g tb D σ H:=y7Z Pv h0 hl hs hd
theorem z7k {ta:TA} {R:It->Hp->Prop}:iRng1 ta σ H R=ta σ H fun vs H1=>∃j:Int,vs=[.int j]/\-(2^62)<=j/\j<2^62/\R (Itr 0 j.toNat) H1:=rfl
theorem z7j {ta:TA} {R:It->Hp->Prop}:iRng2 ta σ H R=ta σ H fun vs H1=>∃i j:Int,vs=[.int i,.int j]/\(-(2^62)<=i/\i<2^62/\-(2^62)<=j/\j<2^62)/\R (Itr i (j-i).toNat) H1:=rfl
theorem z7m {K:PySem.W.Frag} {tl:TE} {R:It->Hp->Prop}:iList K tl σ H R=tl σ H fun x H1=>∃a,x=.ref a/\(∃xs,SqL K H1 a xs)/\R (Itl K a) H1:=rfl
theorem y0X {K:PySem.W.Frag} {tl:TE} {R:It->Hp->Prop}:iTup K tl σ H R=tl σ H fun x H1=>∃a,x=.ref a/\(∃xs,SqT K H1 a xs)/\R (Itt K a) H1:=rfl
noncomputable def CompW (J:It) (g:TG) (tt:TT) (te:TE) (own:List Str) (fr:List Nat) (σ:St) (H1:Hp) (Q:VK):Prop:=∀D,H1 D=none->∃W:Nat->Nat->St->Hp->Prop,(∃m,W 0 m (st0 own fr σ) (upd H1 D (.lst [])))/\∀i m σc H,W i m σc H->
 (J.stop i H/\Q (.ref D) H)∨(J.go i H/\∃N:St->Hp->Prop,(∀σ' H',N σ' H'->∃m',m'<m/\W (i+1) m' σ' H')/\∀x H',J.yld i H x H'->g x σc H' fun σ2 H2=>tt σ2 H2 fun b H3=>
  if b=true then te σ2 H3 fun y H4=>∃ys,H4 D=some (.lst ys)/\ys.length<sizeLine/\N σ2 (upd H4 D (.lst (ys++[y]))) else N σ2 H3)
theorem z7J {wi:TI} {g:TG} {tt:TT} {te:TE} {own:List Str} {fr:List Nat}:tComp wi g tt te own fr σ H Q=wi σ H fun J H1=>CompW J g tt te own fr σ H1 Q:=rfl
noncomputable def CompN (Sv:St->Prop) (Pv:Addr->Nat->List V->Hp->Prop) (D:Addr) (i:Nat) (σ:St) (H:Hp):Prop:=Sv σ/\∃ys,H D=some (.lst ys)/\ys.length<=i/\Pv D i ys H
noncomputable def CompP (Sv:St->Prop) (Pv:Addr->Nat->List V->Hp->Prop) (D:Addr) (i:Nat) (σ2:St) (y:V) (H4:Hp):Prop:=∃ys,H4 D=some (.lst ys)/\ys.length<sizeLine/\CompN Sv Pv D (i+1) σ2 (upd H4 D (.lst (ys++[y])))
theorem CompP.mk {Sv:St->Prop} {Pv:Addr->Nat->List V->Hp->Prop} {D:Addr} {i:Nat} {σ2:St} {y:V} {H4:Hp} {ys:List V} (h:H4 D=some (.lst ys)) (hl:ys.length<=i) (hi:i<sizeLine) (hS:Sv σ2) (hP:Pv D (i+1) (ys++[y]) (upd H4 D (.lst (ys++[y])))) :
  CompP Sv Pv D i σ2 y H4:=⟨ys,h,Nat.lt_of_le_of_lt hl hi,hS,_,z0F,by simp;omega,hP⟩
theorem z0z {K:PySem.W.Frag} {a:Addr} {xs:List V} {g:TG} {tt:TT} {te:TE} {own:List Str} {fr:List Nat} (Sv:St->Prop) (Pv:Addr->Nat->List V->Hp->Prop) (hS:Sv (st0 own fr σ))
  (h0:∀D,H D=none->Pv D 0 [] (upd H D (.lst []))) (hl:∀D i ys H',H' D=some (.lst ys)->Pv D i ys H'->SqL K H' a xs)
  (hs:∀D i x ys σ H',xs[i]?=some x->i<xs.length->Sv σ->H' D=some (.lst ys)->ys.length<=i->Pv D i ys H'->g x σ H' fun σ2 H2=>tt σ2 H2 fun b H3=>if b=true then te σ2 H3 fun y H4=>CompP Sv Pv D i σ2 y H4 else CompN Sv Pv D (i+1) σ2 H3)
  (hd:∀D ys H',H' D=some (.lst ys)->Pv D xs.length ys H'->Q (.ref D) H'):CompW (Itl K a) g tt te own fr σ H Q:=by
 intro D hD
 refine⟨fun i m σ H=>m=xs.length-i/\i<=xs.length/\CompN Sv Pv D i σ H,⟨_,rfl,Nat.zero_le _,hS,[],z0F,Nat.le_refl _,h0 D hD⟩,?_⟩
 rintro i m σ1 H1 ⟨rfl,hi,hs1,ys,hy,hy2,p⟩
 have q:=hl D i ys H1 hy p
 by_cases hlt:i<xs.length
 ·refine .inr ⟨⟨xs,xs[i],q,by simp [hlt]⟩,CompN Sv Pv D (i+1),fun σ' H' p'=>⟨xs.length-(i+1),by omega,rfl,hlt,p'⟩,fun x H' y=>?_⟩
  obtain⟨e,y⟩:=y
  subst e
  exact hs D i x ys σ1 _ (y xs q) hlt hs1 hy hy2 p
 ·have e:i=xs.length:=by omega
  subst e
  exact .inl ⟨⟨xs,q,Nat.le_refl _⟩,hd D ys H1 hy p⟩
theorem z3n {lo:Int} {n:Nat} {g:TG} {tt:TT} {te:TE} {own:List Str} {fr:List Nat} (Sv:St->Prop) (Pv:Addr->Nat->List V->Hp->Prop) (hS:Sv (st0 own fr σ))
  (h0:∀D,H D=none->Pv D 0 [] (upd H D (.lst [])))
  (hs:∀D i ys σ H',i<n->Sv σ->H' D=some (.lst ys)->ys.length<=i->Pv D i ys H'->g (.int (lo+i)) σ H' fun σ2 H2=>tt σ2 H2 fun b H3=>if b=true then te σ2 H3 fun y H4=>CompP Sv Pv D i σ2 y H4 else CompN Sv Pv D (i+1) σ2 H3)
  (hd:∀D ys H',H' D=some (.lst ys)->Pv D n ys H'->Q (.ref D) H'):CompW (Itr lo n) g tt te own fr σ H Q:=by
 intro D hD
 refine⟨fun i m σ H=>m=n-i/\i<=n/\CompN Sv Pv D i σ H,⟨_,rfl,Nat.zero_le _,hS,[],z0F,Nat.le_refl _,h0 D hD⟩,?_⟩
 rintro i m σ1 H1 ⟨rfl,hi,hs1,ys,hy,hy2,p⟩
 by_cases hlt:i<n
 ·refine .inr ⟨hlt,CompN Sv Pv D (i+1),fun σ' H' p'=>⟨n-(i+1),by omega,rfl,hlt,p'⟩,fun x H' y=>?_⟩
  obtain⟨e,y⟩:=y
  subst e y
  exact hs D i ys σ1 _ hlt hs1 hy hy2 p
 ·have e:i=n:=by omega
  subst e
  exact .inl ⟨Nat.le_refl _,hd D ys H1 hy p⟩
noncomputable abbrev IL (zs:List Int):HO:=.lst (zs.map V.int)
theorem z0W {K:PySem.W.Frag} {p:Addr} {xs:List V} {i:Int} {v:V} (h:SqL K H p xs) (e:atI xs i=some v) (q:Q v H):rIxL K (.ref p) (.int i) H Q:=⟨p,xs,i,v,rfl,rfl,h,e,q⟩
theorem z4H {zs:List Int} {i:Int} (h0:0<=i) (h1:i<zs.length):atI (zs.map V.int) i=some (.int (zs.getD i.toNat 0)):=by
 have hk:i.toNat<zs.length:=by omega
 have ek:i=((i.toNat:Nat):Int):=by omega
 have q:atI (zs.map V.int) ((i.toNat:Nat):Int)=some (.int (zs.getD i.toNat 0)):=z0X (by rw[List.getElem?_map,List.getElem?_eq_getElem hk,List.getD_eq_getElem?_getD,List.getElem?_eq_getElem hk];rfl)
 rw[←ek] at q
 exact q
theorem Same.write {H H':Hp} (g:Same H H') {p:Addr} (n:H p=none) (o:HO):Same H (upd H' p o):=fun b u e=>by rw[z0U (z0O e n)];exact g b u e
theorem z8E {t:TG} {u:TGs} {v:V} {r:List V} {R:St->Hp->Prop}:gCons t u (v::r) σ H R=t v σ H fun σ' H'=>u r σ' H' R:=propext ⟨fun⟨a,b,e,q⟩=>by cases e;exact q,fun q=>⟨v,r,rfl,q⟩⟩
theorem y0p {R:St->Hp->Prop}:gNil [] σ H R=R σ H:=propext ⟨fun⟨_,q⟩=>q,fun q=>⟨rfl,q⟩⟩
theorem tB_ap {t:TE} {R:Bool->Hp->Prop}:tB t σ H R=t σ H fun x H1=>∃c,x=.bl c/\R c H1:=rfl
theorem z0H {H:Hp} {p:Addr} (h:H p=none) (o:HO):Same H (upd H p o):=fun b u q=>by rw[z0U (z0O q h)];exact q
end
end L2
namespace L2
open PySem PySem.Spec PyProof.Rows
noncomputable def Itv (K:PySem.W.Frag) (a:Addr) (n:Nat):It:=
 ⟨fun i H=>i<n/\∃xs,SqL K H a xs/\xs.length=n,fun i H x H'=>H'=H/\∀xs,SqL K H a xs->xs[n-1-i]?=some x,fun i _=>i=n⟩
noncomputable def iRev (K:PySem.W.Frag) (ta:TE):TI:=fun σ H R=>ta σ H fun x H1=>∃a xs,x=.ref a/\SqL K H1 a xs/\R (Itv K a xs.length) H1
section
variable {X:Cx} {tg:Expr}
end
theorem y0Z {K:PySem.W.Frag} {tl:TE} {σ:St} {H:Hp} {R:It->Hp->Prop}:iRev K tl σ H R=tl σ H fun x H1=>∃a xs,x=.ref a/\SqL K H1 a xs/\R (Itv K a xs.length) H1:=rfl
end L2
namespace L2
open PySem PySem.Spec PyProof.Rows
noncomputable def tCut (t:TS):TS:=fun D σ H=>∃M:St->Hp->Prop,t { D with nx:=M } σ H/\∀σ' H',M σ' H'->D.nx σ' H'
theorem z1P {X:Cx} {st:Stmt} {t:TS} (h:PS X st t):PS X st (tCut t):=by
 intro pins s σ H D I hw
 obtain⟨M,h1,h2⟩:=hw
 refine thn (h pins s σ H _ I h1) fun f s1 q=>?_
 cases f with
 | next=>obtain⟨σ',H',I',q⟩:=q;exact⟨σ',H',I',h2 σ' H' q⟩
 | ret v=>exact q
 | brk=>exact q
 | cont=>exact q
section
variable {X:Cx}
end
theorem y3v {K:PySem.W.Frag} {H:Hp} {Q:VK} {d:Int}:rIsI K [.int d,.ty "int"] H Q=Q (.bl true) H:=propext ⟨fun⟨x,T,t,b,e,ty,k,q⟩=>by
  cases e
  cases ty
  have:PySem.W.kitOne K (.type "int") (.type "int")=some true:=rfl
  rw[this] at k
  cases k
  exact q,fun q=>⟨_,_,_,true,rfl,.int d,rfl,q⟩⟩
theorem y3w {K:PySem.W.Frag} {H:Hp} {Q:VK} {d:Int}:rIsI K [.int d,.ty "bool"] H Q=Q (.bl false) H:=propext ⟨fun⟨x,T,t,b,e,ty,k,q⟩=>by
  cases e
  cases ty
  have:PySem.W.kitOne K (.type "int") (.type "bool")=some false:=rfl
  rw[this] at k
  cases k
  exact q,fun q=>⟨_,_,_,false,rfl,.int d,rfl,q⟩⟩
theorem y3u {K:PySem.W.Frag} {H:Hp} {Q:VK}:rIsI K [.non,.ty "int"] H Q=Q (.bl false) H:=propext ⟨fun⟨x,T,t,b,e,ty,k,q⟩=>by
  cases e
  cases ty
  have:PySem.W.kitOne K (.type "NoneType") (.type "int")=some false:=rfl
  rw[this] at k
  cases k
  exact q,fun q=>⟨_,_,_,false,rfl,.non,rfl,q⟩⟩
theorem y3x {K:PySem.W.Frag} {H:Hp} {Q:VK} {d:Bool}:rIsI K [.bl d,.ty "bool"] H Q=Q (.bl true) H:=propext ⟨fun⟨x,T,t,b,e,ty,k,q⟩=>by
  cases e
  cases ty
  have:PySem.W.kitOne K (.type "bool") (.type "bool")=some true:=rfl
  rw[this] at k
  cases k
  exact q,fun q=>⟨_,_,_,true,rfl,.bl d,rfl,q⟩⟩
noncomputable def cutI (ns:List Int) (lo hi:Option Int):List Int:=(ns.drop (HT.sIx ns.length 0 lo)).take (HT.sIx ns.length ns.length hi-HT.sIx ns.length 0 lo)
theorem y1r (ns:List Int) (lo hi:Option Int):cutV (ns.map V.int) lo hi=(cutI ns lo hi).map V.int:=by
 unfold cutV cutI
 rw[List.length_map,List.map_take,List.map_drop]
end L2
namespace L2
open PySem PySem.Spec PyProof.Rows
section
variable {prog:Program} {w:World} {A:Around} {E:Value->Shared->Prop} {s:Shared}
end
noncomputable def y5A (K:PySem.W.Frag) (tl:TE):TE:=fun σ H Q=>tl σ H fun x H1=>∃a xs,x=.ref a/\SqL K H1 a xs/\∀d,H1 d=none->Q (.ref d) (upd H1 d (.lst xs.reverse))
section
variable {X:Cx}
end
theorem z3X {K:PySem.W.Frag} {tl:TE} {σ:St} {H:Hp} {Q:VK}:y5A K tl σ H Q=tl σ H fun x H1=>∃a xs,x=.ref a/\SqL K H1 a xs/\∀d,H1 d=none->Q (.ref d) (upd H1 d (.lst xs.reverse)):=rfl
end L2
namespace L2
open PySem PySem.Spec PyProof.Rows
mutual
inductive DD (K:PySem.W.Frag) (H:Hp):V->PyData->Prop where
 | non:DD K H .non .none
 | bl (b:Bool):DD K H (.bl b) (.bool b)
 | int (i:Int):DD K H (.int i) (.int i)
 | str (x:Str):DD K H (.str x) (.str x)
 | lst {a:Addr} {xs:List V} {ds:List PyData}:SqL K H a xs->DDs K H xs ds->DD K H (.ref a) (.list ds)
 | tup {a:Addr} {xs:List V} {ds:List PyData}:SqT K H a xs->DDs K H xs ds->DD K H (.ref a) (.tuple ds)
inductive DDs (K:PySem.W.Frag) (H:Hp):List V->List PyData->Prop where
 | nil:DDs K H [] []
 | cons {x:V} {xs:List V} {d:PyData} {ds:List PyData}:DD K H x d->DDs K H xs ds->DDs K H (x::xs) (d::ds)
end
section
variable {X:Cx} {pins:List (Addr×Obj)} {σ:St} {H:Hp} {s:Shared}
end
theorem Same.seqT {K:PySem.W.Frag} {H H':Hp} {a:Addr} {xs:List V} (e:Same H H') (h:SqT K H a xs):SqT K H' a xs:=by
 rcases h with (h|⟨o,h⟩)|h
 ·exact .inl (.inl (e _ _ h))
 ·exact .inl (.inr ⟨o,e _ _ h⟩)
 ·exact .inr h
mutual
theorem DD.mono {K:PySem.W.Frag} {H H':Hp} (g:Same H H'):∀ {v:V} {d:PyData},DD K H v d->DD K H' v d
 | _,_,.non=>.non
 | _,_,.bl b=>.bl b
 | _,_,.int i=>.int i
 | _,_,.str x=>.str x
 | _,_,.lst h hs=>.lst (g.seq h) (DDs.mono g hs)
 | _,_,.tup h hs=>.tup (Same.seqT g h) (DDs.mono g hs)
theorem DDs.mono {K:PySem.W.Frag} {H H':Hp} (g:Same H H'):∀ {vs:List V} {ds:List PyData},DDs K H vs ds->DDs K H' vs ds
 | _,_,.nil=>.nil
 | _,_,.cons h hs=>.cons (DD.mono g h) (DDs.mono g hs)
end
section
variable {X:Cx}
end
end L2
namespace L2
open PySem PySem.Spec PyProof.Rows
section
variable {prog:Program} {w:World} {B:Around} {it:Addr} {fp wr:List Addr} {GG:Array GenState->Array GenState->Prop} {n:Nat} {PV:Nat->Value->Prop} {SV:Nat->Shared->Prop} {RR:Result->Shared->Prop}
end
noncomputable def tMinD (K:PySem.W.Frag) (tl td:TE):TE:=fun σ H Q=>tl σ H fun x H1=>td σ H1 fun d H2=>∃(a:Addr) (ns:List Int),x=.ref a/\SqL K H2 a (ns.map V.int)/\(ns=[]->Q d H2)/\∀M,M∈ns->(∀z∈ns,M<=z)->Q (.int M) H2
section
variable {X:Cx}
end
theorem z7B {K:PySem.W.Frag} {tl td:TE} {σ:St} {H:Hp} {Q:VK}:tMinD K tl td σ H Q=tl σ H fun x H1=>td σ H1 fun d H2=>∃(a:Addr) (ns:List Int),x=.ref a/\SqL K H2 a (ns.map V.int)/\(ns=[]->Q d H2)/\∀M,M∈ns->(∀z∈ns,M<=z)->Q (.int M) H2:=rfl
section
variable {prog:Program} {w:World} {B:Around} {it:Addr} {fp wr:List Addr} {GG:Array GenState->Array GenState->Prop} {n:Nat} {PV:Nat->Value->Prop} {SV:Nat->Shared->Prop} {RR:Result->Shared->Prop}
end
noncomputable def tMaxD (K:PySem.W.Frag) (tl td:TE):TE:=fun σ H Q=>tl σ H fun x H1=>td σ H1 fun d H2=>∃(a:Addr) (ns:List Int),x=.ref a/\SqL K H2 a (ns.map V.int)/\(ns=[]->Q d H2)/\∀M,M∈ns->(∀z∈ns,z<=M)->Q (.int M) H2
section
variable {X:Cx}
end
theorem z7D {K:PySem.W.Frag} {tl td:TE} {σ:St} {H:Hp} {Q:VK}:tMaxD K tl td σ H Q=tl σ H fun x H1=>td σ H1 fun d H2=>∃(a:Addr) (ns:List Int),x=.ref a/\SqL K H2 a (ns.map V.int)/\(ns=[]->Q d H2)/\∀M,M∈ns->(∀z∈ns,z<=M)->Q (.int M) H2:=rfl
end L2
namespace L2
open PySem PySem.Spec PyProof.Rows
noncomputable def CapOk (X:Cx) (scope:Scope):List Str->List Nat->List (Str×Addr)->Prop
 | [],[],[]=>True
 | y::ys,j::js,(n,a)::r=>n=y/\X.N[j]?=some y/\X.env.scope.names.lookup y=some .cell/\X.env.cells.lookup y=some a/\scope.names.lookup y=some .free/\CapOk X scope ys js r
 | _,_,_=>False
theorem CapOk.inn {X:Cx} {scope:Scope}:∀ {ys:List Str} {js:List Nat} {cl:List (Str×Addr)},CapOk X scope ys js cl->∀y c,cl.lookup y=some c->X.env.cells.lookup y=some c
 | [],[],[],_,y,c,e=>nomatch e
 | y::ys,j::js,(n,a)::r,⟨hn,_,_,h,_,t⟩,z,c,e=>by
  subst hn
  rw[List.lookup_cons] at e
  cases q:z == n with
  | true=>
   rw[q] at e
   have:z=n:=by simpa using q
   subst this
   exact h.trans e
  | false=>
   rw[q] at e
   exact CapOk.inn t z c e
theorem CapOk.mem {X:Cx} {scope:Scope}:∀ {ys:List Str} {js:List Nat} {cl:List (Str×Addr)},CapOk X scope ys js cl->∀y∈ys,∃c,cl.lookup y=some c
 | [],[],[],_,y,h=>nomatch h
 | y::ys,j::js,(n,a)::r,⟨hn,_,_,_,_,t⟩,z,e=>by
  subst hn
  rw[List.lookup_cons]
  cases q:z == n with
  | true=>exact⟨_,rfl⟩
  | false=>
   rcases List.mem_cons.mp e with e|e
   ·subst e;simp at q
   ·exact CapOk.mem t z e
theorem CapOk.len {X:Cx} {scope:Scope}:∀ {ys:List Str} {js:List Nat} {cl:List (Str×Addr)},CapOk X scope ys js cl->ys.length=js.length
 | [],[],[],_=>rfl
 | _::_,_::_,(_,_)::_,⟨_,_,_,_,_,t⟩=>congrArg (· + 1) (CapOk.len t)
theorem CapOk.at {X:Cx} {scope:Scope}:∀ {ys:List Str} {js:List Nat} {cl:List (Str×Addr)},CapOk X scope ys js cl->∀(k:Nat) (y:Str),ys[k]?=some y->
  ∃j,js[k]?=some j/\X.N[j]?=some y/\X.env.scope.names.lookup y=some .cell/\scope.names.lookup y=some .free
 | [],[],[],_,k,y,e=>by simp at e
 | y::ys,j::js,(n,a)::r,⟨hn,h1,h2,_,h3,t⟩,k,z,e=>by
  subst hn
  cases k with
  | zero=>cases e;exact⟨j,rfl,h1,h2,h3⟩
  | succ k=>exact CapOk.at t k z e
theorem z1q {α:Type}:∀ {l:List (Str×α)} {y:Str} {k:α},l.lookup y=some k->(y,k)∈l
  | [],_,_,e=>nomatch e
  | (n,q)::r,y,k,e=>by
    rw[List.lookup_cons] at e
    cases hy:y == n with
    | true=>
      rw[hy] at e
      have:y=n:=by simpa using hy
      subst this
      cases e
      exact .head _
    | false=>
      rw[hy] at e
      exact .tail _ (z1q e)
theorem z4h {env:Env}:∀ {names:List (Str×NameKind)} {x:Str},names.lookup x=some .free->
    (names.map fun (n,k)=>if (k == NameKind.free && env.scope.kind == .function && env.kindOf n == some .cell) then (n,NameKind.cell) else (n,k)).lookup x=some .cell∨
    (names.map fun (n,k)=>if (k == NameKind.free && env.scope.kind == .function && env.kindOf n == some .cell) then (n,NameKind.cell) else (n,k)).lookup x=some .free
  | [],_,h=>nomatch h
  | (n,k)::r,x,h=>by
    rw[List.lookup_cons] at h
    rw[List.map_cons]
    cases hy:x == n with
    | true=>
      rw[hy] at h
      cases h
      dsimp only
      split
      · left;rw[List.lookup_cons,hy]
      · right;rw[List.lookup_cons,hy]
    | false=>
      rw[hy] at h
      have ih:=z4h (env:=env) h
      dsimp only
      split
      · rw[List.lookup_cons,hy];exact ih
      · rw[List.lookup_cons,hy];exact ih
theorem CompSc.capt {X:Cx} {own capt:List Str} {scope:Scope} {cl:List (Str×Addr)} {fr:List Nat} (clo:closureFor scope X.env=pure cl) (ok:CapOk X scope capt fr cl) (h1:∀z∈scope.names,z.2=.free->z.1∈capt)
  (h2:∀y∈scope.names,y.2≠.cell) (kind:scope.kind=.function) (names:∀y∈scope.names,y.2=.local->scope.names.lookup y.1=some .local):CompSc X own capt scope cl fr where
 clos:=clo
 nocell:=h2
 kind:=kind
 names:=names
 inn:=ok.inn
 has:=fun y e=>by
  refine ok.mem y ?_
  have key:∃k,(y,k)∈(relabel scope X.env).names/\(k=.cell∨k=.free):=by
   rcases e with e|e
   ·exact⟨_,z1q e,.inl rfl⟩
   ·exact⟨_,z1q e,.inr rfl⟩
  obtain⟨k,hm,hk⟩:=key
  unfold relabel at hm
  obtain⟨⟨n,k0⟩,h3,h4⟩:=List.mem_map.mp hm
  have h5:n=y/\k0=.free:=by
   dsimp only at h4
   split at h4
   ·rename_i c
    cases h4
    simp only [Bool.and_eq_true,beq_iff_eq] at c
    exact⟨rfl,c.1.1⟩
   ·cases h4
    rcases hk with rfl|rfl
    ·exact absurd rfl (h2 _ h3)
    ·exact⟨rfl,rfl⟩
  obtain⟨rfl,rfl⟩:=h5
  exact h1 _ h3 rfl
 cap:=fun k y e=>by
  obtain⟨j,e1,e2,e3,e4⟩:=ok.at k y e
  obtain⟨c,hc⟩:=ok.mem y (List.mem_of_getElem? e)
  exact⟨j,c,e1,e2,e3,hc,z4h e4⟩
 len:=ok.len
end L2
namespace SM
noncomputable def gcdI (a b:Int):Int:=(Int.gcd a b:Int)
theorem z5w {a:Int} (h:0<=a):gcdI a 0=a:=by
 unfold gcdI;rw[Int.gcd_zero_right];omega
theorem z4D (a b:Int):gcdI a b=gcdI b a:=by unfold gcdI;rw[Int.gcd_comm]
theorem z4C (a b:Int):gcdI b (a%b)=gcdI a b:=by
 unfold gcdI
 have e:a=b*(a/b)+a%b:=(Int.mul_ediv_add_emod a b).symm
 have:Int.gcd a b=Int.gcd (a%b) b:=by
  conv=>lhs;rw[e]
  rw[Int.gcd_mul_left_add_left]
 rw[this,Int.gcd_comm]
theorem z0i (a b:Int):gcdI a b∣a:=Int.gcd_dvd_left ..
theorem z0d (a b:Int):gcdI a b∣b:=Int.gcd_dvd_right ..
theorem y6C {k a b:Int} (h1:k∣a) (h2:k∣b):k∣gcdI a b:=Int.dvd_coe_gcd h1 h2
theorem z0m {a b:Int} (h:a≠0∨b≠0):0<gcdI a b:=by
 unfold gcdI
 rcases h with h|h
 ·have:=Int.gcd_pos_of_ne_zero_left b h;omega
 ·have:=Int.gcd_pos_of_ne_zero_right a h;omega
theorem z0n {a:Int} (b:Int) (h:0<a):gcdI a b<=a:=Int.gcd_le_left b h
theorem y4s (a b:Int) (ha:0<=a) (hb:0<=b):∃x y,gcdI a b=a*x+b*y:=by
 by_cases h:b=0
 ·subst h;exact⟨1,0,by rw[z5w ha];omega⟩
 ·have m1:=Int.emod_nonneg a h
  have m2:=Int.emod_lt_of_pos a (show 0<b by omega)
  obtain⟨x,y,e⟩:=y4s b (a%b) hb m1
  refine⟨y,x-(a/b)*y,?_⟩
  rw[←z4C,e]
  have q:=Int.mul_ediv_add_emod a b
  have:a*y=b*(a/b)*y+a%b*y:=by rw[←Int.add_mul,q]
  rw[Int.mul_sub,←Int.mul_assoc]
  omega
termination_by b.toNat
decreasing_by omega
noncomputable def lcmI (a b:Int):Int:=a*(b/gcdI a b)
theorem y0S {a b:Int} (ha:1<=a) (hb:1<=b):lcmI a b=(Int.lcm a b:Int):=by
 have g:=z0m (a:=a) (b:=b) (by omega)
 have d:=z0d a b
 have e:gcdI a b*(Int.lcm a b:Int)=a*b:=by
  have:=Int.gcd_mul_lcm a b
  have h2:((Int.gcd a b*Int.lcm a b:Nat):Int)=((a.natAbs*b.natAbs:Nat):Int):=by rw[this]
  rw[Int.natCast_mul,Int.natCast_mul] at h2
  have h3:((a.natAbs:Nat):Int)=a:=by omega
  have h4:((b.natAbs:Nat):Int)=b:=by omega
  rw[h3,h4] at h2
  exact h2
 unfold lcmI
 obtain⟨k,hk⟩:=d
 have:b/gcdI a b=k:=by
  conv=>lhs;lhs;rw[hk]
  exact Int.mul_ediv_cancel_left k (by omega)
 rw[this]
 have e2:gcdI a b*(a*k)=gcdI a b*(Int.lcm a b:Int):=by
  rw[e];conv=>rhs;rw[hk]
  rw[←Int.mul_assoc,←Int.mul_assoc,Int.mul_comm (gcdI a b) a]
 exact Int.eq_of_mul_eq_mul_left (by omega) e2
theorem y5p {a b:Int}:(a*b)/gcdI a b=lcmI a b:=by
 unfold lcmI
 exact Int.mul_ediv_assoc a (z0d a b)
theorem z7a {a b:Int} (ha:1<=a) (hb:1<=b):1<=lcmI a b:=by
 rw[y0S ha hb]
 have:=Int.lcm_pos (m:=a) (n:=b) (by omega) (by omega)
 omega
theorem y7Q {a b:Int} (ha:1<=a) (hb:1<=b):lcmI a b<=a*b:=by
 unfold lcmI
 have g:=z0m (a:=a) (b:=b) (by omega)
 have:b/gcdI a b<=b:=Int.ediv_le_self _ (by omega)
 exact Int.mul_le_mul_of_nonneg_left this (by omega)
theorem z8I (a b:Int):a∣lcmI a b:=⟨_,rfl⟩
theorem z6N {a b:Int} (ha:1<=a) (hb:1<=b):b∣lcmI a b:=by rw[y0S ha hb];exact Int.dvd_lcm_right ..
theorem y1h {a b k:Int} (ha:1<=a) (hb:1<=b) (h1:a∣k) (h2:b∣k):lcmI a b∣k:=by rw[y0S ha hb];exact Int.coe_lcm_dvd h1 h2
noncomputable def lcms (xs:List Int):Int:=xs.foldl lcmI 1
theorem z4E:∀(xs:List Int) (a:Int),1<=a->(∀x∈xs,1<=x)->1<=xs.foldl lcmI a
 | [],_,h,_=>h
 | x::r,a,h,hx=>z4E r (lcmI a x) (z7a h (hx x (by simp))) fun y hy=>hx y (by simp [hy])
theorem z4F {k:Int}:∀(xs:List Int) (a:Int),1<=a->(∀x∈xs,1<=x)->(xs.foldl lcmI a∣k ↔ a∣k/\∀x∈xs,x∣k)
 | [],a,h,_=>by simp
 | x::r,a,h,hx=>by
  have x1:=hx x (by simp)
  rw[List.foldl_cons,z4F r (lcmI a x) (z7a h x1) fun y hy=>hx y (by simp [hy])]
  constructor
  ·rintro⟨h1,h2⟩
   refine⟨Int.dvd_trans (z8I a x) h1,fun y hy=>?_⟩
   rcases List.mem_cons.mp hy with e|hy
   ·rw[e];exact Int.dvd_trans (z6N h x1) h1
   ·exact h2 y hy
  ·rintro⟨h1,h2⟩
   exact⟨y1h h x1 h1 (h2 x (by simp)),fun y hy=>h2 y (by simp [hy])⟩
theorem z2i {xs:List Int} (hx:∀x∈xs,1<=x):1<=lcms xs:=z4E xs 1 (by omega) hx
theorem z3C {xs:List Int} {k:Int} (hx:∀x∈xs,1<=x):lcms xs∣k ↔ ∀x∈xs,x∣k:=by
 unfold lcms
 rw[z4F xs 1 (by omega) hx]
 exact⟨fun h=>h.2,fun h=>⟨Int.one_dvd k,h⟩⟩
theorem z8H {xs:List Int} (hx:∀x∈xs,1<=x):∀x∈xs,x∣lcms xs:=(z3C hx).mp (Int.dvd_refl _)
theorem y3n (xs:List Int) (x:Int):lcms (xs++[x])=lcmI (lcms xs) x:=by unfold lcms;rw[List.foldl_append];rfl
theorem z4j {B:Int} (hB:1<=B):∀(xs:List Int) (a:Int),1<=a->(∀x∈xs,1<=x/\x<=B)->xs.foldl lcmI a<=a*B^xs.length
 | [],a,h,_=>by simp
 | x::r,a,h,hx=>by
  have x1:=hx x (by simp)
  have ih:=z4j hB r (lcmI a x) (z7a h x1.1) fun y hy=>hx y (by simp [hy])
  have l:=y7Q h x1.1
  have p:(0:Int)<=B^r.length:=Int.pow_nonneg (by omega)
  rw[List.foldl_cons,List.length_cons]
  refine Int.le_trans ih ?_
  have m1:lcmI a x<=a*B:=Int.le_trans l (Int.mul_le_mul_of_nonneg_left x1.2 (by omega))
  have m2:=Int.mul_le_mul_of_nonneg_right m1 p
  rw[Int.pow_succ,Int.mul_comm (B^r.length) B,←Int.mul_assoc]
  exact m2
theorem y7P {B:Int} (hB:1<=B) {xs:List Int} (hx:∀x∈xs,1<=x/\x<=B):lcms xs<=B^xs.length:=by
 have:=z4j hB xs 1 (by omega) hx
 rw[Int.one_mul] at this
 exact this
end SM
namespace SM
noncomputable def cdiv (n b:Int):Int:=-((-n)/b)
theorem z3D {n b:Int} (hb:0<b):n<=b*cdiv n b/\b*cdiv n b<n+b:=by
 unfold cdiv
 have h1:=Int.mul_ediv_add_emod (-n) b
 have h2:=Int.emod_nonneg (-n) (show b≠0 by omega)
 have h3:=Int.emod_lt_of_pos (-n) hb
 rw[Int.mul_neg]
 omega
theorem z8L {n b k:Int} (hb:0<b) (h:n<=b*k):cdiv n b<=k:=by
 have:=(z3D (n:=n) hb).2
 by_cases c:cdiv n b<=k
 ·exact c
 ·exfalso
  have h1:k+1<=cdiv n b:=by omega
  have h2:=Int.mul_le_mul_of_nonneg_left h1 (Int.le_of_lt hb)
  rw[Int.mul_add,Int.mul_one] at h2
  omega
theorem z6A {n b:Int} (hb:0<b) (h:0<=n):0<=cdiv n b:=by
 have h1:=(z3D (n:=n) hb).1
 by_cases c:0<=cdiv n b
 ·exact c
 ·exfalso
  have h2:=Int.mul_le_mul_of_nonneg_left (show cdiv n b<=-1 by omega) (Int.le_of_lt hb)
  rw[Int.mul_neg,Int.mul_one] at h2
  omega
noncomputable def hitF (w a lo n:Int):Option Int:=
 if h:a<=0 then none
 else if a*cdiv lo a<=lo+n-1 then some (cdiv lo a)
 else (hitF a (w%a) ((-(lo+n-1))%a) n).map fun j=>cdiv (w*j+lo) a
termination_by a.toNat
decreasing_by
 have h1:=Int.emod_nonneg w (show a≠0 by omega)
 have h2:=Int.emod_lt_of_pos w (show 0<a by omega)
 omega
noncomputable def Hits (w a lo n i:Int):Prop:=(a*i-lo)%w<n
noncomputable def y4x (p:Int->Prop):Option Int->Prop
 | some i=>0<=i/\p i/\∀k,0<=k->k<i->¬p k
 | none=>∀k,0<=k->¬p k
theorem z6m {x w n:Int} (hw:0<w) (hn:n<=w):x%w<n ↔ ∃j,w*j<=x/\x<w*j+n:=by
 have h1:=Int.mul_ediv_add_emod x w
 have h2:=Int.emod_nonneg x (show w≠0 by omega)
 have h3:=Int.emod_lt_of_pos x hw
 constructor
 ·intro h
  exact⟨x/w,by omega,by omega⟩
 ·rintro⟨j,a,b⟩
  have e:x%w=x-w*j:=by
   have z:(x-w*j)%w=x-w*j:=Int.emod_eq_of_lt (by omega) (by omega)
   rw[Int.sub_mul_emod_self_left] at z
   exact z
  omega
theorem y4B {w a lo n:Int} (h:a<=0):hitF w a lo n=none:=by rw[hitF,dif_pos h]
theorem y4C {w a lo n:Int} (h:0<a) (h2:a*cdiv lo a<=lo+n-1):hitF w a lo n=some (cdiv lo a):=by rw[hitF,dif_neg (by omega),if_pos h2]
theorem y4D {w a lo n:Int} (h:0<a) (h2:¬a*cdiv lo a<=lo+n-1):hitF w a lo n=(hitF a (w%a) ((-(lo+n-1))%a) n).map fun j=>cdiv (w*j+lo) a:=by
 rw[hitF,dif_neg (by omega),if_neg h2]
structure Lvl (w a lo n:Int):Prop where
 a0:0<=a
 aw:a<w
 n1:1<=n
 l1:1<=lo
 l2:lo+n<=w
theorem Lvl.down {w a lo n:Int} (L:Lvl w a lo n) (h:0<a) (h2:¬a*cdiv lo a<=lo+n-1):Lvl a (w%a) ((-(lo+n-1))%a) n:=by
 obtain⟨a0,aw,n1,l1,l2⟩:=L
 have c1:=z3D (n:=lo) h
 have e1:=Int.emod_nonneg w (show a≠0 by omega)
 have e2:=Int.emod_lt_of_pos w h
 have m1:=Int.emod_nonneg (-(lo+n-1)) (show a≠0 by omega)
 have m2:=Int.emod_lt_of_pos (-(lo+n-1)) h
 have m3:=Int.mul_ediv_add_emod (-(lo+n-1)) a
 generalize hq:(-(lo+n-1))/a=q at m3
 generalize (-(lo+n-1))%a=r at m1 m2 m3 ⊢
 have k:-q=cdiv lo a∨-q≠cdiv lo a:=by omega
 have e:a*(-q)=lo+n-1+r:=by rw[Int.mul_neg];omega
 have cq:cdiv lo a<=-q:=z8L h (by omega)
 have cq2:-q<=cdiv lo a:=by
  by_cases z:-q<=cdiv lo a
  ·exact z
  ·exfalso
   have:=Int.mul_le_mul_of_nonneg_left (show cdiv lo a+1<=-q by omega) (Int.le_of_lt h)
   rw[Int.mul_add,Int.mul_one] at this
   omega
 have cq3:-q=cdiv lo a:=by omega
 rw[cq3] at e
 exact⟨e1,e2,n1,by omega,by omega⟩
theorem z5p {w a lo n:Int} (L:Lvl w a lo n) (h:0<a) {j:Int}:Hits a (w%a) ((-(lo+n-1))%a) n j ↔ ∃i,w*j+lo<=a*i/\a*i<=w*j+lo+n-1:=by
 obtain⟨a0,aw,n1,l1,l2⟩:=L
 unfold Hits
 have e:(w%a*j-(-(lo+n-1))%a)%a=(w*j+(lo+n-1))%a:=by
  have x1:=Int.mul_ediv_add_emod w a
  have x2:=Int.mul_ediv_add_emod (-(lo+n-1)) a
  generalize hq1:w/a=q1 at x1
  generalize hq2:(-(lo+n-1))/a=q2 at x2
  generalize hr1:w%a=r1 at x1 ⊢
  generalize hr2:(-(lo+n-1))%a=r2 at x2 ⊢
  have:w*j+(lo+n-1)=(r1*j-r2)+a*(q1*j-q2):=by
   rw[←x1,Int.mul_sub,Int.add_mul,Int.mul_assoc];omega
  rw[this,Int.add_mul_emod_self_left]
 rw[e]
 constructor
 ·intro z
  have x1:=Int.mul_ediv_add_emod (w*j+(lo+n-1)) a
  have x2:=Int.emod_nonneg (w*j+(lo+n-1)) (show a≠0 by omega)
  exact⟨(w*j+(lo+n-1))/a,by omega,by omega⟩
 ·rintro⟨i,i1,i2⟩
  by_cases na:n<=a
  ·exact (z6m h na).mpr ⟨i,by omega,by omega⟩
  ·have:=Int.emod_lt_of_pos (w*j+(lo+n-1)) h
   omega
theorem z3N {w a lo n:Int} (L:Lvl w a lo n) {i:Int} (hi:0<=i):Hits w a lo n i ↔ ∃j,0<=j/\w*j+lo<=a*i/\a*i<=w*j+lo+n-1:=by
 obtain⟨a0,aw,n1,l1,l2⟩:=L
 unfold Hits
 rw[z6m (by omega) (by omega)]
 constructor
 ·rintro⟨j,j1,j2⟩
  refine⟨j,?_,by omega,by omega⟩
  have p:=Int.mul_nonneg a0 hi
  by_cases c:0<=j
  ·exact c
  ·exfalso
   have:=Int.mul_le_mul_of_nonneg_left (show j<=-1 by omega) (show (0:Int)<=w by omega)
   rw[Int.mul_neg,Int.mul_one] at this
   omega
 ·rintro⟨j,_,j1,j2⟩
  exact⟨j,by omega,by omega⟩
theorem z6p {w a lo n:Int} (L:Lvl w a lo n):y4x (Hits w a lo n) (hitF w a lo n):=by
 by_cases h:0<a
 ·have c1:=z3D (n:=lo) h
  have c0:=z6A (n:=lo) h (by have:=L.l1;omega)
  by_cases h2:a*cdiv lo a<=lo+n-1
  ·rw[y4C h h2]
   refine⟨c0,(z3N L c0).mpr ⟨0,Int.le_refl 0,by omega,by omega⟩,fun k k0 k1 hk=>?_⟩
   obtain⟨j,j0,j1,j2⟩:=(z3N L k0).mp hk
   have wj:=Int.mul_nonneg (show (0:Int)<=w by have:=L.a0;have:=L.aw;omega) j0
   have:=z8L (n:=lo) h (k:=k) (by omega)
   omega
  ·rw[y4D h h2]
   have D:=L.down h h2
   have ih:=z6p D
   have w0:(0:Int)<=w:=by have:=L.a0;have:=L.aw;omega
   cases e:hitF a (w%a) ((-(lo+n-1))%a) n with
   | none=>
    rw[e] at ih
    show ∀k,0<=k->¬_
    intro k k0 hk
    obtain⟨j,j0,j1,j2⟩:=(z3N L k0).mp hk
    exact ih j j0 ((z5p L h).mpr ⟨k,j1,j2⟩)
   | some j=>
    rw[e] at ih
    obtain⟨j0,jh,jl⟩:=ih
    obtain⟨i,i1,i2⟩:=(z5p L h).mp jh
    have wj:=Int.mul_nonneg w0 j0
    have s:=z3D (n:=w*j+lo) h
    have sle:=z8L (n:=w*j+lo) h i1
    have sm:=Int.mul_le_mul_of_nonneg_left sle (Int.le_of_lt h)
    have s0:=z6A (n:=w*j+lo) h (by have:=L.l1;omega)
    refine⟨s0,(z3N L s0).mpr ⟨j,j0,s.1,by omega⟩,fun k k0 k1 hk=>?_⟩
    obtain⟨j',j0',j1',j2'⟩:=(z3N L k0).mp hk
    have hj:=(z5p L h).mpr ⟨k,j1',j2'⟩
    have jj:j<=j':=by
     by_cases c:j<=j'
     ·exact c
     ·exact absurd hj (jl j' j0' (by omega))
    have:=Int.mul_le_mul_of_nonneg_left jj w0
    have:=z8L (n:=w*j+lo) h (k:=k) (by omega)
    have k1':k<cdiv (w*j+lo) a:=k1
    omega
 ·rw[y4B (by omega)]
  intro k k0 hk
  obtain⟨j,j0,j1,j2⟩:=(z3N L k0).mp hk
  have a00:a=0:=by have:=L.a0;omega
  have w0:(0:Int)<=w:=by have:=L.a0;have:=L.aw;omega
  have wj:=Int.mul_nonneg w0 j0
  have:=L.l1
  rw[a00,Int.zero_mul] at j1
  omega
termination_by a.toNat
decreasing_by
 have h1:=Int.emod_nonneg w (show a≠0 by omega)
 have h2:=Int.emod_lt_of_pos w (show 0<a by omega)
 omega
noncomputable def z3O (st sp w n:Int):Option Int:=if st%w<n then some 0 else hitF w (sp%w) ((-st)%w) n
noncomputable def HitAt (st sp w n i:Int):Prop:=(st+sp*i)%w<n
theorem y7O {st w n:Int} (hw:0<w) (hn:1<=n) (h:¬st%w<n):(-st)%w=w-st%w:=by
 have h1:=Int.mul_ediv_add_emod st w
 have h3:=Int.emod_lt_of_pos st hw
 have e:-st=(w-st%w)+w*(-(st/w)-1):=by rw[Int.mul_sub,Int.mul_neg];omega
 rw[e,Int.add_mul_emod_self_left]
 exact Int.emod_eq_of_lt (by omega) (by omega)
theorem lvl0 {st sp w n:Int} (hw:0<w) (hn:1<=n) (h:¬st%w<n):Lvl w (sp%w) ((-st)%w) n:=by
 have h3:=Int.emod_lt_of_pos st hw
 rw[y7O hw hn h]
 exact⟨Int.emod_nonneg _ (by omega),Int.emod_lt_of_pos _ hw,hn,by omega,by omega⟩
theorem z5q {st sp w n i:Int}:HitAt st sp w n i ↔ Hits w (sp%w) ((-st)%w) n i:=by
 unfold HitAt Hits
 have e:(sp%w*i-(-st)%w)%w=(st+sp*i)%w:=by
  have x1:=Int.mul_ediv_add_emod sp w
  have x2:=Int.mul_ediv_add_emod (-st) w
  have:st+sp*i=(sp%w*i-(-st)%w)+w*(sp/w*i-(-st)/w):=by
   rw[Int.mul_sub,←Int.mul_assoc]
   have:sp*i=w*(sp/w)*i+sp%w*i:=by rw[←Int.add_mul,x1]
   omega
  rw[this,Int.add_mul_emod_self_left]
 rw[e]
theorem z1b {st sp w n:Int} (hw:0<w) (hn:1<=n):y4x (HitAt st sp w n) (z3O st sp w n):=by
 unfold z3O
 by_cases h:st%w<n
 ·rw[if_pos h]
  refine⟨Int.le_refl 0,by unfold HitAt;simpa using h,fun k k0 k1=>by omega⟩
 ·rw[if_neg h]
  have:=z6p (lvl0 (sp:=sp) hw hn h)
  cases e:hitF w (sp%w) ((-st)%w) n with
  | none=>rw[e] at this;exact fun k k0 hk=>this k k0 (z5q.mp hk)
  | some i=>
   rw[e] at this
   exact⟨this.1,z5q.mpr this.2.1,fun k k0 k1 hk=>this.2.2 k k0 k1 (z5q.mp hk)⟩
end SM
namespace SM
theorem y0a {st st' sp sp' w n i i':Int} (h:(st+sp*i)%w=(st'+sp'*i')%w):HitAt st sp w n i ↔ HitAt st' sp' w n i':=by
 unfold HitAt;rw[h]
theorem y7E {sp w:Int} (hw:0<w):∃q,sp*(w/gcdI w (sp%w))=w*q:=by
 have g0:=z0m (a:=w) (b:=sp%w) (by omega)
 obtain⟨k,hk⟩:=z0i w (sp%w)
 obtain⟨m,hm⟩:=z0d w (sp%w)
 have e1:w/gcdI w (sp%w)=k:=by
  conv=>lhs;lhs;rw[hk]
  exact Int.mul_ediv_cancel_left k (by omega)
 have e2:=Int.mul_ediv_add_emod sp w
 refine⟨sp/w*k+m,?_⟩
 rw[e1]
 conv=>lhs;lhs;rw[←e2]
 rw[Int.add_mul,Int.mul_add,Int.mul_assoc]
 have:sp%w*k=w*m:=by
  conv=>lhs;rw[hm]
  conv=>rhs;lhs;rw[hk]
  rw[Int.mul_assoc,Int.mul_assoc,Int.mul_comm m k]
 rw[this]
theorem y7D {sp w:Int} (hw:0<w):1<=w/gcdI w (sp%w):=by
 have g0:=z0m (a:=w) (b:=sp%w) (by omega)
 have g1:=z0n (sp%w) hw
 have:=(Int.le_ediv_iff_mul_le g0 (a:=1) (b:=w)).mpr (by omega)
 exact this
theorem y4E {st sp w n i:Int} (hw:0<w):HitAt st sp w n (i+w/gcdI w (sp%w)) ↔ HitAt st sp w n i:=by
 obtain⟨q,hq⟩:=y7E (sp:=sp) hw
 refine y0a ?_
 rw[Int.mul_add,hq,←Int.add_assoc,Int.add_mul_emod_self_left]
theorem z5x {st sp w n i:Int} (hw:0<w) (hn:1<=n) (e:z3O st sp w n=some i):i<w/gcdI w (sp%w):=by
 have h:=z1b (st:=st) (sp:=sp) hw hn
 rw[e] at h
 have p:=y7D (sp:=sp) hw
 by_cases c:i<w/gcdI w (sp%w)
 ·exact c
 ·refine absurd ?_ (h.2.2 (i-w/gcdI w (sp%w)) (by omega) (by omega))
  rw[←y4E hw]
  have e:i-w/gcdI w (sp%w)+w/gcdI w (sp%w)=i:=by omega
  rw[e];exact h.2.1
theorem y5m {st sp w:Int} (i:Int):(st+sp*i)%w%gcdI w (sp%w)=st%gcdI w (sp%w):=by
 rw[Int.emod_emod_of_dvd _ (z0i w (sp%w))]
 obtain⟨m,hm⟩:=z0d w (sp%w)
 obtain⟨k,hk⟩:=z0i w (sp%w)
 have e2:=Int.mul_ediv_add_emod sp w
 have:st+sp*i=st+gcdI w (sp%w)*((k*(sp/w)+m)*i):=by
  have:sp=gcdI w (sp%w)*(k*(sp/w)+m):=by
   rw[Int.mul_add,←hm,←Int.mul_assoc,←hk];exact e2.symm
  conv=>lhs;rw[this]
  rw[Int.mul_assoc]
 rw[this,Int.add_mul_emod_self_left]
theorem y5n {st sp w:Int} (hw:0<w) {x:Int} (x0:0<=x) (xw:x<w) (h:x%gcdI w (sp%w)=st%gcdI w (sp%w)):∃i,0<=i/\(st+sp*i)%w=x:=by
 have sp0:=Int.emod_nonneg sp (show w≠0 by omega)
 obtain⟨u,v,e⟩:=y4s w (sp%w) (by omega) sp0
 generalize hg:gcdI w (sp%w)=g at h e
 have d:g∣x-st:=Int.dvd_of_emod_eq_zero (by rw[Int.sub_emod,h];simp)
 obtain⟨k,hk⟩:=d
 refine⟨(v*k)%w,Int.emod_nonneg _ (by omega),?_⟩
 have e3:=Int.mul_ediv_add_emod (v*k) w
 have e2:=Int.mul_ediv_add_emod sp w
 have:st+sp*((v*k)%w)=x+w*(sp/w*(v*k)-u*k-sp*(v*k/w)):=by
  have a1:sp*((v*k)%w)=sp*(v*k)-w*(sp*(v*k/w)):=by
   have:(v*k)%w=v*k-w*(v*k/w):=by omega
   rw[this,Int.mul_sub,←Int.mul_assoc sp w,Int.mul_comm sp w,Int.mul_assoc w sp]
  have a2:sp*(v*k)=w*(sp/w*(v*k))+sp%w*(v*k):=by
   conv=>lhs;lhs;rw[←e2]
   rw[Int.add_mul,Int.mul_assoc]
  have a3:sp%w*(v*k)=g*k-w*(u*k):=by
   rw[e,Int.add_mul,Int.mul_assoc,Int.mul_assoc];omega
  rw[Int.mul_sub w,Int.mul_sub w]
  omega
 rw[this,Int.add_mul_emod_self_left]
 exact Int.emod_eq_of_lt x0 xw
theorem z4Y {st sp w n:Int} (hw:0<w) (hn:1<=n):z3O st sp w n=none ↔ n<=st%gcdI w (sp%w):=by
 have h:=z1b (st:=st) (sp:=sp) hw hn
 have g0:=z0m (a:=w) (b:=sp%w) (by omega)
 have g1:=z0n (sp%w) hw
 have r0:=Int.emod_nonneg st (show gcdI w (sp%w)≠0 by omega)
 have r1:=Int.emod_lt_of_pos st g0
 constructor
 ·intro e
  rw[e] at h
  by_cases c:n<=st%gcdI w (sp%w)
  ·exact c
  ·obtain⟨i,i0,hi⟩:=y5n (st:=st) (sp:=sp) hw r0 (by omega) (Int.emod_emod_of_dvd st (Int.dvd_refl _))
   exact absurd (show HitAt st sp w n i by unfold HitAt;omega) (h i i0)
 ·intro e
  cases e2:z3O st sp w n with
  | none=>rfl
  | some i=>
   rw[e2] at h
   have h2:=h.2.1
   unfold HitAt at h2
   have l:=y5m (st:=st) (sp:=sp) (w:=w) i
   have x0:=Int.emod_nonneg (st+sp*i) (show w≠0 by omega)
   generalize (st+sp*i)%w=x at h2 l x0
   have:x%gcdI w (sp%w)<=x:=by
    have:=Int.mul_ediv_add_emod x (gcdI w (sp%w))
    have:=Int.mul_nonneg (Int.le_of_lt g0) (Int.ediv_nonneg x0 (Int.le_of_lt g0))
    omega
   omega
end SM
namespace SM
noncomputable def NoPart (n k:Int):Prop:=∀d,2<=d->d<k->¬d∣n
structure IsPart (n d:Int):Prop where
 two:2<=d
 dvd:d∣n
 least:NoPart n d
theorem y0V {n p:Int} (h2:2<=n) (h:NoPart n p) (hp:0<=p) (hs:n<p*p):IsPart n n:=by
 refine⟨h2,Int.dvd_refl n,fun d d2 dn dd=>?_⟩
 obtain⟨e,he⟩:=dd
 have d0:0<d:=by omega
 have e2:2<=e:=by
  rcases (show e<=0∨e=1∨2<=e by omega) with c|c|c
  ·have:=Int.mul_le_mul_of_nonneg_left c (Int.le_of_lt d0);rw[Int.mul_zero] at this;omega
  ·subst c;omega
  ·exact c
 have hd:p<=d:=by
  by_cases c:p<=d
  ·exact c
  ·exact absurd ⟨e,he⟩ (h d d2 (by omega))
 have hee:p<=e:=by
  by_cases c:p<=e
  ·exact c
  ·exact absurd ⟨d,by rw[Int.mul_comm];exact he⟩ (h e e2 (by omega))
 have:=Int.mul_le_mul hd hee hp (by omega)
 omega
theorem z0k {n d:Int} (h:n%d≠0):¬d∣n:=fun z=>h (Int.emod_eq_zero_of_dvd z)
theorem NoPart.five {n:Int} (h2:n%2≠0) (h3:n%3≠0):NoPart n 5:=by
 intro d d2 d5 hd
 rcases (show d=2∨d=3∨d=4 by omega) with e|e|e
 ·subst e;exact z0k h2 hd
 ·subst e;exact z0k h3 hd
 ·subst e;exact z0k h2 (Int.dvd_trans (by decide) hd)
theorem NoPart.six {n p:Int} (h:NoPart n p) (h2:n%2≠0) (h3:n%3≠0) (hp:p%6=5) (a:n%p≠0) (b:n%(p+2)≠0):NoPart n (p+6):=by
 intro d d2 d6 hd
 rcases (show d<p∨d=p∨d=p+1∨d=p+2∨d=p+3∨d=p+4∨d=p+5 by omega) with e|e|e|e|e|e|e
 ·exact h d d2 e hd
 ·subst e;exact z0k a hd
 ·exact z0k h2 (Int.dvd_trans (show (2:Int)∣d by omega) hd)
 ·subst e;exact z0k b hd
 ·exact z0k h2 (Int.dvd_trans (show (2:Int)∣d by omega) hd)
 ·exact z0k h3 (Int.dvd_trans (show (3:Int)∣d by omega) hd)
 ·exact z0k h2 (Int.dvd_trans (show (2:Int)∣d by omega) hd)
theorem NoPart.two_on {n p:Int} (h:NoPart n p) (h2:n%2≠0) (hp:p%6=5) (a:n%p≠0):NoPart n (p+2):=by
 intro d d2 d6 hd
 rcases (show d<p∨d=p∨d=p+1 by omega) with e|e|e
 ·exact h d d2 e hd
 ·subst e;exact z0k a hd
 ·exact z0k h2 (Int.dvd_trans (show (2:Int)∣d by omega) hd)
end SM
namespace SM
end SM
namespace SM
end SM
namespace SM
noncomputable abbrev T3:=Int×Int×Int
inductive Down (n w0 a0 lo0:Int):List T3->Int->Int->Int->Prop
 | top:Down n w0 a0 lo0 [] w0 a0 lo0
 | go {lv:List T3} {w a lo:Int}:Down n w0 a0 lo0 lv w a lo->0<a->¬a*cdiv lo a<=lo+n-1->Down n w0 a0 lo0 (lv++[(w,a,lo)]) a (w%a) ((-(lo+n-1))%a)
end SM
namespace L2
open PySem PySem.Spec PyProof.Rows SM
noncomputable def tupW (t:T3):HO:=.tup [.int t.1,.int t.2.1,.int t.2.2]
noncomputable def Pl (H:Hp) (xs:List V) (ws:List T3):Prop:=xs.length=ws.length/\∀(i:Nat) t,ws[i]?=some t->∃p,xs[i]?=some (.ref p)/\H p=some (tupW t)
theorem Pl.nil {H:Hp}:Pl H [] []:=⟨rfl,fun i t e=>by simp at e⟩
theorem Pl.same {H H':Hp} {xs:List V} {ws:List T3} (g:Same H H') (h:Pl H xs ws):Pl H' xs ws:=⟨h.1,fun i t e=>let ⟨p,e1,e2⟩:=h.2 i t e;⟨p,e1,g _ _ e2⟩⟩
theorem Pl.upd {H:Hp} {xs ys:List V} {ws:List T3} {L:Addr} {o:HO} (h:Pl H xs ws) (hL:H L=some (.lst ys)):Pl (upd H L o) xs ws:=⟨h.1,fun i t e=>by
 obtain⟨p,e1,e2⟩:=h.2 i t e
 exact⟨p,e1,by rw[z0U (ne_of e2 hL (by intro z;cases z))];exact e2⟩⟩
theorem Pl.updN {H:Hp} {xs:List V} {ws:List T3} {L:Addr} {o:HO} (h:Pl H xs ws) (hL:H L=none):Pl (L2.upd H L o) xs ws:=h.same (z0H hL o)
theorem Pl.snoc {H:Hp} {xs:List V} {ws:List T3} {p:Addr} {t:T3} (h:Pl H xs ws) (hp:H p=some (tupW t)):Pl H (xs++[.ref p]) (ws++[t]):=by
 refine⟨by simp [h.1],fun i u e=>?_⟩
 by_cases c:i<ws.length
 ·rw[List.getElem?_append_left c] at e
  obtain⟨b,e1,e2⟩:=h.2 i u e
  exact⟨b,by rw[List.getElem?_append_left (by rw[h.1];exact c)];exact e1,e2⟩
 ·rw[List.getElem?_append_right (by omega)] at e
  have z:i-ws.length=0:=by
   rcases Nat.eq_zero_or_pos (i-ws.length) with z|z
   ·exact z
   ·rw[List.getElem?_eq_none (by simp;omega)] at e;cases e
  rw[z] at e
  cases e
  exact⟨p,by rw[List.getElem?_append_right (by rw[h.1];omega),h.1,z];rfl,hp⟩
theorem Pl.at {H:Hp} {xs:List V} {ws:List T3} (h:Pl H xs ws) {i:Nat} {x:V} (e:xs[i]?=some x):∃p t,ws[i]?=some t/\x=.ref p/\H p=some (tupW t):=by
 have hi:i<ws.length:=by
  rw[←h.1]
  exact (List.getElem?_eq_some_iff.mp e).1
 obtain⟨p,e1,e2⟩:=h.2 i ws[i] (List.getElem?_eq_getElem hi)
 rw[e] at e1
 cases e1
 exact⟨p,ws[i],List.getElem?_eq_getElem hi,rfl,e2⟩
theorem Pl.append {H:Hp} {xs ys:List V} {ws vs:List T3} (h:Pl H xs ws) (k:Pl H ys vs):Pl H (xs++ys) (ws++vs):=by
 refine⟨by simp [h.1,k.1],fun i t e=>?_⟩
 by_cases c:i<ws.length
 ·rw[List.getElem?_append_left c] at e
  rw[List.getElem?_append_left (by rw[h.1];exact c)]
  exact h.2 i t e
 ·rw[List.getElem?_append_right (by omega)] at e
  rw[List.getElem?_append_right (by rw[h.1];omega),h.1]
  exact k.2 _ t e
theorem Pl.ix {H:Hp} {xs:List V} {ws:List T3} (h:Pl H xs ws) {i:Int} (h0:0<=i) (h1:i<ws.length):∃p t,atI xs i=some (.ref p)/\ws[i.toNat]?=some t/\t∈ws/\H p=some (tupW t):=by
 have hk:i.toNat<ws.length:=by omega
 obtain⟨p,e1,e2⟩:=h.2 i.toNat ws[i.toNat] (List.getElem?_eq_getElem hk)
 have ek:i=((i.toNat:Nat):Int):=by omega
 have q:atI xs ((i.toNat:Nat):Int)=some (.ref p):=z0X e1
 rw[←ek] at q
 exact⟨p,_,q,List.getElem?_eq_getElem hk,List.getElem_mem hk,e2⟩
noncomputable def dW (t:T3):PyData:=.tuple [.int t.1,.int t.2.1,.int t.2.2]
theorem y7c {K:PySem.W.Frag} {H:Hp} {p:Addr} {t:T3} (h:H p=some (tupW t)):DD K H (.ref p) (dW t):=.tup (SqT.of h) (.cons (.int _) (.cons (.int _) (.cons (.int _) .nil)))
theorem Pl.dds {K:PySem.W.Frag} {H:Hp}:∀ {ws:List T3} {xs:List V},Pl H xs ws->DDs K H xs (ws.map dW)
 | [],[],_=>.nil
 | [],_::_,h=>by have:=h.1;simp at this
 | _::_,[],h=>by have:=h.1;simp at this
 | t::ws,x::xs,h=>by
  obtain⟨p,e1,e2⟩:=h.2 0 t rfl
  cases e1
  refine .cons (y7c e2) (Pl.dds ⟨by have:=h.1;simpa using this,fun i u e=>?_⟩)
  have:=h.2 (i+1) u (by simpa using e)
  simpa using this
theorem Pl.dd {K:PySem.W.Frag} {H:Hp} {a:Addr} {ws:List T3} {xs:List V} (hs:SqL K H a xs) (h:Pl H xs ws):DD K H (.ref a) (.list (ws.map dW)):=.lst hs h.dds
section
variable {K:PySem.W.Frag} {H:Hp} {Q:VK} {a b:Addr} {xs ys:List V} {ws vs:List T3}
end
end L2
namespace L2
open PySem PySem.Spec PyProof.Rows
theorem Inv.turnedLaid {X:Cx} {pins:List (Addr×Obj)} {σ:St} {H:Hp} {s:Shared} {h':Heap} {t':Nat} {ch:List Addr} {T:Addr} {o:HO} (I:Inv X pins σ H s) (k:∀b u,b∉ch->s.heap.get? b=some u->h'.get? b=some u)
  (hc:∀b∈ch,FpOk X pins H b) (hT:s.heap.objs.size<=T) (new:ObjOk X.prog X.w (upd H T o) h' T o):Inv X pins σ (upd H T o) { s with heap:=h',toks:=t' }:=by
 have nT:H T=none:=I.hok.fresh hT
 have nit:∀b u,H b=some u->b∉ch:=fun b u e z=>by rw[(hc b z).1] at e;cases e
 have lt:∀b u,s.heap.get? b=some u->b≠T:=fun b u e=>Nat.ne_of_lt (Nat.lt_of_lt_of_le (Heap.lt_size e) hT)
 refine I.step (g':=s.gens) (d':=s.drawn) (ch:=ch) (fun b hb=>⟨(hc b hb).2.2.2.1,(hc b hb).2.1,(hc b hb).2.2.2.2.1,(hc b hb).2.2.2.2.2⟩) (fun b u _ _ h e _=>k b u h e) (fun b u _ _ h e _=>⟨u.slots,k b u h e⟩)
  (fun b u _ e n=>by rw[z0U (lt b u e)];exact n) (fun b u h e=>⟨u,k b u h e⟩) (fun b xs e=>by rw[z0U (z0O e nT)];exact e) (fun b u v e=>by rw[z0U (z0O e nT)];exact e)
  (fun b ps e=>⟨#[],by rw[z0U (z0O e nT),e];simp⟩) (fun m hm=>?_) (fun b u e=>?_) I.bare
 ·obtain⟨u,es,ep,ho,r⟩:=hm
  exact⟨u,es,ep,k _ u (fun z=>(hc _ z).2.1 rfl) ho,r⟩
 ·by_cases hb:b=T
  ·subst hb
   rw[z0F] at e
   cases e
   exact new
  ·rw[z0U hb] at e
   refine (I.hok b u e).stay (fun c v hcc q=>k c v ?_ q) (fun c q=>by rw[z0U (z0O q nT)];exact q) fun c xs q=>by rw[z0U (z0O q nT)];exact q
   rcases hcc with z|z
   ·rw[z];exact nit b u e
   ·exact nit c _ z
theorem Inv.turnedL {X:Cx} {pins:List (Addr×Obj)} {σ:St} {H:Hp} {s:Shared} {h':Heap} {t':Nat} {ch:List Addr} (I:Inv X pins σ H s) (k:∀b u,b∉ch->s.heap.get? b=some u->h'.get? b=some u)
  (hc:∀b∈ch,FpOk X pins H b):Inv X pins σ H { s with heap:=h',toks:=t' }:=by
 have nit:∀b u,H b=some u->b∉ch:=fun b u e z=>by rw[(hc b z).1] at e;cases e
 refine I.step (g':=s.gens) (d':=s.drawn) (ch:=ch) (fun b hb=>⟨(hc b hb).2.2.2.1,(hc b hb).2.1,(hc b hb).2.2.2.2.1,(hc b hb).2.2.2.2.2⟩) (fun b u _ _ h e _=>k b u h e) (fun b u _ _ h e _=>⟨u.slots,k b u h e⟩)
  (fun _ _ _ _ n=>n) (fun b u h e=>⟨u,k b u h e⟩) (fun _ _ e=>e) (fun _ _ _ e=>e) (fun b ps e=>⟨#[],by rw[e];simp⟩) (fun m hm=>?_) (fun b u e=>?_) I.bare
 ·obtain⟨u,es,ep,ho,r⟩:=hm
  exact⟨u,es,ep,k _ u (fun z=>(hc _ z).2.1 rfl) ho,r⟩
 ·refine (I.hok b u e).stay (fun c v hcc q=>k c v ?_ q) (fun _ q=>q) fun _ _ q=>q
  rcases hcc with z|z
  ·rw[z];exact nit b u e
  ·exact nit c _ z
noncomputable def Itp (n:Nat) (ok:Hp->Prop) (f:Nat->Hp->V->V->Prop):It:=
 ⟨fun i H=>i<n/\ok H,fun i H x H'=>∃T u v,H T=none/\x=.ref T/\H'=upd H T (.tup [u,v])/\f i H u v,fun i H=>i=n/\ok H⟩
noncomputable def okZ (K:PySem.W.Frag) (a b:Addr) (n:Nat) (H:Hp):Prop:=∃xs ys,SqL K H a xs/\SqL K H b ys/\min xs.length ys.length=n
noncomputable def Itz (K:PySem.W.Frag) (a b:Addr) (n:Nat):It:=Itp n (okZ K a b n) fun i H u v=>(∀xs,SqL K H a xs->xs[i]?=some u)/\∀ys,SqL K H b ys->ys[i]?=some v
noncomputable def iZip (K:PySem.W.Frag) (ta tb:TE):TI:=fun σ H R=>ta σ H fun x H1=>tb σ H1 fun y H2=>∃a b xs ys,x=.ref a/\y=.ref b/\SqL K H2 a xs/\SqL K H2 b ys/\R (Itz K a b (min xs.length ys.length)) H2
section
variable {X:Cx} {es:List Expr} {k:Nat} {tpos:Pos}
end
theorem y0W {K:PySem.W.Frag} {ta tb:TE} {σ:St} {H:Hp} {R:It->Hp->Prop}:iZip K ta tb σ H R=ta σ H fun x H1=>tb σ H1 fun y H2=>∃a b xs ys,x=.ref a/\y=.ref b/\SqL K H2 a xs/\SqL K H2 b ys/\R (Itz K a b (min xs.length ys.length)) H2:=rfl
noncomputable def okE (K:PySem.W.Frag) (a:Addr) (n:Nat) (H:Hp):Prop:=∃xs,SqL K H a xs/\xs.length=n
noncomputable def Ite (K:PySem.W.Frag) (a:Addr) (n:Nat):It:=Itp n (okE K a n) fun i H u v=>u=.int i/\∀xs,SqL K H a xs->xs[i]?=some v
noncomputable def tnE (e it l:Addr) (i:Nat) (h:Heap):Prop:=(∃old,IsEnum h e it i old)/\h.IsListIter it l i
theorem y2g {P:Program} {w:World} {K:PySem.W.Frag} {es:List Expr} {k:Nat} {pos:Pos} {e it l:Addr} {n:Nat} (d1:e≠it) (d2:l≠e) (d3:l≠it) :
  Turn P w K (.Tuple es k pos) (Ite K l n) [e,it] e (tnE e it l) where
 mem:=by simp
 obj:=fun i h st b hb=>by
  obtain⟨⟨old,h1⟩,⟨o4,h4,_,d4⟩⟩:=st
  simp only [List.mem_cons,List.not_mem_nil,or_false] at hb
  rcases hb with rfl|rfl
  ·exact⟨_,h1,fun v q=>nomatch q⟩
  ·exact⟨_,h4,fun v q=>by rw[d4] at q;cases q⟩
 keep:=fun i h h' st kk=>by
  obtain⟨⟨old,h1⟩,h4⟩:=st
  exact⟨⟨old,kk _ (by simp) _ h1⟩,h4.at fun o e=>kk _ (by simp) o e⟩
 item:=by
  intro X hP hw hK hc i pins s σ H E I hf st hg
  subst hP hw hK
  obtain⟨hi,xs,ha,hn⟩:=hg
  obtain⟨us,ru,pu,_⟩:=I.list ha
  have lu:=ru.length
  obtain⟨h1,h4⟩:=st
  have WT:=WalksT.enumerate (prog:=X.prog) (w:=X.w) (A:=X.A) (I.ok.hd hc) e it l d1 d2 d3 us.toArray
  refine WT.item i s _ _ (by simp only [List.size_toArray];omega) ⟨h1,h4,pu.isList⟩ fun T vals h' tk hPt hT tup mid kk=>?_
  obtain⟨t,x,ex,rfl⟩:=hPt
  have ex':us[i]?=some x:=by simpa using ex
  have hxl:i<xs.length:=by omega
  have gx:xs[i]?=some xs[i]:=List.getElem?_eq_getElem hxl
  obtain⟨x2,q1,rx⟩:=ru.get gx
  rw[ex'] at q1
  cases q1
  refine⟨.ref T,rfl,WT.go es k pos i T { s with heap:=h',toks:=tk } _ _ mid fun h2' st2 kk2=>?_⟩
  have Tw:=WT.apart i T h' mid
  have nT:H T=none:=I.hok.fresh hT
  obtain⟨oT,hoT,cT,nT2,dT⟩:=tup
  have tup2:IsTup h2' T #[.int i t,x]:=⟨oT,kk2 T oT Tw hoT,cT,nT2,dT⟩
  have I2:Inv X pins σ (upd H T (.tup [.int i,xs[i]])) { s with heap:=h2',toks:=tk }:=
   I.turnedLaid (fun b u hb e=>kk2 b u hb (kk b u hb e)) (fun b hb=>hf b hb) hT ⟨show 2<=sizeLine by decide,[.int i t,x],.cons ⟨t,rfl⟩ (.cons rx .nil),tup2⟩
  refine⟨.ref T,_,I2,rfl,⟨T,.int i,xs[i],nT,rfl,rfl,rfl,fun zs hz=>by rw[I.list_inj hz ha];exact gx⟩,?_,fun b hb=>?_⟩
  ·obtain⟨a1,a2,_⟩:=st2
   exact⟨a1,a2⟩
  ·have:b≠T:=by
    rintro rfl
    simp only [List.mem_cons,List.not_mem_nil,or_false] at hb
    have lt:b<s.heap.objs.size:=by
     obtain⟨old,h1⟩:=h1
     obtain⟨o4,h4,_⟩:=h4
     rcases hb with rfl|rfl
     ·exact Heap.lt_size h1
     ·exact Heap.lt_size h4
    exact absurd (Nat.lt_of_lt_of_le lt hT) (Nat.lt_irrefl _)
   rw[z0U this]
   exact (hf b hb).1
 done:=by
  intro X hP hw hK hc i pins s σ H E I hf st hg
  subst hP hw hK
  obtain⟨hi,xs,ha,hn⟩:=hg
  obtain⟨us,ru,pu,_⟩:=I.list ha
  have lu:=ru.length
  obtain⟨h1,h4⟩:=st
  have WT:=WalksT.enumerate (prog:=X.prog) (w:=X.w) (A:=X.A) (I.ok.hd hc) e it l d1 d2 d3 us.toArray
  have ei:us.toArray.size=i:=by simp only [List.size_toArray];omega
  refine WT.done s _ _ (by rw[ei];exact⟨h1,h4,pu.isList⟩) fun h' tk kk=>⟨rfl,I.turnedL kk fun b hb=>hf b hb⟩
 self:=fun A i s Q E st h=>by
  obtain⟨⟨old,h1⟩,_⟩:=st
  exact wpAny_pyIter_enum h1 h
noncomputable def iEnum (K:PySem.W.Frag) (ta:TE):TI:=fun σ H R=>ta σ H fun x H1=>∃a xs,x=.ref a/\SqL K H1 a xs/\R (Ite K a xs.length) H1
section
variable {X:Cx} {es:List Expr} {k:Nat} {tpos:Pos}
theorem y7B {l:Expr} {tl:TE} {p pos:Pos} (hg:Gl X "enumerate") (hm:X.mg "enumerate" = none) (hl:PE X l tl) (hs:starEach [l] X.env=[(false,eval l X.env)]:=by rfl) :
  PI X (.Tuple es k tpos) (.Call (.Name "enumerate" p) [l] [] pos) (iEnum X.K tl):=by
 intro pins s σ H R I h
 refine Call_ (z4A I hg hm (u:=.type "enumerate") (by decide +kernel) (PyProof.Rows.callWith_type1 ?_ hs rfl))
 refine thn ((z0A hl z0C hs) pos pins s σ H (fun vs H1=>∃x:V,vs=[x]/\∃a xs,x=.ref a/\SqL X.K H1 a xs/\R (Ite X.K a xs.length) H1) I ?_) fun us s1 ⟨vs,H1,I1,r,x,e,a,xs,ea,ha,q⟩=>?_
 ·show tl σ H fun x H1=>∃x',[x]=[x']/\_
  have e:(fun (x:V) (H1:Hp)=>∃x',[x]=[x']/\∃a xs,x'=V.ref a/\SqL X.K H1 a xs/\R (Ite X.K a xs.length) H1)=fun (x:V) (H1:Hp)=>∃a xs,x=V.ref a/\SqL X.K H1 a xs/\R (Ite X.K a xs.length) H1:=by
   funext x H1
   refine propext ⟨fun⟨x',e,q⟩=>?_,fun q=>⟨x,rfl,q⟩⟩
   cases e
   exact q
  rw[e]
  exact h
 subst e ea
 obtain⟨u,rfl,r1⟩:=Vals.one r
 cases r1
 obtain⟨us,ru,pu,_⟩:=I1.list ha
 have la:a<s1.heap.objs.size:=by obtain⟨o,e,_⟩:=pu.isList;exact Heap.lt_size e
 refine call_enumerate_list pu.isList fun h' hz hi1 hsz hk=>?_
 refine wpAny_pyIter_enum hz ?_
 have I2:Inv X pins σ H1 { s1 with heap:=h' }:=I1.kept (t':=s1.toks) hk
 refine⟨_,_,_,_,H1,rfl,I2,y2g (Nat.succ_ne_self _) (Nat.ne_of_lt (Nat.lt_succ_of_lt la)) (Nat.ne_of_lt la),⟨⟨_,hz⟩,hi1⟩,fun c hc=>?_,q⟩
 have hc':s1.heap.objs.size<=c:=by
  simp only [List.mem_cons,List.not_mem_nil,or_false] at hc
  rcases hc with rfl|rfl <;> first|exact Nat.le_refl _|exact Nat.le_add_right _ _
 exact I1.fpOk hc' (I1.hok.fresh hc')
end
theorem z7n {K:PySem.W.Frag} {ta:TE} {σ:St} {H:Hp} {R:It->Hp->Prop}:iEnum K ta σ H R=ta σ H fun x H1=>∃a xs,x=.ref a/\SqL K H1 a xs/\R (Ite K a xs.length) H1:=rfl
theorem y4U {K:PySem.W.Frag} {a:Addr} {xs:List V} {g:TG} {tb:TS} {D:Ends} {σ:St} {H:Hp} (Pv:Nat->St->Hp->Prop) (h0:Pv 0 σ H) (hl:∀i σ H,Pv i σ H->SqL K H a xs)
  (hs:∀(i:Nat) v T σ H,xs[i]?=some v->H T=none->Pv i σ H->g (.ref T) σ (upd H T (.tup [.int i,v])) fun σ2 H2=>tb { D with nx:=Pv (i+1),ct:=Pv (i+1),bk:=D.nx } σ2 H2)
  (hd:∀σ H,Pv xs.length σ H->D.nx σ H):ForW (Ite K a xs.length) g tb D σ H:=by
 refine⟨fun i m σ H=>m=xs.length-i/\i<=xs.length/\Pv i σ H,⟨_,rfl,Nat.zero_le _,h0⟩,?_⟩
 rintro i m σ1 H1 ⟨rfl,hi,p⟩
 have qa:=hl i σ1 H1 p
 by_cases hlt:i<xs.length
 ·refine .inr ⟨⟨hlt,xs,qa,rfl⟩,Pv (i+1),fun σ' H' p'=>⟨xs.length-(i+1),by omega,rfl,hlt,p'⟩,fun x H' y=>?_⟩
  obtain⟨T,u,v,nT,rfl,rfl,rfl,f2⟩:=y
  exact hs i v T σ1 H1 (f2 xs qa) nT p
 ·have e:i=xs.length:=by omega
  subst e
  exact .inl ⟨⟨rfl,xs,qa,rfl⟩,hd σ1 H1 p⟩
end L2
namespace L2
open PySem PySem.Spec PyProof.Rows
noncomputable def Its (lo c:Int) (n:Nat):It:=⟨fun i _=>i<n,fun i H x H'=>H'=H/\x=.int (lo+i*c),fun i _=>n<=i⟩
theorem z9c {P:Program} {w:World} {K:PySem.W.Frag} {tg:Expr} (it:Addr) (lo c:Int) (n:Nat):Turn P w K tg (Its lo c n) [it] it (fun i h=>IsRangeIter h it (lo+(i:Nat)*c) ((n:Int)-(i:Nat)) c) where
 mem:=by simp
 obj:=fun i h st b hb=>by
  obtain rfl:b=it:=by simpa using hb
  exact⟨_,st,fun v z=>nomatch (show Data.fields _=Data.cell v from z)⟩
 keep:=fun i h h' st k=>k it (by simp) _ st
 item:=by
  intro X hP hw hK hc i pins s σ H E I hf st hg
  subst hP hw hK
  obtain⟨f0,f1,f2,f3,f4,f5⟩:=hf it (by simp)
  have WR:=Walks.range (prog:=X.prog) (w:=X.w) (I.ok.hd hc) it lo c n
  refine WR.item i s _ _ hg st fun v h' tk hv st' kk=>?_
  obtain⟨t,rfl⟩:=hv
  have I1:Inv X pins σ H { s with heap:=h',toks:=tk }:=I.turned (fun b o hb e=>kk b o (by simpa using hb) e) f0 f1 f3 f4 f5
  exact⟨_,rfl,go_of (s:={ s with heap:=h',toks:=tk }) (n:= "range_iterator") st' rfl rfl (by decide) ⟨.int (lo+i*c),H,I1,⟨t,rfl⟩,⟨rfl,rfl⟩,st',fun b hb=>(hf b hb).1⟩⟩
 done:=by
  intro X hP hw hK hc i pins s σ H E I hf st hg
  subst hP hw hK
  obtain⟨f0,f1,f2,f3,f4,f5⟩:=hf it (by simp)
  exact wpAny_pyNext_range_end (I.ok.hd hc) st (by have:n<=i:=hg;omega) fun h' eb=>⟨rfl,I.turned (t':=s.toks) (fun b o hb e=>eb b o hb e) f0 f1 f3 f4 f5⟩
 self:=fun _ _ _ _ _ st h=>wpAny_pyIter_rangeiter st h
theorem z9d {P:Program} {w:World} {K:PySem.W.Frag} {tg:Expr} (it:Addr) (lo c:Int) (n:Nat):Turn P w K tg (Its lo c n) [it] it (fun i h=>IsLongIter h it (lo+(i:Nat)*c) ((n:Int)-(i:Nat)) c) where
 mem:=by simp
 obj:=fun i h st b hb=>by
  obtain rfl:b=it:=by simpa using hb
  exact⟨_,st,fun v z=>nomatch (show Data.fields _=Data.cell v from z)⟩
 keep:=fun i h h' st k=>k it (by simp) _ st
 item:=by
  intro X hP hw hK hc i pins s σ H E I hf st hg
  subst hP hw hK
  obtain⟨f0,f1,f2,f3,f4,f5⟩:=hf it (by simp)
  have WR:=Walks.longrange (prog:=X.prog) (w:=X.w) (I.ok.hd hc) it lo c n
  refine WR.item i s _ _ hg st fun v h' tk hv st' kk=>?_
  obtain⟨t,rfl⟩:=hv
  have I1:Inv X pins σ H { s with heap:=h',toks:=tk }:=I.turned (fun b o hb e=>kk b o (by simpa using hb) e) f0 f1 f3 f4 f5
  exact⟨_,rfl,go_of (s:={ s with heap:=h',toks:=tk }) (n:= "longrange_iterator") st' rfl rfl (by decide) ⟨.int (lo+i*c),H,I1,⟨t,rfl⟩,⟨rfl,rfl⟩,st',fun b hb=>(hf b hb).1⟩⟩
 done:=by
  intro X hP hw hK hc i pins s σ H E I hf st hg
  subst hP hw hK
  obtain⟨f0,f1,f2,f3,f4,f5⟩:=hf it (by simp)
  exact wpAny_pyNext_long_end (I.ok.hd hc) st (by have:n<=i:=hg;omega) fun h' eb=>⟨rfl,I.turned (t':=s.toks) (fun b o hb e=>eb b o hb e) f0 f1 f3 f4 f5⟩
 self:=fun _ _ _ _ _ st h=>wpAny_pyIter_longiter st h
section
variable {X:Cx} {tg:Expr}
theorem y3Q {pins:List (Addr×Obj)} {σ:St} {H:Hp} {s:Shared} {R:It->Hp->Prop} {E:Value->Shared->Prop} {lo hi c:Int} {t u v:Tok} {tk:Nat} (I:Inv X pins σ H s) {n:Nat} (hn:(n:Int)=Builtin.Range.rangeSize lo hi c)
  (q:R (Its lo c n) H):wpAny (model X.prog X.w) X.A (pyIter (.ref s.heap.objs.size)) (PIE X pins σ tg R) E { s with heap:=s.heap.push { cls:=.type "range",data:=.fields #[.int lo t,.int hi u,.int c v] },toks:=tk }:=by
 have I1:Inv X pins σ H { s with heap:=s.heap.push { cls:=.type "range",data:=.fields #[.int lo t,.int hi u,.int c v] },toks:=tk }:=I.kept fun b o e=>Heap.get?_push_of_some _ e
 have e1:lo+((0:Nat):Int)*c=lo:=by simp
 have e2:((n:Nat):Int)-((0:Nat):Int)=Builtin.Range.rangeSize lo hi c:=by rw[←hn];simp
 by_cases hs:Builtin.Range.small lo hi c=true
 ·refine wpAny_pyIter_range (IsRange.new ..) hs ?_
  refine⟨_,[_],_,_,H,rfl,I1.kept (t':=tk) fun b o e=>Heap.get?_push_of_some _ e,z9c _ lo c n,?_,fun b hb=>?_,q⟩
  ·show IsRangeIter _ _ (lo+((0:Nat):Int)*c) (((n:Nat):Int)-((0:Nat):Int)) c
   rw[e1,e2]
   exact Heap.get?_push_size _ rfl
  ·obtain rfl:=List.mem_singleton.mp hb
   exact I1.fpOk (Nat.le_refl _) (I1.hok.fresh (Nat.le_refl _))
 ·refine wpAny_pyIter_longrange (IsRange.new ..) (by simpa using hs) ?_
  refine⟨_,[_],_,_,H,rfl,I1.kept (t':=tk) fun b o e=>Heap.get?_push_of_some _ e,z9d _ lo c n,?_,fun b hb=>?_,q⟩
  ·show IsLongIter _ _ (lo+((0:Nat):Int)*c) (((n:Nat):Int)-((0:Nat):Int)) c
   rw[e1,e2]
   exact Heap.get?_push_size _ rfl
  ·obtain rfl:=List.mem_singleton.mp hb
   exact I1.fpOk (Nat.le_refl _) (I1.hok.fresh (Nat.le_refl _))
noncomputable def iRngA (ta:TA):TI:=fun σ H R=>ta σ H fun vs H1=>∃i j:Int,vs=[.int i,.int j]/\R (Its i 1 (j-i).toNat) H1
noncomputable def iRng3 (ta:TA):TI:=fun σ H R=>ta σ H fun vs H1=>∃(i j c:Int) (n:Nat),vs=[.int i,.int j,.int c]/\0<c/\c<1000000/\(n:Int)=Builtin.Range.rangeSize i j c/\R (Its i c n) H1
theorem z8z {a b c:Expr} {ta:TA} {p pos:Pos} (hg:Gl X "range") (hm:X.mg "range" = none) (ha:PA X [a,b,c] ta) (hs:starEach [a,b,c] X.env=[(false,eval a X.env),(false,eval b X.env),(false,eval c X.env)]:=by rfl) (hs2:starEach [b,c] X.env=[(false,eval b X.env),(false,eval c X.env)]:=by rfl) :
  PI X tg (.Call (.Name "range" p) [a,b,c] [] pos) (iRng3 ta):=by
 intro pins s σ H R I h
 refine Call_ (z4A I hg hm boot_range (PyProof.Rows.callWith_type1 (thn (ha pos pins s σ H _ I h) fun us s1 ⟨vs,H1,I1,r1,q1⟩=>?_) (by rw[hs,hs2]) (by rw[hs2];rfl)))
 obtain⟨i,j,c,n,e,c0,c1,hn,q⟩:=q1
 subst e
 cases r1 with
 | cons r rr=>
  obtain⟨u,v,rfl,⟨t,rfl⟩,⟨t',rfl⟩⟩:=Vals.two rr
  obtain⟨t2,rfl⟩:=r
  exact call_range_3 (by omega) (y3Q I1 hn q) (Or.inl (PyProof.noPylong_small (by omega)))
end
section
variable {D:Ends} {σ:St} {H:Hp} {Q:VK}
theorem z7h {ta:TA} {R:It->Hp->Prop}:iRngA ta σ H R=ta σ H fun vs H1=>∃i j:Int,vs=[.int i,.int j]/\R (Its i 1 (j-i).toNat) H1:=rfl
theorem z7i {ta:TA} {R:It->Hp->Prop}:iRng3 ta σ H R=ta σ H fun vs H1=>∃(i j c:Int) (n:Nat),vs=[.int i,.int j,.int c]/\0<c/\c<1000000/\(n:Int)=Builtin.Range.rangeSize i j c/\R (Its i c n) H1:=rfl
theorem y4m {lo c:Int} {n:Nat} {g:TG} {tt:TT} {te:TE} {own:List Str} {fr:List Nat} (Sv:St->Prop) (Pv:Addr->Nat->List V->Hp->Prop) (hS:Sv (st0 own fr σ))
  (h0:∀D,H D=none->Pv D 0 [] (upd H D (.lst [])))
  (hs:∀D i ys σ H',i<n->Sv σ->H' D=some (.lst ys)->ys.length<=i->Pv D i ys H'->g (.int (lo+i*c)) σ H' fun σ2 H2=>tt σ2 H2 fun b H3=>if b=true then te σ2 H3 fun y H4=>CompP Sv Pv D i σ2 y H4 else CompN Sv Pv D (i+1) σ2 H3)
  (hd:∀D ys H',H' D=some (.lst ys)->Pv D n ys H'->Q (.ref D) H'):CompW (Its lo c n) g tt te own fr σ H Q:=by
 intro D hD
 refine⟨fun i m σ H=>m=n-i/\i<=n/\CompN Sv Pv D i σ H,⟨_,rfl,Nat.zero_le _,hS,[],z0F,Nat.le_refl _,h0 D hD⟩,?_⟩
 rintro i m σ1 H1 ⟨rfl,hi,hs1,ys,hy,hy2,p⟩
 by_cases hlt:i<n
 ·refine .inr ⟨hlt,CompN Sv Pv D (i+1),fun σ' H' p'=>⟨n-(i+1),by omega,rfl,hlt,p'⟩,fun x H' y=>?_⟩
  obtain⟨e,y⟩:=y
  subst e y
  exact hs D i ys σ1 _ hlt hs1 hy hy2 p
 ·have e:i=n:=by omega
  subst e
  exact .inl ⟨Nat.le_refl _,hd D ys H1 hy p⟩
end
theorem rsN {a b c:Int} (h:0<c):((Builtin.Range.rangeSize a b c).toNat:Int)=Builtin.Range.rangeSize a b c:=by
 unfold Builtin.Range.rangeSize
 rw[if_pos h]
 split
 ·have:=Int.ediv_nonneg (show 0<=b-a-1 by omega) (show 0<=c by omega)
  omega
 ·rfl
theorem rsLt {a b c:Int} (h:0<c) {i:Nat} (hi:i<(Builtin.Range.rangeSize a b c).toNat):a+i*c<b:=by
 have e:=rsN (a:=a) (b:=b) h
 have hi':(i:Int)<Builtin.Range.rangeSize a b c:=by omega
 unfold Builtin.Range.rangeSize at hi'
 rw[if_pos h] at hi'
 split at hi'
 ·have h1:(i:Int)<=(b-a-1)/c:=by omega
  have h2:=(Int.le_ediv_iff_mul_le h).mp h1
  omega
 ·omega
end L2
namespace L2
open PySem PySem.Spec PyProof.Rows
noncomputable def CI (mg:Str->Option Value) (x:Str) (n:Int):Prop:=∃t,mg x=some (.int n t)
theorem ci_mk {K:PySem.W.Frag} {h:Heap} {mg:Str->Option Value} {x:Str} {n:Int} {t:Tok} (X:K.In h) (G:h.Ns mainGlobals mg) (a:PySem.W.nsIn K mainGlobals x=some (some (.int n t))):CI mg x n:=⟨t,PySem.W.mg_of X G a⟩
theorem pe_ci {X:Cx} {x:Str} {n:Int} {pos:Pos} (hg:Gl X x) (h:CI X.mg x n) (hd:(x == ("__debug__" : Str))=false:=by decide):PE X (.Name x pos) (tC (.int n)):=by
 obtain⟨t,e⟩:=h
 exact z5c hg e ⟨t,rfl⟩ hd
noncomputable def CT (K:PySem.W.Frag) (mg:Str->Option Value) (x:Str) (ns:List Int):Prop:=∃a:Addr,mg x=some (.ref a)/\∀H:Hp,SqT K H a (ns.map V.int)
theorem ct_mk {K:PySem.W.Frag} {h:Heap} {mg:Str->Option Value} {x:Str} {ns:List Int} {a:Addr} {o:Obj} {its:Array Value} {n:Nat} (X:K.In h) (G:h.Ns mainGlobals mg) (e:PySem.W.nsIn K mainGlobals x=some (some (.ref a)))
  (l:K.lookup a=some o) (c:o.cls=.type "tuple") (d:o.data=.seq its n) (z:its.size<=sizeLine) (v:Vals (ns.map V.int) its.toList):CT K mg x ns:=⟨a,PySem.W.mg_of X G e,fun _=>.inr ⟨o,its,n,l,c,d,z,v⟩⟩
end L2
namespace SM
noncomputable def liesB (u:T3) (s r:Int):Bool:=decide (u.1-u.2.2<=(r-u.2.1-u.2.2)%gcdI s u.1)
theorem z6e {p l x:Int} (hp:1<=p) (l0:1<=l) (l1:l<p):(x-l)%p<p-l ↔ l<=x%p:=by
 have a:=Int.emod_nonneg x (show p≠0 by omega)
 have b:=Int.emod_lt_of_pos x (show 0<p by omega)
 have e:=Int.mul_ediv_add_emod x p
 by_cases c:l<=x%p
 ·have e2:(x-l)%p=x%p-l:=by
   have:x-l=(x%p-l)+p*(x/p):=by omega
   rw[this,Int.add_mul_emod_self_left,Int.emod_eq_of_lt (by omega) (by omega)]
  rw[e2]
  omega
 ·have e2:(x-l)%p=x%p-l+p:=by
   have:x-l=(x%p-l+p)+p*(x/p-1):=by
    rw[Int.mul_sub,Int.mul_one]
    omega
   rw[this,Int.add_mul_emod_self_left,Int.emod_eq_of_lt (by omega) (by omega)]
  rw[e2]
  omega
theorem y1e {p f l s r:Int} (hp:1<=p) (l0:1<=l) (l1:l<=p):(p-l<=(r-f-l)%gcdI s p) ↔ ∀k:Nat,(k:Int)<p->(r+s*k-f)%p<l:=by
 have b:∀x:Int,0<=x%p/\x%p<p:=fun x=>⟨Int.emod_nonneg x (by omega),Int.emod_lt_of_pos x (by omega)⟩
 have gp:=z0m (a:=s) (b:=p) (by omega)
 by_cases c:l=p
 ·subst c
  refine⟨fun _ k _=>(b _).2,fun _=>?_⟩
  have:=Int.emod_nonneg (r-f-l) (show gcdI s l≠0 by omega)
  omega
 ·have eg:gcdI p (s%p)=gcdI s p:=z4C s p
  have N:=z4Y (st:=r-f-l) (sp:=s) (w:=p) (n:=p-l) (by omega) (by omega)
  rw[eg] at N
  refine⟨fun h k hk=>?_,fun h=>?_⟩
  ·have n:=N.mpr h
   have L:=z1b (st:=r-f-l) (sp:=s) (w:=p) (n:=p-l) (by omega) (by omega)
   rw[n] at L
   by_cases d:(r+s*k-f)%p<l
   ·exact d
   ·exfalso
    have:=L k (by omega)
    unfold HitAt at this
    have e:r-f-l+s*(k:Int)=(r+s*k-f)-l:=by omega
    rw[e] at this
    exact this ((z6e hp l0 (by omega)).mpr (by omega))
  ·refine N.mp ?_
   cases hf:z3O (r-f-l) s p (p-l) with
   | none=>rfl
   | some i=>
    exfalso
    have L:=z1b (st:=r-f-l) (sp:=s) (w:=p) (n:=p-l) (by omega) (by omega)
    rw[hf] at L
    obtain⟨i0,ih,_⟩:=L
    unfold HitAt at ih
    have il:=z5x (w:=p) (by omega) (show 1<=p-l by omega) hf
    have ip:p/gcdI p (s%p)<=p:=Int.ediv_le_self _ (by omega)
    have e:r-f-l+s*i=(r+s*i-f)-l:=by omega
    rw[e] at ih
    have:=(z6e hp l0 (by omega)).mp ih
    have hk:=h i.toNat (by omega)
    have ei:((i.toNat:Nat):Int)=i:=by omega
    rw[ei] at hk
    omega
end SM
namespace L2
open PySem PySem.Spec PyProof.Rows SM
inductive Pap where
 | inn (k:Int)
 | par (b:Int) (ps:List Pap)
mutual
noncomputable def Pap.dep:Pap->Nat
 | .inn _=>0
 | .par _ ps=>Pap.deps ps+1
noncomputable def Pap.deps:List Pap->Nat
 | []=>0
 | p::ps=>max p.dep (Pap.deps ps)
end
theorem Pap.dep_mem:∀ {ps:List Pap} {p:Pap},p∈ps->p.dep<=Pap.deps ps
 | q::ps,p,h=>by
  simp only [Pap.deps]
  rcases List.mem_cons.mp h with e|e
  ·rw[e];omega
  ·have:=Pap.dep_mem e;omega
mutual
inductive PapIn (K:PySem.W.Frag) (N:Addr->Prop) (H:Hp):V->Pap->Prop where
 | inn {a:Addr} {k:Int}:H a=some (.tup [.str "in",.int k])->PapIn K N H (.ref a) (.inn k)
 | par {a l:Addr} {b:Int} {xs:List V} {ps:List Pap}:H a=some (.tup [.str "parted",.int b,.ref l])->H l=some (.lst xs)->N l->xs.length<2^60->PapsIn K N H xs ps->PapIn K N H (.ref a) (.par b ps)
inductive PapsIn (K:PySem.W.Frag) (N:Addr->Prop) (H:Hp):List V->List Pap->Prop where
 | nil:PapsIn K N H [] []
 | cons {x:V} {xs:List V} {p:Pap} {ps:List Pap}:PapIn K N H x p->PapsIn K N H xs ps->PapsIn K N H (x::xs) (p::ps)
end
section
variable {K:PySem.W.Frag} {N N':Addr->Prop} {H H':Hp}
mutual
theorem PapIn.mono (g:Same H H'):∀ {v:V} {p:Pap},PapIn K N H v p->PapIn K N H' v p
 | _,_,.inn h=>.inn (g _ _ h)
 | _,_,.par h hl n hz hs=>.par (g _ _ h) (g _ _ hl) n hz (PapsIn.mono g hs)
theorem PapsIn.mono (g:Same H H'):∀ {vs:List V} {ps:List Pap},PapsIn K N H vs ps->PapsIn K N H' vs ps
 | _,_,.nil=>.nil
 | _,_,.cons h hs=>.cons (PapIn.mono g h) (PapsIn.mono g hs)
end
mutual
theorem PapIn.imp (f:∀l,N l->N' l):∀ {v:V} {p:Pap},PapIn K N H v p->PapIn K N' H v p
 | _,_,.inn h=>.inn h
 | _,_,.par h hl n hz hs=>.par h hl (f _ n) hz (PapsIn.imp f hs)
theorem PapsIn.imp (f:∀l,N l->N' l):∀ {vs:List V} {ps:List Pap},PapsIn K N H vs ps->PapsIn K N' H vs ps
 | _,_,.nil=>.nil
 | _,_,.cons h hs=>.cons (PapIn.imp f h) (PapsIn.imp f hs)
end
theorem z9b {D b:Addr} {zs ys:List V} {o:HO} (hD:H D=some (.lst zs)) (h:H b=some (.tup ys)):upd H D o b=some (.tup ys):=by
 rw[z0U (ne_of h hD (by intro z;cases z))]
 exact h
mutual
theorem PapIn.write {D:Addr} {zs:List V} {o:HO} (hD:H D=some (.lst zs)) (f:∀l,N l->l≠D):∀ {v:V} {p:Pap},PapIn K N H v p->PapIn K N (upd H D o) v p
 | _,_,.inn h=>.inn (z9b hD h)
 | _,_,.par h hl n hz hs=>.par (z9b hD h) (by rw[z0U (f _ n)];exact hl) n hz (PapsIn.write hD f hs)
theorem PapsIn.write {D:Addr} {zs:List V} {o:HO} (hD:H D=some (.lst zs)) (f:∀l,N l->l≠D):∀ {vs:List V} {ps:List Pap},PapsIn K N H vs ps->PapsIn K N (upd H D o) vs ps
 | _,_,.nil=>.nil
 | _,_,.cons h hs=>.cons (PapIn.write hD f h) (PapsIn.write hD f hs)
end
theorem PapsIn.len:∀ {xs:List V} {ps:List Pap},PapsIn K N H xs ps->xs.length=ps.length
 | _,_,.nil=>rfl
 | _,_,.cons _ h=>by simp [h.len]
theorem PapsIn.at:∀ {xs:List V} {ps:List Pap},PapsIn K N H xs ps->∀ {i:Nat} {x:V},xs[i]?=some x->∃p,ps[i]?=some p/\PapIn K N H x p
 | _,_,.nil,i,x,e=>by simp at e
 | _,_,.cons h hs,0,x,e=>by cases e;exact⟨_,rfl,h⟩
 | _,_,.cons h hs,i+1,x,e=>by simpa using hs.at (i:=i) (by simpa using e)
theorem PapsIn.append:∀ {xs ys:List V} {ps qs:List Pap},PapsIn K N H xs ps->PapsIn K N H ys qs->PapsIn K N H (xs++ys) (ps++qs)
 | _,_,_,_,.nil,k=>k
 | _,_,_,_,.cons h hs,k=>.cons h (hs.append k)
theorem PapsIn.snoc {xs:List V} {ps:List Pap} {x:V} {p:Pap} (h:PapsIn K N H xs ps) (k:PapIn K N H x p):PapsIn K N H (xs++[x]) (ps++[p]):=h.append (.cons k .nil)
end
noncomputable abbrev anyL:Addr->Prop:=fun _=>True
theorem PapIn.any {K:PySem.W.Frag} {N:Addr->Prop} {H:Hp} {v:V} {p:Pap} (h:PapIn K N H v p):PapIn K anyL H v p:=h.imp fun _ _=>trivial
mutual
noncomputable def z0Y (ws:List T3) (s r:Int):Pap->Bool
 | .inn k=>decide (0<=k) && (decide (k<ws.length) && liesB (ws.getD k.toNat (1,0,1)) s r)
 | .par b ps=>decide (2<=b) && (decide ((ps.length:Int)=b) && z0h ws s r b 0 ps)
noncomputable def z0h (ws:List T3) (s r b:Int):Nat->List Pap->Bool
 | _,[]=>true
 | c,p::ps=>z0Y ws (s*b) (r+s*c) p && z0h ws s r b (c+1) ps
end
theorem z2E {ws:List T3} {s r b:Int}:∀ {ps:List Pap} {c i:Nat} {p:Pap},ps[i]?=some p->z0h ws s r b c (ps.take (i+1))=(z0h ws s r b c (ps.take i) && z0Y ws (s*b) (r+s*((c+i:Nat):Int)) p)
 | [],c,i,p,e=>by simp at e
 | q::ps,c,0,p,e=>by
  cases e
  simp [z0h]
 | q::ps,c,i+1,p,e=>by
  have e':ps[i]?=some p:=by simpa using e
  have ih:=z2E (ws:=ws) (s:=s) (r:=r) (b:=b) (c:=c+1) e'
  simp only [List.take_succ_cons,z0h]
  rw[ih,Bool.and_assoc]
  have:c+1+i=c+(i+1):=by omega
  rw[this]
theorem z2f {ws:List T3} {s r b:Int}:∀ {ps:List Pap} {c i:Nat} {p:Pap},ps[i]?=some p->z0Y ws (s*b) (r+s*((c+i:Nat):Int)) p=false->z0h ws s r b c ps=false
 | [],c,i,p,e,_=>by simp at e
 | q::ps,c,0,p,e,h=>by
  cases e
  simp only [z0h]
  rw[show c+0=c from rfl] at h
  rw[h,Bool.false_and]
 | q::ps,c,i+1,p,e,h=>by
  have e':ps[i]?=some p:=by simpa using e
  simp only [z0h]
  have:c+(i+1)=c+1+i:=by omega
  rw[this] at h
  rw[z2f e' h,Bool.and_false]
mutual
noncomputable def Pap.kn:Pap->Nat
 | .inn _=>1
 | .par _ ps=>Pap.kns ps+1
noncomputable def Pap.kns:List Pap->Nat
 | []=>0
 | p::ps=>p.kn+Pap.kns ps
end
mutual
noncomputable def Pap.nm:Pap->List Int
 | .inn k=>[k]
 | .par _ ps=>Pap.nms ps
noncomputable def Pap.nms:List Pap->List Int
 | []=>[]
 | p::ps=>p.nm++Pap.nms ps
end
theorem Pap.kn_pos (p:Pap):1<=p.kn:=by cases p <;> simp [Pap.kn]
theorem Pap.kn_mem:∀ {ps:List Pap} {p:Pap},p∈ps->p.kn<=Pap.kns ps
 | q::ps,p,h=>by
  simp only [Pap.kns]
  rcases List.mem_cons.mp h with e|e
  ·rw[e];omega
  ·have:=Pap.kn_mem e;omega
theorem Pap.kns_len:∀ps:List Pap,ps.length<=Pap.kns ps
 | []=>Nat.zero_le _
 | p::ps=>by
  have:=Pap.kns_len ps
  have:=p.kn_pos
  simp only [Pap.kns,List.length_cons]
  omega
mutual
theorem Pap.nm_len:∀p:Pap,p.nm.length<=p.kn
 | .inn _=>by simp [Pap.nm,Pap.kn]
 | .par _ ps=>by
  have:=Pap.nms_len ps
  simp only [Pap.nm,Pap.kn]
  omega
theorem Pap.nms_len:∀ps:List Pap,(Pap.nms ps).length<=Pap.kns ps
 | []=>by simp [Pap.nms]
 | p::ps=>by
  have h1:=p.nm_len
  have h2:=Pap.nms_len ps
  simp only [Pap.nms,Pap.kns,List.length_append]
  omega
end
theorem Pap.kns_take:∀ {ps:List Pap} {i:Nat} {p:Pap},ps[i]?=some p->Pap.kns (ps.take (i+1))=Pap.kns (ps.take i)+p.kn
 | [],i,p,e=>by simp at e
 | q::ps,0,p,e=>by cases e;simp [Pap.kns]
 | q::ps,i+1,p,e=>by
  have:=Pap.kns_take (ps:=ps) (i:=i) (by simpa using e)
  simp only [List.take_succ_cons,Pap.kns]
  omega
theorem Pap.nms_take:∀ {ps:List Pap} {i:Nat} {p:Pap},ps[i]?=some p->Pap.nms (ps.take (i+1))=Pap.nms (ps.take i)++p.nm
 | [],i,p,e=>by simp at e
 | q::ps,0,p,e=>by cases e;simp [Pap.nms]
 | q::ps,i+1,p,e=>by
  have:=Pap.nms_take (ps:=ps) (i:=i) (by simpa using e)
  simp only [List.take_succ_cons,Pap.nms,this,List.append_assoc]
theorem Pap.kns_append:∀(ps qs:List Pap),Pap.kns (ps++qs)=Pap.kns ps+Pap.kns qs
 | [],qs=>by simp [Pap.kns]
 | p::ps,qs=>by simp only [List.cons_append,Pap.kns,Pap.kns_append ps qs];omega
section
variable {K:PySem.W.Frag} {N:Addr->Prop} {H H':Hp} {X:Addr} {zs:List V}
end
end L2
namespace L2
open PySem PySem.Spec PyProof.Rows
section
variable {X:Cx}
end
theorem z9s {K:PySem.W.Frag} {T:String} {r:V->List V->Hp->VK->Prop} {to:TE} {σ:St} {H:Hp} {Q:VK}:tBM0 K T r to σ H Q=to σ H fun x H1=>tyV K T x H1/\r x [] H1 Q:=rfl
end L2
namespace L2
open PySem PySem.Spec PyProof.Rows SM
noncomputable def Wk (u:T3):Prop:=1<=u.1/\0<=u.2.1/\u.2.1<u.1/\1<=u.2.2/\u.2.2<=u.1
noncomputable def awkT (w:T3) (t:Int):Prop:=(t-w.2.1)%w.1<w.2.2
theorem z5V {ws:List T3} {s r b:Int}:∀ {ps:List Pap} {c i:Nat} {p:Pap},z0h ws s r b c ps=true->ps[i]?=some p->z0Y ws (s*b) (r+s*((c+i:Nat):Int)) p=true
 | [],c,i,p,_,e=>by simp at e
 | q::ps,c,0,p,h,e=>by
  cases e
  unfold z0h at h
  simp only [Bool.and_eq_true] at h
  exact h.1
 | q::ps,c,i+1,p,h,e=>by
  unfold z0h at h
  simp only [Bool.and_eq_true] at h
  have:=z5V (i:=i) h.2 (by simpa using e)
  have e2:c+1+i=c+(i+1):=by omega
  rw[e2] at this
  exact this
theorem y5l {u:T3} {s r:Int} (hu:Wk u) (h:liesB u s r=true) (k:Int):awkT u (r+s*k):=by
 obtain⟨u0,u1,u2,u3,u4⟩:=hu
 unfold liesB at h
 have L:=(y1e (p:=u.1) (f:=u.2.1) (l:=u.2.2) (s:=s) (r:=r) u0 u3 u4).mp (of_decide_eq_true h)
 have m0:=Int.emod_nonneg k (show u.1≠0 by omega)
 have m1:=Int.emod_lt_of_pos k (show 0<u.1 by omega)
 have:=L (k%u.1).toNat (by omega)
 have e0:(((k%u.1).toNat:Nat):Int)=k%u.1:=by omega
 rw[e0] at this
 unfold awkT
 have e:=Int.mul_ediv_add_emod k u.1
 have e2:r+s*k-u.2.1=(r+s*(k%u.1)-u.2.1)+u.1*(s*(k/u.1)):=by
  have e3:s*k=s*(k%u.1)+u.1*(s*(k/u.1)):=by
   have:k=k%u.1+u.1*(k/u.1):=by omega
   calc s*k=s*(k%u.1+u.1*(k/u.1)):=by rw[←this]
    _=s*(k%u.1)+u.1*(s*(k/u.1)):=by rw[Int.mul_add,←Int.mul_assoc,Int.mul_comm s u.1,Int.mul_assoc]
  omega
 rw[e2,Int.add_mul_emod_self_left]
 exact this
section
variable {K:PySem.W.Frag} {N:Addr->Prop} {H H':Hp} {X Y:Addr} {xs ys:List V}
end
end L2
namespace L2
open PySem PySem.Spec PyProof.Rows SM
section
variable {K:PySem.W.Frag} {N:Addr->Prop} {H:Hp}
end
mutual
noncomputable def Pap.pd:Pap->PyData
 | .inn k=>.tuple [.str "in",.int k]
 | .par b ps=>.tuple [.str "parted",.int b,.list (Pap.pds ps)]
noncomputable def Pap.pds:List Pap->List PyData
 | []=>[]
 | p::ps=>p.pd::Pap.pds ps
end
mutual
theorem PapIn.dd {K:PySem.W.Frag} {N:Addr->Prop} {H:Hp}:∀ {v:V} {p:Pap},PapIn K N H v p->DD K H v p.pd
 | _,_,.inn h=>by
  simp only [Pap.pd]
  exact .tup (SqT.of h) (.cons (.str _) (.cons (.int _) .nil))
 | _,_,.par h hl _ _ hs=>by
  simp only [Pap.pd]
  exact .tup (SqT.of h) (.cons (.str _) (.cons (.int _) (.cons (.lst (SqL.of hl) (PapsIn.dds hs)) .nil)))
theorem PapsIn.dds {K:PySem.W.Frag} {N:Addr->Prop} {H:Hp}:∀ {vs:List V} {ps:List Pap},PapsIn K N H vs ps->DDs K H vs (Pap.pds ps)
 | _,_,.nil=>by simp only [Pap.pds];exact .nil
 | _,_,.cons h hs=>by simp only [Pap.pds];exact .cons (PapIn.dd h) (PapsIn.dds hs)
end
end L2
namespace L2
open PySem PySem.Spec PyProof.Rows
theorem ObjOk.there {P:Program} {w:World} {H:Hp} {h:Heap} {a:Addr}:∀ {o:HO},ObjOk P w H h a o->∃u,h.get? a=some u:=fun {o} x=>by
 induction o with
 | lst xs=>obtain⟨_,_,_,_,e⟩:=x;exact⟨_,e⟩
 | tup xs=>obtain⟨_,_,_,p⟩:=x;obtain⟨u,hu,_⟩:=p;exact⟨u,hu⟩
 | dK kvs=>obtain⟨_,_,_,_,o,_,_,e,_⟩:=x;exact⟨_,e⟩
 | dT kvs=>obtain⟨_,_,_,_,o,_,_,e,_⟩:=x;exact⟨_,e⟩
 | set S n=>obtain⟨o,_,_,_,e,_⟩:=x;exact⟨_,e⟩
 | ins C dx fs=>obtain⟨_,_,_,e,_⟩:=x;exact⟨_,e⟩
 | own y=>obtain⟨_,e⟩:=x;exact⟨_,e⟩
 | xd fs=>obtain⟨_,⟨_,_,_,e,_⟩,_⟩:=x;exact⟨_,e⟩
 | rng lo hi=>obtain⟨_,_,_,e⟩:=x;exact⟨_,e⟩
 | frz o u _=>exact⟨_,x.1⟩
 | tbl ps=>exact⟨_,x⟩
 | met f y=>exact⟨_,x⟩
 | ext φ=>exact x.2.1
structure Fly (h₀:Heap) (H:Hp) (h:Heap) (e:Addr) (cls:Value):Prop where
 new:h₀.get? e=none
 free:H e=none
 obj:∃oe vs T oT ts a0,h.get? e=some oe/\(oe.cls=cls/\vs[0]?=some a0)/\oe.data=.fields vs/\vs[1]?=some (.ref T)/\T≠e/\h.get? T=some oT/\oT.data=.fields ts/\ts[3]?=some .none/\
  h₀.get? T=none/\H T=none
noncomputable def CXx (P:Program) (w:World):CXT:=fun outer H s E e s'=>
 ∃a cls H',e=.ref a/\s'.os=s.os/\AllBare s'.gens/\Un (frs outer) [] H H' s.heap s'.heap/\HOk P w H' s'.heap/\Fly s.heap H' s'.heap a cls/\E cls (some a) H'
theorem HOk.but {P:Program} {w:World} {H:Hp} {h h':Heap} (hok:HOk P w H h) (as:List Addr) (hn:∀a∈as,H a=none) (k:∀b o,b∉as->h.get? b=some o->h'.get? b=some o):HOk P w H h':=fun b u e=>by
 refine (hok b u e).stay (fun c v hc q=>k c v (fun z=>?_) q) (fun _ q=>q) fun _ _ q=>q
 rcases hc with rfl|hc
 ·rw[hn _ z] at e;cases e
 ·rw[hn _ z] at hc;cases hc
section
variable {P:Program} {w:World} {K:PySem.W.Frag} {mg:Str->Option Value} {base:Heap} {N:List Str} {qual:Str} {scope:Scope} {f:Addr} {cd:Value} {A:Around} {outer:List Env} {s:Shared} {H H1:Hp} {E:XK}
 {pins:List (Addr×Obj)} {σ:St} {s1:Shared} {e:Addr} {cls:Value}
theorem y1f {B:Heap} {a0:Value} {h h':Heap} {as:List Addr} {stk:List Env} (hB:B=PySem.W.hideAll h (frs stk++as)) (has:∀a∈as,s.heap.get? a=none/\H1 a=none) (hea:e∈as)
  (hfs:∀b∈frs stk,H1 b=none) (hsub:∀b∈frs outer,b∈frs stk) (hnew:∀b∈frs stk,b∉frs outer->s.heap.get? b=none)
  (u:Un (frs outer) [] H H1 s.heap h) (hok:HOk P w H1 h) (L:Heap.LeftW B stk e cls a0 h h') (hF:h.FunFrames base stk):Un (frs outer) [] H H1 s.heap h'/\HOk P w H1 h'/\Fly s.heap H1 h' e cls:=by
 subst hB
 obtain⟨k1,k2,⟨oe,vs,T,oT,ts,he,hc,hd,h1,hnT,hTe,hT,hdT,h3⟩,k4⟩:=L
 have keep:∀b o,b∉frs stk++as->h.get? b=some o->h'.get? b=some o:=fun b o hb q=>k1 b o (PySem.W.hideAll_get _ q hb)
 have hall:∀a∈frs stk++as,H1 a=none:=fun a ha=>(List.mem_append.mp ha).elim (hfs a) fun z=>(has a z).2
 have newAs:∀ {b:Addr} {o:Obj},s.heap.get? b=some o->b∉as:=fun {b o} q z=>by rw[(has b z).1] at q;cases q
 have hTf:T∉frs stk:=fun z=>by
  obtain⟨_,o,ho,hx⟩:=k2.mem z
  rw[hT] at ho;cases ho;exact hx _ hdT
 have out:∀o,h.get? T=some o->T∈as:=fun o q=>by
  by_cases z:T∈frs stk++as
  ·exact (List.mem_append.mp z).elim (fun y=>absurd y hTf) id
  ·have:=PySem.W.hideAll_get (h:=h) _ q z
   rw[hnT] at this;cases this
 have slot:∀b o,h.get? b=some o->b∈frs stk->∃sl,h'.get? b=some { o with slots:=sl }:=fun b o q hb=>by
  obtain⟨_,o',ho',hx⟩:=hF.mem hb
  rw[q] at ho';cases ho'
  exact k4 b o q hx
 refine⟨⟨fun b o q n hb hx=>?_,fun b o q n hb hx=>?_,u.free,fun b o q hx=>?_,u.tups,u.frzs,u.tbls⟩,hok.but _ hall keep,⟨(has e hea).1,(has e hea).2,oe,vs,T,oT,ts,a0,he,hc,hd,h1,hTe,hT,hdT,h3,?_,?_⟩⟩
 ·refine keep b o (fun z=>(List.mem_append.mp z).elim (fun y=>?_) (newAs q)) (u.keep b o q n hb hx)
  by_cases hb':b∈frs outer
  ·exact hb hb'
  ·rw[hnew b y hb'] at q;cases q
 ·obtain⟨sl,e1⟩:=u.slot b o q n hb hx
  obtain⟨sl',e2⟩:=slot b _ e1 (hsub b hb)
  exact⟨sl',e2⟩
 ·obtain⟨o',e1⟩:=u.there b o q hx
  by_cases z:b∈frs stk
  ·obtain⟨sl,e2⟩:=slot b _ e1 z
   exact⟨_,e2⟩
  ·exact⟨o',keep b o' (fun y=>(List.mem_append.mp y).elim z (newAs q)) e1⟩
 ·cases q:s.heap.get? T with
  | none=>rfl
  | some o=>
   obtain⟨o',e1⟩:=u.there T o q (by simp)
   exact absurd (out o' e1) (newAs q)
 ·cases q:H1 T with
  | none=>rfl
  | some o=>
   obtain⟨o',e1⟩:=ObjOk.there (hok T o q)
   rw[(has T (out o' e1)).2] at q;cases q
theorem z9e {h':Heap} {vs:List Value} (I:Inv (cxOf (CXx P w) P w K mg base N qual scope f cd A outer s H E) pins σ H1 s1) (hx:Heap.MadeExcOf s1.heap h' e cls vs) (q:E cls (some e) H1) :
  (cxOf (CXx P w) P w K mg base N qual scope f cd A outer s H E).xe (.ref e) { s1 with heap:=h' }:=by
 have hok:HOk P w H1 h':=I.hok.kept hx.keeps
 have he1:H1 e=none:=by
  cases z:H1 e with
  | none=>rfl
  | some o=>
   obtain⟨o',e1⟩:=ObjOk.there (I.hok e o z)
   rw[hx.new] at e1;cases e1
 have hes:s.heap.get? e=none:=by
  cases z:s.heap.get? e with
  | none=>rfl
  | some o=>
   obtain⟨o',e1⟩:=I.base.there e o z (List.not_mem_nil)
   rw[hx.new] at e1;cases e1
 have hu:Un (frs outer) [] H H1 s.heap h':=Un.trans I.base (Un.kept hx.keeps)
 have hF:h'.FunFrames base (envOfC qual scope s.heap.objs.size f cd::outer):=Heap.FunFrames.of_keeps (fun b o z _=>⟨o,hx.keeps b o z,rfl⟩) I.stack
 have hnw:∀b∈frs (envOfC qual scope s.heap.objs.size f cd::outer),b∉frs outer->s.heap.get? b=none:=fun b hb hn=>by
  rcases List.mem_cons.mp hb with rfl|hb
  ·exact Heap.get?_none_of_le (Nat.le_refl _)
  ·exact absurd hb hn
 obtain⟨t,he,_,_⟩:=hx.there
 refine wpAny_leaving_firstW (base:=PySem.W.hideAll h' (frs (envOfC qual scope s.heap.objs.size f cd::outer)++[e])) (outer:=outer) (L:=s.heap.objs.size) (a0:=.ref t) I.ok.frames
  (PySem.W.funFrames_hide hF fun env z a ha=>List.mem_append_left _ (List.mem_filterMap.mpr ⟨env,z,ha⟩)) rfl he (fun b o z=>PySem.W.of_hideAll _ z) (PySem.W.hideAll_none _ (by simp)) rfl rfl rfl fun h2 L=>?_
 obtain⟨x1,x2,x3⟩:=y1f (P:=P) (w:=w) (base:=base) (outer:=outer) (s:=s) (H:=H) (H1:=H1) (as:=[e]) rfl (fun a ha=>by rw[List.mem_singleton.mp ha];exact⟨hes,he1⟩) (by simp) I.stkFree (fun b hb=>List.mem_cons_of_mem _ hb) hnw hu hok L hF
 exact⟨e,cls,H1,rfl,I.os,I.bare,x1,x2,x3,q⟩
theorem y2h (I:Inv (cxOf (CXx P w) P w K mg base N qual scope f cd A outer s H E) pins σ H1 s1) (fl:Fly s.heap H1 s1.heap e cls) (q:E cls (some e) H1) :
  (cxOf (CXx P w) P w K mg base N qual scope f cd A outer s H E).xe (.ref e) s1:=by
 obtain⟨oe,vs,T,oT,ts,a0,he,hc,hd,h1,hTe,hT,hdT,h3,hsT,hHT⟩:=fl.obj
 have hF:s1.heap.FunFrames base (envOfC qual scope s.heap.objs.size f cd::outer):=I.stack
 have hnw:∀b∈frs (envOfC qual scope s.heap.objs.size f cd::outer),b∉frs outer->s.heap.get? b=none:=fun b hb hn=>by
  rcases List.mem_cons.mp hb with rfl|hb
  ·exact Heap.get?_none_of_le (Nat.le_refl _)
  ·exact absurd hb hn
 have has:∀a∈[e,T],s.heap.get? a=none/\H1 a=none:=fun a ha=>by
  rcases List.mem_cons.mp ha with rfl|ha
  ·exact⟨fl.new,fl.free⟩
  ·rw[List.mem_singleton.mp ha];exact⟨hsT,hHT⟩
 refine wpAny_leaving_nextW (base:=PySem.W.hideAll s1.heap (frs (envOfC qual scope s.heap.objs.size f cd::outer)++[e,T])) (outer:=outer) (L:=s.heap.objs.size) (cls:=cls) (a0:=a0) I.ok.frames
  (PySem.W.funFrames_hide hF fun env z a ha=>List.mem_append_left _ (List.mem_filterMap.mpr ⟨env,z,ha⟩)) rfl ⟨oe,vs,T,oT,ts,he,hc,hd,h1,PySem.W.hideAll_none _ (by simp),hTe,hT,hdT,h3⟩
  (fun b o z=>PySem.W.of_hideAll _ z) (PySem.W.hideAll_none _ (by simp)) fun h2 L=>?_
 obtain⟨x1,x2,x3⟩:=y1f (P:=P) (w:=w) (base:=base) (outer:=outer) (s:=s) (H:=H) (H1:=H1) (as:=[e,T]) rfl has (by simp) I.stkFree (fun b hb=>List.mem_cons_of_mem _ hb) hnw I.base I.hok L hF
 exact⟨e,cls,H1,rfl,I.os,I.bare,x1,x2,x3,q⟩
end
theorem Inv.afterX {X:Cx} {pins:List (Addr×Obj)} {σ:St} {H:Hp} {s s':Shared} {E:XK} {e:Value} (I:Inv X pins σ H s) (h:CXx X.prog X.w X.stack H s E e s') :
  ∃a cls H',e=.ref a/\Inv X pins σ H' s'/\Fly s.heap H' s'.heap a cls/\E cls (some a) H':=by
 obtain⟨a,cls,H',rfl,os,bare,un,hok,fl,q⟩:=h
 exact⟨a,cls,H',rfl,I.call' (ch:=[]) os un hok bare (fun b z=>absurd z (by simp)),fl,q⟩
theorem Fly.old {h₀ h1 h:Heap} {H:Hp} {e:Addr} {cls:Value} (x:Fly h1 H h e cls) (k:∀b o,h₀.get? b=some o->∃o',h1.get? b=some o'):Fly h₀ H h e cls:=by
 have none:∀b,h1.get? b=none->h₀.get? b=none:=fun b z=>by
  cases q:h₀.get? b with
  | none=>rfl
  | some o=>obtain⟨o',e1⟩:=k b o q;rw[z] at e1;cases e1
 obtain⟨oe,vs,T,oT,ts,a0,he,hc,hd,h1,hTe,hT,hdT,h3,hsT,hHT⟩:=x.obj
 exact⟨none _ x.new,x.free,oe,vs,T,oT,ts,a0,he,hc,hd,h1,hTe,hT,hdT,h3,none _ hsT,hHT⟩
theorem passX {P:Program} {w:World} {K:PySem.W.Frag} {mg:Str->Option Value} {base:Heap} {N:List Str} {qual:Str} {scope:Scope} {f:Addr} {cd:Value} {A:Around} {outer:List Env} {s:Shared} {H:Hp} {E:XK} :
  z3E (CXx P w) (cxOf (CXx P w) P w K mg base N qual scope f cd A outer s H E) E:=fun pins σ H1 s1 e s' I h=>by
 obtain⟨a,cls,H',rfl,I',fl,q⟩:=Inv.afterX I h
 exact y2h I' (fl.old fun b o z=>I.base.there b o z List.not_mem_nil) q
end L2
namespace L2
open PySem PySem.Spec PyProof.Rows
abbrev VE:List Value:=[.type "ValueError",.type "Exception",.type "BaseException",.type "object"]
structure OX (K:PySem.W.Frag) (mg:Str->Option Value) (x:Str) (C:Addr) (bm:List Value):Prop where
 bound:mg x=some (.ref C)
 obj:∃N nm q bs hdct sn sub ab col dd k0 k1 k2 k3 k5,K.lookup C=some (excClassObj nm q C N bs bm hdct sn sub ab col dd k0 k1 k2 k3 k5 "ValueError.__new__")/\PySem.W.nsOkIn K N=true/\PySem.W.nsIn K N "__init__" = some none
 tail:PySem.W.tailIn K VE bm=true
theorem ox_mk {K:PySem.W.Frag} {h:Heap} {mg:Str->Option Value} {x:Str} {C N:Addr} {nm q:Str} {bs bm:List Value} {hdct:Bool} {sn:List Str} {sub:List Value} {ab:Bool} {col:Option Bool} {dd:Option Addr} {k0 k1 k2 k3 k5:Option Value}
  (X:K.In h) (G:h.Ns mainGlobals mg) (a:PySem.W.nsIn K mainGlobals x=some (some (.ref C))) (l:K.lookup C=some (excClassObj nm q C N bs bm hdct sn sub ab col dd k0 k1 k2 k3 k5 "ValueError.__new__"))
  (e:PySem.W.excIn K C VE "ValueError.__new__" = true):OX K mg x C bm:=by
 unfold PySem.W.excIn at e
 rw[l] at e
 simp only [Bool.and_eq_true,beq_iff_eq,Bool.not_eq_true'] at e
 obtain⟨⟨⟨⟨⟨_,_⟩,_⟩,ht⟩,hok⟩,hni⟩:=e
 exact⟨PySem.W.mg_of X G a,⟨N,nm,q,bs,hdct,sn,sub,ab,col,dd,k0,k1,k2,k3,k5,l,hok,hni⟩,ht⟩
noncomputable def y6g (X:Cx) (E:XK):Prop:=∀(pins:List (Addr×Obj)) (σ:St) (H:Hp) (s:Shared) (e:Addr) (cls:Value) (vs:List Value) (h':Heap),Inv X pins σ H s->Heap.MadeExcOf s.heap h' e cls vs->E cls (some e) H->X.xe (.ref e) { s with heap:=h' }
theorem z5A {P:Program} {w:World} {K:PySem.W.Frag} {mg:Str->Option Value} {base:Heap} {N:List Str} {qual:Str} {scope:Scope} {f:Addr} {cd:Value} {A:Around} {outer:List Env} {s:Shared} {H:Hp} {E:XK} :
  y6g (cxOf (CXx P w) P w K mg base N qual scope f cd A outer s H E) E:=fun _ _ _ _ _ _ _ _ I hx q=>z9e I hx q
noncomputable def y7r (C:Addr) (E:XK) (t:TA):TS:=fun _ σ H=>t σ H fun vs H1=>vs.length<=1000/\∀a,H1 a=none->E (.ref C) (some a) H1
theorem z2g {X:Cx} {x:Str} {C:Addr} {bm:List Value} {np cpos pos:Pos} {e₀:Expr} {rest:List Expr} {t:TA} {E:XK} (O:OX X.K X.mg x C bm) (hc:X.calm=true) (T:y6g X E) (ha:PA X (e₀::rest) t) (hg:Gl X x:=by rfl)
  (hdb:(x == ("__debug__" : Str))=false:=by decide) (he:starEach (e₀::rest) X.env=(false,eval e₀ X.env)::starEach rest X.env:=by rfl) (hpl:(backTo cpos (starEach rest X.env)).any (·.1)=false:=by rfl) :
  PS X (.Raise (some (.Call (.Name x np) (e₀::rest) [] cpos)) none pos) (y7r C E t):=by
 intro pins s σ H D I h
 obtain⟨N,nm,q,bs,hdct,sn,sub,ab,col,dd,k0,k1,k2,k3,k5,lk,hok,hni⟩:=O.obj
 have KB:X.K.In X.base:=I.mod.kin
 refine wpAny_Raise_call_subT (C:=C) (nm:=nm) (q:=q) (N:=N) (bs:=bs) (bm:=bm) (hdct:=hdct) (sn:=sn) (sub:=sub) (ab:=ab) (col:=col) (dd:=dd) (k0:=k0) (k1:=k1) (k2:=k2) (k3:=k3) (k5:=k5)
  PySem.F.excBase_ValueError (mN:=X.base.nsMap N) ((PySem.W.tail_of_in I.kIn O.tail).hasType rfl) (I.ok.hd hc) (by rw[he];show (false || (backTo cpos (starEach rest X.env)).any (·.1))=false;rw[hpl];rfl) (PySem.W.nsMap_none_of_in KB hok hni) (z3l I hg O.bound ⟨rfl,?_⟩ hdb)
 have h1:=ha cpos pins s σ H _ I h
 rw[he] at h1 ⊢
 refine Calls.evalArgs_plain (wpAny_mono h1 (fun us s₂ ⟨vs,H1,I1,r,hl,q⟩=>⟨rfl,?_,I1.kIn _ _ lk,?_,PySem.W.tail_of_in I1.kIn O.tail,fun h' e hm=>?_⟩) fun _ _ y=>y)
 ·rw[←r.length];exact Nat.le_of_lt (y3E hl)
 ·exact (Heap.Ns.of_isNs (PySem.W.isNs_of_in KB hok)).keeps I1.bk
 ·refine T pins σ H1 s₂ e _ _ h' I1 hm (q e ?_)
  cases z:H1 e with
  | none=>rfl
  | some o=>
   obtain⟨o',e1⟩:=ObjOk.there (I1.hok e o z)
   rw[hm.new] at e1;cases e1
theorem y8J {P:Program} {w:World} {CX:CXT} {K:PySem.W.Frag} {mg:Str->Option Value} {base:Heap} {N:List Str} {qual:Str} {scope:Scope} {f:Addr} {cd:Value} {A:Around} {outer:List Env} {s:Shared} {H:Hp} {E:XK} :
  PassesOwn (model P w) (cxOf CX P w K mg base N qual scope f cd A outer s H E).A (cxOf CX P w K mg base N qual scope f cd A outer s H E).env (cxOf CX P w K mg base N qual scope f cd A outer s H E).xe:=
 fun _ _ h=>wpAny_leaving_again (SameStack.refl _) h
noncomputable def HasX (P:Program) (w:World) (K:PySem.W.Frag) (mg:Str->Option Value) (base:Heap) (k:Nat) (x:Str) (ps:List Str) (sp:Sp):Prop:=
 ∃f fd,FnOk P w K mg base (CXx P w) k f fd ps sp/\(∀us:List Value,us.length=ps.length->bindArgs fd ⟨us,[]⟩=pure (ps.zip us))/\PySem.W.keepIn K (.ref f)=true/\mg x=some (.ref f)
theorem HasX.mono {P:Program} {w:World} {K:PySem.W.Frag} {mg:Str->Option Value} {base:Heap} {j k:Nat} {x:Str} {ps:List Str} {sp:Sp} (h:HasX P w K mg base j x ps sp) (hk:j<=k):HasX P w K mg base k x ps sp:=
 let ⟨f,fd,F,b⟩:=h
 ⟨f,fd,F.mono hk,b⟩
theorem TF.hasX {P:Program} {w:World} {K:PySem.W.Frag} {mg:Str->Option Value} {base:Heap} {x:Str} {st:Stmt} {N ps:List Str} {k:Nat} {sp:Sp} (T:TF K mg x st) (S:FnScope N ps (z0G st))
  (hb:∀(kV doc pm:Value) (an:Option Addr) (cdv ct:Value) (us:List Value),us.length=ps.length->bindArgs (PySem.W.fnOf x x (z2N st) (z1G st) (z0G st) .none kV doc pm an cdv ct) ⟨us,[]⟩=pure (ps.zip us))
  (len:∀vs H Q E,sp vs H Q E->vs.length=ps.length)
  (hbody:∀(f:Addr) (cdv:Value) (A:Around) (outer:List Env) (s:Shared) (H:Hp) (vs:List V) (Q:VK) (E:XK),Room k (A.deeper (envOfC x (z0G st) s.heap.objs.size f cdv))->sp vs H Q E->
   ∃t,PSs (cxOf (CXx P w) P w K mg base N x (z0G st) f cdv A outer s H E) (z1G st) t/\t { nx:=fun _ H'=>Q .non H',rt:=Q } (start N vs) H):HasX P w K mg base (k+1) x ps sp:=by
 obtain⟨f,fd,F,m⟩:=T
 obtain⟨oc,od,kV,doc,pm,an,cdv,ct,osl,rfl,lk,hcd⟩:=F.ex
 exact⟨f,_,fn_of lk hcd S len fun A outer s H vs Q E hr hsp=>hbody f cdv A outer s H vs Q E hr hsp,hb kV doc pm an cdv ct,F.kp,m⟩
theorem y7H {X:Cx} {k:Nat} {x:Str} {ps:List Str} {sp:Sp} {p pos:Pos} {e:Expr} {es:List Expr} {t:TA} {E:XK} (h:HasX X.prog X.w X.K X.mg X.base k x ps sp) (hr:Room k X.A) (hx:z3E (CXx X.prog X.w) X E) (ha:PA X (e::es) t) (hg:Gl X x:=by rfl)
  (hdb:(x == ("__debug__" : Str))=false:=by decide) (he:starEach (e::es) X.env=(false,eval e X.env)::starEach es X.env:=by rfl) (hpl:(backTo pos (starEach es X.env)).any (·.1)=false:=by rfl) :
  PE X (.Call (.Name x p) (e::es) [] pos) (tCall sp [] E t):=by
 obtain⟨f,fd,F,hb,hk,hm⟩:=h
 exact y3d F hr hg hm hk (.all hb) .nil hx ha hdb he hpl
end L2
namespace L2
open PySem PySem.Spec PyProof.Rows
section
variable {X:Cx} {pins:List (Addr×Obj)} {σ:St} {H:Hp} {s:Shared}
noncomputable def Ap (X:Cx) (pins:List (Addr×Obj)) (b:Addr):Prop:=X.s₀.heap.get? b=none/\b≠X.env.locals/\(∀x c,X.env.cells.lookup x=some c->c≠b)/\b∉X.fs/\∀p∈X.pn++pins,p.1≠b
theorem Inv.ap (I:Inv X pins σ H s) (hx:X.ex=[]) {b:Addr} (hb:s.heap.get? b=none):Ap X pins b:=by
 have no:∀ {c:Addr},(∃o,s.heap.get? c=some o)->c≠b:=fun {c} ⟨o,e⟩ z=>by rw[z,hb] at e;cases e
 refine⟨?_,(no (let ⟨_,⟨o,_,_,e,_⟩,_⟩:=I.loc;⟨o,e⟩)).symm,fun x c e=>no (let ⟨_,o,q,_⟩:=I.cell x c e;⟨o,q⟩),fun z=>no (let ⟨_,o,e,_⟩:=I.funs.mem z;⟨o,e⟩) rfl,fun p hp=>no ⟨_,(I.pin p hp).1⟩⟩
 cases q:X.s₀.heap.get? b with
 | none=>rfl
 | some o=>exact absurd rfl (no (I.base.there b o q (by rw[hx];simp)))
theorem Inv.exs {as:List Addr} (I:Inv X pins σ H s) (has:∀a∈as,Ap X pins a):Inv { X with ex:=X.ex++as } pins σ H s:=by
 have ok:=I.ok
 refine⟨⟨ok.mod,ok.kind,ok.glob,ok.blt,ok.above,ok.inj,ok.has,ok.cab,ok.hd,ok.frames,ok.stk,fun b hb=>?_,ok.bs,ok.bsz,fun b o e hb=>?_,fun b hb=>?_,ok.funs,ok.frf⟩,I.os,I.bare,
  I.base.mono (fun _ h=>h) (fun b hb=>List.mem_append_left _ hb),I.loc,I.cell,I.free,I.freeC,I.pin,I.hok,I.len⟩
 ·exact (List.mem_append.mp hb).elim (ok.exf b) fun z=>⟨(has b z).2.1,(has b z).2.2.1⟩
 ·refine (List.mem_append.mp hb).elim (ok.noex b o e) fun z=>?_
  have:=(ok.bs b o e).1
  rw[(has b z).1] at this;cases this
 ·exact (List.mem_append.mp hb).elim (ok.exfs b) fun z=>(has b z).2.2.2.1
theorem Inv.unexs {as:List Addr} (I:Inv { X with ex:=X.ex++as } pins σ H s) (ok:X.Ok) (has:∀a∈as,X.s₀.heap.get? a=none):Inv X pins σ H s:=by
 have ne:∀b o,X.s₀.heap.get? b=some o->b∉X.ex->b∉X.ex++as:=fun b o e hx hb=>(List.mem_append.mp hb).elim hx fun z=>by rw[has b z] at e;cases e
 exact⟨ok,I.os,I.bare,⟨fun b o e n hb hx=>I.base.keep b o e n hb (ne b o e hx),fun b o e n hb hx=>I.base.slot b o e n hb (ne b o e hx),fun b o e n hx=>I.base.free b o e n (ne b o e hx),fun b o e hx=>I.base.there b o e (ne b o e hx),
  I.base.tups,I.base.frzs,I.base.tbls⟩,I.loc,I.cell,I.free,I.freeC,I.pin,I.hok,I.len⟩
theorem Inv.fly {as:List Addr} {h':Heap} (I:Inv X pins σ H s) (has:∀a∈as,Ap X pins a/\H a=none)
  (keep:∀b o,b∉frs X.stack++as->s.heap.get? b=some o->h'.get? b=some o) (slot:∀b o,b∈frs X.stack->s.heap.get? b=some o->∃sl,h'.get? b=some { o with slots:=sl }):Inv X pins σ H { s with heap:=h' }:=by
 have u:Un (frs X.stack) as H H s.heap h':=⟨fun b o q _ hb hx=>keep b o (fun z=>(List.mem_append.mp z).elim hb hx) q,fun b o q _ hb _=>slot b o hb q,fun _ _ _ n _=>n,fun b o q hx=>by
   by_cases hb:b∈frs X.stack
   ·obtain⟨sl,e⟩:=slot b o hb q;exact⟨_,e⟩
   ·exact⟨o,keep b o (fun z=>(List.mem_append.mp z).elim hb hx) q⟩,fun _ _ e=>e,fun _ _ _ e=>e,fun _ ps e=>⟨#[],by rw[e];simp⟩⟩
 have hok:HOk X.prog X.w H h':=I.hok.but _ (fun a z=>(List.mem_append.mp z).elim (I.stkFree a) fun y=>(has a y).2) keep
 have J:=(I.exs fun a z=>(has a z).1).call (g':=s.gens) (t':=s.toks) (d':=s.drawn) (ch:=as) u hok I.bare fun b hb=>⟨.inl (List.mem_append_right _ hb),(has b hb).1.2.1,(has b hb).1.2.2.1,(has b hb).1.2.2.2.2⟩
 exact J.unexs I.ok fun a z=>(has a z).1.1
noncomputable def FlyAt (X:Cx) (pins:List (Addr×Obj)) (H:Hp) (h:Heap) (a:Addr) (cls:Value):Prop:=
 ∃oe vs T oT ts a0,h.get? a=some oe/\(oe.cls=cls/\vs[0]?=some a0)/\oe.data=.fields vs/\vs[1]?=some (.ref T)/\T≠a/\h.get? T=some oT/\oT.data=.fields ts/\ts[3]?=some .none/\∀b∈[a,T],Ap X pins b/\H b=none
noncomputable def XE (X:Cx) (pins:List (Addr×Obj)) (σ:St) (E:XK) (e:Value) (s':Shared):Prop:=∃a cls H',e=.ref a/\Inv X pins σ H' s'/\FlyAt X pins H' s'.heap a cls/\E cls (some a) H'
theorem Inv.afterXE {s':Shared} {E:XK} {e:Value} (hx:X.ex=[]) (I:Inv X pins σ H s) (h:CXx X.prog X.w X.stack H s E e s'):XE X pins σ E e s':=by
 obtain⟨a,cls,H',rfl,I',fl,q⟩:=Inv.afterX I h
 obtain⟨oe,vs,T,oT,ts,a0,he,hc,hd,hv1,hTe,hT,hdT,h3,hsT,hHT⟩:=fl.obj
 refine⟨a,cls,H',rfl,I',⟨oe,vs,T,oT,ts,a0,he,hc,hd,hv1,hTe,hT,hdT,h3,fun b hb=>?_⟩,q⟩
 rcases List.mem_cons.mp hb with rfl|hb
 ·exact⟨I.ap hx fl.new,fl.free⟩
 ·rw[List.mem_singleton.mp hb];exact⟨I.ap hx hsT,hHT⟩
theorem FlyAt.held {a T:Addr} {cls a0:Value} {h5:Heap} (hx:X.ex=[]) (I:Inv X pins σ H s) (has:∀b∈[a,T],Ap X pins b/\H b=none)
  (hfl:Heap.FlyingW (PySem.W.hideAll s.heap (frs X.stack++[a,T])) X.stack a cls a0 h5) (sm:s.heap.UpToSlots h5):Inv X pins σ H { s with heap:=h5 }/\FlyAt X pins H h5 a cls:=by
 have keep:∀b o,b∉frs X.stack++[a,T]->s.heap.get? b=some o->h5.get? b=some o:=fun b o hb q=>hfl.1 b o (PySem.W.hideAll_get _ q hb)
 have slot:∀b o,b∈frs X.stack->s.heap.get? b=some o->∃sl,h5.get? b=some { o with slots:=sl }:=fun b o hb q=>by
  obtain⟨_,o',ho',hn⟩:=I.stack.mem hb
  rw[q] at ho';cases ho'
  exact sm b o q hn
 have I':=I.fly (as:=[a,T]) has keep slot
 obtain⟨_,_,k2,oe,vs,T',oT,ts,he,hc,hd,hv1,hnT,hTe,hT,hdT,h3⟩:=hfl
 have hTf:T'∉frs X.stack:=fun z=>by
  obtain⟨_,o,ho,hn⟩:=k2.mem z
  rw[hT] at ho;cases ho;exact hn _ hdT
 have hT':Ap X pins T'/\H T'=none:=by
  cases q:s.heap.get? T' with
  | none=>
   refine⟨I.ap hx q,?_⟩
   cases z:H T' with
   | none=>rfl
   | some o=>
    obtain⟨o',e⟩:=ObjOk.there (I.hok T' o z)
    rw[q] at e;cases e
  | some o=>
   refine has T' ?_
   by_cases z:T'∈frs X.stack++[a,T]
   ·exact (List.mem_append.mp z).elim (fun y=>absurd y hTf) id
   ·have:=PySem.W.hideAll_get (h:=s.heap) _ q z
    rw[hnT] at this;cases this
 refine⟨I',oe,vs,T',oT,ts,a0,he,hc,hd,hv1,hTe,hT,hdT,h3,fun b hb=>?_⟩
 rcases List.mem_cons.mp hb with rfl|hb
 ·exact has _ (by simp)
 ·rw[List.mem_singleton.mp hb];exact hT'
theorem seen {M:Model} {a:Addr} {cls:Value} {Q:Shared->Prop} {A':Around} {E1 E2:Value->Shared->Prop} (hx:X.ex=[]) (hst:X.stack=X.env::X.outer) (hf:X.env.frame=some X.env.locals) (I:Inv X pins σ H s) (fl:FlyAt X pins H s.heap a cls)
  (h:∀h5,Inv X pins σ H { s with heap:=h5 }->FlyAt X pins H h5 a cls->Q { s with heap:=h5 }) :
  wpAny M X.A (noteFrame (.ref a) X.env) (fun _ s2=>wpAny M A' (setFlight (.ref a) none) (fun _ s3=>Q s3) E1 s2) E2 s:=by
 obtain⟨oe,vs,T,oT,ts,a0,he,hc,hd,hv1,hTe,hT,hdT,h3,has⟩:=fl
 have hFB:s.heap.FunFrames (PySem.W.hideAll s.heap (frs X.stack++[a,T])) X.stack:=PySem.W.funFrames_hide I.stack fun env z b hb=>List.mem_append_left _ (List.mem_filterMap.mpr ⟨env,z,hb⟩)
 have hfl:Heap.FlyingW (PySem.W.hideAll s.heap (frs X.stack++[a,T])) X.stack a cls a0 s.heap:=
  ⟨fun b o z=>PySem.W.of_hideAll _ z,PySem.W.hideAll_none _ (by simp),hFB,oe,vs,T,oT,ts,he,hc,hd,hv1,PySem.W.hideAll_none _ (by simp),hTe,hT,hdT,h3⟩
 have hfr:=I.ok.frames
 refine wpAny_looks_onW (base:=PySem.W.hideAll s.heap (frs X.stack++[a,T])) (outer:=X.outer) (cls:=cls) (a0:=a0) (by rw[hfr,hst]) hf (by rw[←hst];exact hfl) fun h4 hheld sm4=>?_
 refine wpAny_landsW hheld fun h5 hfl5 sm5=>?_
 rw[←hst] at hfl5
 obtain⟨I5,F5⟩:=FlyAt.held hx I has hfl5 (sm4.trans sm5)
 exact h h5 I5 F5
theorem seen2 {M:Model} {a:Addr} {cls:Value} {Q:Unit->Shared->Prop} {A':Around} {E1:Value->Shared->Prop} (hx:X.ex=[]) (I:Inv X pins σ H s) (fl:FlyAt X pins H s.heap a cls)
  (h:∀h5,Inv X pins σ H { s with heap:=h5 }->FlyAt X pins H h5 a cls->Q () { s with heap:=h5 }):wpAny M A' (setFlight (.ref a) none) Q E1 s:=by
 obtain⟨oe,vs,T,oT,ts,a0,he,hc,hd,hv1,hTe,hT,hdT,h3,has⟩:=fl
 have hFB:s.heap.FunFrames (PySem.W.hideAll s.heap (frs X.stack++[a,T])) X.stack:=PySem.W.funFrames_hide I.stack fun env z b hb=>List.mem_append_left _ (List.mem_filterMap.mpr ⟨env,z,hb⟩)
 have hfl:Heap.FlyingW (PySem.W.hideAll s.heap (frs X.stack++[a,T])) X.stack a cls a0 s.heap:=
  ⟨fun b o z=>PySem.W.of_hideAll _ z,PySem.W.hideAll_none _ (by simp),hFB,oe,vs,T,oT,ts,he,hc,hd,hv1,PySem.W.hideAll_none _ (by simp),hTe,hT,hdT,h3⟩
 refine lands_againW hfl fun h5 hfl5 sm5=>?_
 obtain⟨I5,F5⟩:=FlyAt.held hx I has hfl5 sm5
 exact h h5 I5 F5
noncomputable def excO (a:Addr) (cls:Value):HO:=.ext fun h=>∃o,h.get? a=some o/\o.cls=cls
theorem Inv.track {a:Addr} {cls:Value} (I:Inv X pins σ H s) (fl:FlyAt X pins H s.heap a cls):Inv X pins σ (upd H a (excO a cls)) s:=by
 obtain⟨oe,vs,T,oT,ts,a0,he,⟨hc,_⟩,_,_,_,_,_,_,has⟩:=fl
 obtain⟨ap,hn⟩:=has a (by simp)
 have u:Un (frs X.stack) [a] H (upd H a (excO a cls)) s.heap s.heap:=⟨fun b o q _ _ _=>q,fun b o q _ _ _=>⟨o.slots,q⟩,fun b o _ n hb=>by rw[z0U (fun z=>hb (by simp [z]))];exact n,fun b o q _=>⟨o,q⟩,
  fun b xs e=>by rw[z0U (z0O e hn)];exact e,fun b o x e=>by rw[z0U (z0O e hn)];exact e,fun b ps e=>⟨#[],by rw[z0U (z0O e hn),e];simp⟩⟩
 have hok:HOk X.prog X.w (upd H a (excO a cls)) s.heap:=fun b o e=>by
  by_cases z:b=a
  ·subst z
   rw[z0F] at e
   cases e
   exact⟨⟨oe,he,hc⟩,⟨oe,he⟩,fun h1 h2 ⟨o,e1,c1⟩ k=>⟨o,k o e1,c1⟩⟩
  ·rw[z0U z] at e
   exact (I.hok b o e).stay (fun c v _ q=>q) (fun c q=>by
    rw[z0U (z0O q hn)];exact q) fun c xs q=>by rw[z0U (z0O q hn)];exact q
 have J:=(I.exs (as:=[a]) fun b hb=>by rw[List.mem_singleton.mp hb];exact ap).call (g':=s.gens) (t':=s.toks) (d':=s.drawn) (ch:=[a]) u hok I.bare fun b hb=>by
  rw[List.mem_singleton.mp hb]
  exact⟨.inl (List.mem_append_right _ (by simp)),ap.2.1,ap.2.2.1,ap.2.2.2.2⟩
 exact J.unexs I.ok fun b hb=>by rw[List.mem_singleton.mp hb];exact ap.1
end
end L2
namespace L2
open PySem PySem.Spec PyProof.Rows
section
variable {M:Model} {A:Around} {E:Value->Shared->Prop} {s:Shared}
end
noncomputable abbrev Cx.suite (X:Cx) (a:Addr):Cx:={ X with A:=X.A.mark (some (.ref a)),calm:=false,xe:=fun _ _=>False }
section
variable {X:Cx} {pins:List (Addr×Obj)} {σ:St} {H:Hp} {s:Shared} {a:Addr}
theorem Inv.suite (I:Inv X pins σ H s) (a:Addr):Inv (X.suite a) pins σ H s:=
 have ok:=I.ok
 ⟨⟨ok.mod,ok.kind,ok.glob,ok.blt,ok.above,ok.inj,ok.has,ok.cab,fun z=>(Bool.false_ne_true z).elim,ok.frames,ok.stk,ok.exf,ok.bs,ok.bsz,ok.noex,ok.exfs,ok.funs,ok.frf⟩,I.os,I.bare,I.base,I.loc,I.cell,I.free,I.freeC,I.pin,I.hok,I.len⟩
theorem Inv.unsuite (I:Inv (X.suite a) pins σ H s) (ok:X.Ok):Inv X pins σ H s:=⟨ok,I.os,I.bare,I.base,I.loc,I.cell,I.free,I.freeC,I.pin,I.hok,I.len⟩
theorem SP.unsuite {D:Ends} {f:Flow} (h:SP (X.suite a) pins D f s) (ok:X.Ok):SP X pins D f s:=by
 cases f with
 | next=>obtain⟨σ',H',I,q⟩:=h;exact⟨σ',H',I.unsuite ok,q⟩
 | brk=>obtain⟨σ',H',I,q⟩:=h;exact⟨σ',H',I.unsuite ok,q⟩
 | cont=>obtain⟨σ',H',I,q⟩:=h;exact⟨σ',H',I.unsuite ok,q⟩
 | ret u=>obtain⟨v,σ',H',I,r,q⟩:=h;exact⟨v,σ',H',I.unsuite ok,r,q⟩
end
end L2
namespace L2
open PySem PySem.Spec PyProof.Rows
section
variable {M:Model} {A:Around} {E:Value->Shared->Prop}
variable {nm q nm' q':Str} {C N C' N':Addr} {bs bm bs' bm':List Value} {hdct hdct':Bool} {sn sn':List Str} {sub sub':List Value} {ab ab':Bool} {col col':Option Bool} {dd dd':Option Addr} {k0 k1 k2 k3 k5 l0 l1 l2 l3 l5:Option Value} {newId newId':String}
theorem z6M {h:Heap} {g:Array GenState} {d:Drawn} {t:Nat} {os:OsState} {e:Addr} {oe:Obj} {Q:Bool->Shared->Prop}
  (hC:h.get? C=some (excClassObj nm q C N bs bm hdct sn sub ab col dd k0 k1 k2 k3 k5 newId)) (hC':h.get? C'=some (excClassObj nm' q' C' N' bs' bm' hdct' sn' sub' ab' col' dd' l0 l1 l2 l3 l5 newId'))
  (he:h.get? e=some oe) (hcls:oe.cls=.ref C) (hbase:bm'.contains (.type "BaseException")=true)
  (hq:Q ((Value.ref C::bm).contains (.ref C')) ⟨h,g,d,t,os⟩):wpAny M A (excMatches (.ref e) (.ref C')) Q E ⟨h,g,d,t,os⟩:=by
 have hcB:(Value.ref C'::bm').contains (.type "BaseException")=true:=by rw[List.contains_cons,hbase,Bool.or_true]
 have f:=tc_notTuple
 unfold excMatches
 repeat (first|(with_reducible refine wpAny_loadPart_at he ?_;rw[hcls])|with_reducible refine wpAny_loadPart_at hC' ?_|(with_reducible refine wpAny_isSubtype_exc hC' ?_;rw[hcB])|with_reducible refine wpAny_isSubtype_exc hC ?_|wp_step)
 cases hb:(Value.ref C::bm).contains (.ref C') <;> (rw[hb] at hq;wp_walk;exact hq)
end
noncomputable def PM (X:Cx) (t:Expr) (cls:Value) (tm:TT):Prop:=
 ∀(pins:List (Addr×Obj)) (s:Shared) (σ:St) (H:Hp) (a:Addr) (oa:Obj) (Q:Bool->Hp->Prop),Inv X pins σ H s->(a,oa)∈pins->oa.cls=cls->tm σ H Q->
  wpAny (model X.prog X.w) X.A (eval t X.env) (fun c s1=>wpAny (model X.prog X.w) X.A (excMatches (.ref a) c) (TP X pins σ Q) (fun _ _=>False) s1) (fun _ _=>False) s
noncomputable def tBool (b:Bool):TT:=fun _ H Q=>Q b H
theorem y8E {X:Cx} {x x':Str} {C C':Addr} {bm bm':List Value} {p:Pos} (O:OX X.K X.mg x C bm) (O':OX X.K X.mg x' C' bm') (hg:Gl X x':=by rfl) (hdb:(x' == ("__debug__" : Str))=false:=by decide) :
  PM X (.Name x' p) (.ref C) (tBool ((Value.ref C::bm).contains (.ref C'))):=by
 intro pins s σ H a oa Q I hp hc h
 obtain⟨N,nm,q,bs,hdct,sn,sub,ab,col,dd,k0,k1,k2,k3,k5,lk,_,_⟩:=O.obj
 obtain⟨N',nm',q',bs',hdct',sn',sub',ab',col',dd',l0,l1,l2,l3,l5,lk',_,_⟩:=O'.obj
 refine z3l I hg O'.bound ?_ hdb
 obtain⟨hp',g,d,t,os⟩:=s
 exact z6M (I.kIn _ _ lk) (I.kIn _ _ lk') (I.pin _ (List.mem_append_right _ hp)).1 hc ((PySem.W.tail_of_in I.kIn O'.tail).hasType rfl) ⟨H,I,h⟩
noncomputable def PH (X:Cx) (hs:List ExceptHandler) (t:Addr->Value->TS):Prop:=
 ∀(pins:List (Addr×Obj)) (s:Shared) (σ:St) (H:Hp) (D:Ends) (a:Addr) (cls:Value),Inv X pins σ H s->FlyAt X pins H s.heap a cls->t a cls D σ H->
  wpAny (model X.prog X.w) X.A (handleBy (.ref a) X.env hs) (SP X pins D) (fun _ _=>False) s
theorem Inv.pinX {X:Cx} {pins:List (Addr×Obj)} {σ:St} {H:Hp} {s:Shared} {a:Addr} {cls:Value} (I:Inv X pins σ H s) (fl:FlyAt X pins H s.heap a cls) :
  ∃oa T oT,Inv X ([(a,oa),(T,oT)]++pins) σ H s/\oa.cls=cls/\∀ {H':Hp} {s':Shared},Inv X ([(a,oa),(T,oT)]++pins) σ H' s'->FlyAt X pins H' s'.heap a cls:=by
 obtain⟨oe,vs,T,oT,ts,a0,he,hc,hd,hv1,hTe,hT,hdT,h3,has⟩:=fl
 refine⟨oe,T,oT,I.pins_of fun p hp=>?_,hc.1,fun {H' s'} J=>?_⟩
 ·rcases List.mem_append.mp hp with z|z
  ·rcases List.mem_cons.mp z with rfl|z
   ·exact⟨he,(has a (by simp)).2,(has a (by simp)).1.2.1,(has a (by simp)).1.2.2.2.1,fun v e=>by rw[hd] at e;cases e⟩
   ·rw[List.mem_singleton.mp z]
    exact⟨hT,(has T (by simp)).2,(has T (by simp)).1.2.1,(has T (by simp)).1.2.2.2.1,fun v e=>by rw[hdT] at e;cases e⟩
  ·exact I.pin p (List.mem_append_right _ z)
 ·have pa:=J.pin (a,oe) (List.mem_append_right _ (by simp))
  have pT:=J.pin (T,oT) (List.mem_append_right _ (by simp))
  refine⟨oe,vs,T,oT,ts,a0,pa.1,hc,hd,hv1,hTe,pT.1,hdT,h3,fun b hb=>?_⟩
  rcases List.mem_cons.mp hb with rfl|hb
  ·exact⟨(has _ (by simp)).1,pa.2.1⟩
  ·rw[List.mem_singleton.mp hb];exact⟨(has T (by simp)).1,pT.2.1⟩
theorem Inv.unpin {X:Cx} {pins more:List (Addr×Obj)} {σ:St} {H:Hp} {s:Shared} (I:Inv X (more++pins) σ H s):Inv X pins σ H s:=I.pins_of fun p hp=>I.pin p (List.mem_append_right _ (List.mem_append_right _ hp))
noncomputable def y6n (cls0:Value) (tm:TT) (take rest:Addr->Value->TS):Addr->Value->TS:=fun a cls D σ H=>cls=cls0/\tm σ H fun b H'=>if b=true then take a cls D σ H' else rest a cls D σ H'
noncomputable def y6L (tb:TS):Addr->Value->TS:=fun a cls D σ H=>tb D σ (upd H a (excO a cls))
section
variable {X:Cx} {t:Expr} {b₀:Stmt} {body:List Stmt} {pos:Pos} {rest:List ExceptHandler} {cls0:Value} {tm:TT} {tb:TS} {tr:Addr->Value->TS}
theorem y8F:PH X [] fun _ _ _ _ _=>False:=fun _ _ _ _ _ _ _ _ _ h=>h.elim
theorem y7C (hx:X.ex=[]) (hm:∀a,PM (X.suite a) t cls0 tm) (hb:∀a,PSs (X.suite a) (b₀::body) tb) (hr:PH X rest tr):PH X (.ExceptHandler (some t) none (b₀::body) pos::rest) (y6n cls0 tm (y6L tb) tr):=by
 intro pins s σ H D a cls I fl ⟨hcl,h⟩
 subst hcl
 refine wpAny_handleBy_cons (codeAny_handlers_test ?_) (by intro q;cases q)
 obtain⟨oa,T,oT,J,hc,back⟩:=I.pinX fl
 have h1:=hm a _ s σ H a oa _ (J.suite a) (by simp) hc h
 refine wpAny_mono h1 (fun c s1 h2=>wpAny_mono h2 (fun b s2 ⟨H2,J2,q⟩=>?_) fun _ _ z=>z.elim) fun _ _ z=>z.elim
 have J3:=J2.unsuite I.ok
 cases b with
 | true=>
  refine codeAny_handlers_suite (seen2 hx J3.unpin (back J3) fun h5 I5 F5=>?_)
  exact wpAny_mono (hb a pins _ σ _ D ((I5.track F5).suite a) q) (fun f s3 hf=>hf.unsuite I.ok) fun _ _ z=>z.elim
 | false=>exact hr pins s2 σ H2 D a cls J3.unpin (back J3) q
end
noncomputable def PXe (X:Cx) (e:Expr) (t:XK->TE):Prop:=∀(pins:List (Addr×Obj)) (s:Shared) (σ:St) (H:Hp) (Q:VK) (E:XK),Inv X pins σ H s->t E σ H Q->wpAny (model X.prog X.w) X.A (eval e X.env) (EP X pins σ Q) (XE X pins σ E) s
noncomputable def PXs (X:Cx) (st:List Stmt) (t:XK->TS):Prop:=∀(pins:List (Addr×Obj)) (s:Shared) (σ:St) (H:Hp) (D:Ends) (E:XK),Inv X pins σ H s->t E D σ H->wpAny (model X.prog X.w) X.A (execs st X.env) (SP X pins D) (XE X pins σ E) s
section
variable {X:Cx} {e:Expr} {es:List Expr} {pos p:Pos} {t:TA}
theorem y5L {k:Nat} {x:Str} {ps:List Str} {sp:Sp} (hx:X.ex=[]) (h:HasX X.prog X.w X.K X.mg X.base k x ps sp) (hr:Room k X.A) (ha:PA X.nox (e::es) t) (hg:Gl X x:=by rfl)
  (hdb:(x == ("__debug__" : Str))=false:=by decide) (he:starEach (e::es) X.env=(false,eval e X.env)::starEach es X.env:=by rfl) (hpl:(backTo pos (starEach es X.env)).any (·.1)=false:=by rfl) :
  PXe X (.Call (.Name x p) (e::es) [] pos) fun E=>tCall sp [] E t:=by
 intro pins s σ H Q E I hw
 obtain⟨f,fd,F,hb,hk,hm⟩:=h
 refine wpAny_Call_Name_kw (z3l I hg hm ?_ hdb)
 refine PySem.W.callWith_K (h₀:=X.base) I.ok.mod.kin hk (wpAny_mono (ha pos pins s σ H _ (I.wish _) hw) (fun us s1 ⟨vs,H1,I1,r,q⟩=>⟨I1.kIn,?_⟩) fun _ _ z=>z.elim) he hpl
 have J:=I1.unwish
 have q:sp vs H1 Q E:=by have z:sp (vs++[]) H1 Q E:=q;rwa [List.append_nil] at z
 have hl:us.length=ps.length:=by rw[←r.length];exact F.len _ _ _ _ q
 refine wpAny_call (codeAny_mono (F.run X.A X.stack s1 H1 ⟨us,[]⟩ us vs Q E hr J.env0 (.of_eq (hb us hl)) r q) fun r s' hq=>?_)
 cases r with
 | error e=>exact J.afterXE hx hq
 | ok fl=>
  cases fl with
  | ret u=>exact J.after hq
  | next=>exact False.elim hq
  | brk=>exact False.elim hq
  | cont=>exact False.elim hq
noncomputable def tTry (tb:XK->TS) (th:Addr->Value->TS):TS:=fun D σ H=>tb (fun cls a H'=>∃a',a=some a'/\th a' cls D σ H') D σ H
theorem y7z {body:List Stmt} {h₀:ExceptHandler} {hs:List ExceptHandler} {tb:XK->TS} {th:Addr->Value->TS} (hx:X.ex=[]) (hst:X.stack=X.env::X.outer) (hf:X.env.frame=some X.env.locals) (hb:PXs X body tb) (hh:PH X (h₀::hs) th) :
  PS X (.Try body (h₀::hs) [] [] pos) (tTry tb th):=by
 intro pins s σ H D I h
 refine wpAny_Try_except (wpAny_mono (hb pins s σ H D _ I h) (fun f s1 q=>?_) fun e s1 q=>?_)
 ·cases f with
  | next=>exact wpAny_execs_nil q
  | ret v=>exact q
  | brk=>exact q
  | cont=>exact q
 ·obtain⟨a,cls,H',rfl,I',fl,a',ha,q⟩:=q
  cases ha
  exact seen hx hst hf I' fl fun h5 I5 F5=>wpAny_mono (hh pins _ σ H' D a cls I5 F5 q) (fun _ _ z=>z) fun _ _ z=>z.elim
end
end L2
namespace L2
open PySem PySem.Spec PyProof.Rows
section
variable {M:Model} {A:Around} {E:Value->Shared->Prop} {h:Heap} {g:Array GenState} {d:Drawn} {t:Nat} {os:OsState}
end
end L2
namespace L2
open PySem PySem.Spec PySem.Calls PyProof.Rows PySem.W
end L2
namespace SM
theorem modB3 (x:Int) {m:Int} (h:1<=m):0<=x%m/\x%m<m:=⟨Int.emod_nonneg _ (by omega),Int.emod_lt_of_pos _ (by omega)⟩
theorem y3l {x m r:Int} (h0:0<=r) (h1:r<m) (h:m∣x-r):x%m=r:=by
 obtain⟨k,hk⟩:=h
 have:x=r+m*k:=by omega
 rw[this,Int.add_mul_emod_self_left,Int.emod_eq_of_lt h0 h1]
theorem z1z (x m:Int):m∣x-x%m:=⟨x/m,by have:=Int.mul_ediv_add_emod x m;omega⟩
theorem z3y {x y m:Int} (h:m∣x-y):x%m=y%m:=Int.emod_emod_of_dvd_sub h
where
 Int.emod_emod_of_dvd_sub {x y m:Int} (h:m∣x-y):x%m=y%m:=by
  obtain⟨k,hk⟩:=h
  have:x=y+m*k:=by omega
  rw[this,Int.add_mul_emod_self_left]
theorem crt {p q A B:Int} (hp:1<=p) (hq:1<=q) (h:gcdI p q∣A-B):∃t,p∣t-A/\q∣t-B:=by
 obtain⟨x,y,e⟩:=y4s p q (by omega) (by omega)
 obtain⟨k,hk⟩:=h
 rw[e,Int.add_mul] at hk
 refine⟨A-p*x*k,⟨-(x*k),?_⟩,⟨y*k,?_⟩⟩
 ·rw[Int.mul_neg,←Int.mul_assoc];omega
 ·rw[←Int.mul_assoc];omega
noncomputable def sh2 (u v:T3):T3:=(gcdI u.1 v.1,(u.2.1-v.2.1-(v.2.2-1))%gcdI u.1 v.1,if u.2.2+v.2.2-1<gcdI u.1 v.1 then u.2.2+v.2.2-1 else gcdI u.1 v.1)
theorem z2o {u v:T3} (hu:1<=u.1):1<=gcdI u.1 v.1:=by have:=z0m (a:=u.1) (b:=v.1) (by omega);omega
theorem y7v {u v:T3} (hu:L2.Wk u) (hv:L2.Wk v):L2.Wk (sh2 u v):=by
 have g:=z2o (v:=v) hu.1
 have b:=modB3 (u.2.1-v.2.1-(v.2.2-1)) g
 obtain⟨_,_,_,_,_⟩:=hu
 obtain⟨_,_,_,_,_⟩:=hv
 refine⟨g,b.1,b.2,?_,?_⟩
 ·show 1<=ite _ _ _
  split <;> omega
 ·show ite _ _ _<=gcdI u.1 v.1
  split <;> omega
theorem y0P (d x g:Int):(d-x%g)%g=(d-x)%g:=z3y (by
 obtain⟨k,hk⟩:=z1z x g
 exact⟨k,by omega⟩)
theorem y5E (u v:T3) (d:Int):(d-(sh2 u v).2.1)%(sh2 u v).1=(d-u.2.1+v.2.1+v.2.2-1)%gcdI u.1 v.1:=by
 show (d-(u.2.1-v.2.1-(v.2.2-1))%gcdI u.1 v.1)%gcdI u.1 v.1=_
 rw[y0P]
 congr 1
 omega
theorem y7w {u v:T3} (hu:1<=u.1) (d:Int):(d-(sh2 u v).2.1)%(sh2 u v).1<(sh2 u v).2.2 ↔ (d-u.2.1+v.2.1+v.2.2-1)%gcdI u.1 v.1<u.2.2+v.2.2-1:=by
 rw[y5E]
 have b:=modB3 (d-u.2.1+v.2.1+v.2.2-1) (z2o (v:=v) hu)
 show _<ite _ _ _ ↔ _
 split <;> omega
theorem y6t {u v:T3} (hu:L2.Wk u) (hv:L2.Wk v) (d:Int):(d-(sh2 u v).2.1)%(sh2 u v).1<(sh2 u v).2.2 ↔ ∃t,(t-u.2.1)%u.1<u.2.2/\(t-d-v.2.1)%v.1<v.2.2:=by
 rw[y7w hu.1]
 obtain⟨p,a,l⟩:=u
 obtain⟨q,b,n⟩:=v
 obtain⟨p0,a0,a1,l0,l1⟩:=hu
 obtain⟨q0,b0,b1,n0,n1⟩:=hv
 dsimp only at *
 have g0:1<=gcdI p q:=z2o (u:=(p,a,l)) (v:=(q,b,n)) p0
 have bg:=modB3 (d-a+b+n-1) g0
 obtain⟨k,hk⟩:=z1z (d-a+b+n-1) (gcdI p q)
 generalize hm:(d-a+b+n-1)%gcdI p q=m at *
 constructor
 ·intro h
  obtain⟨i,j,i0,i1,j0,j1,e⟩:∃i j:Int,0<=i/\i<l/\0<=j/\j<n/\i-j=m-(n-1):=by
   by_cases c:n-1<=m
   ·exact⟨m-(n-1),0,by omega,by omega,by omega,by omega,by omega⟩
   ·exact⟨0,n-1-m,by omega,by omega,by omega,by omega,by omega⟩
  obtain⟨t,h1,h2⟩:=crt (A:=a+i) (B:=b+d+j) p0 q0 ⟨-k,by rw[Int.mul_neg];omega⟩
  refine⟨t,?_,?_⟩
  ·rw[y3l (r:=i) i0 (by omega) (by have:t-a-i=t-(a+i):=(by omega);rw[this];exact h1)]
   exact i1
  ·rw[y3l (r:=j) j0 (by omega) (by have:t-d-b-j=t-(b+d+j):=(by omega);rw[this];exact h2)]
   exact j1
 ·rintro⟨t,h1,h2⟩
  have b1:=modB3 (t-a) p0
  have b2:=modB3 (t-d-b) q0
  have d1:=Int.dvd_trans (z0i p q) (z1z (t-a) p)
  have d2:=Int.dvd_trans (z0d p q) (z1z (t-d-b) q)
  generalize (t-a)%p=i at *
  generalize (t-d-b)%q=j at *
  have dd:=Int.dvd_sub d1 d2
  have e:m=(i-j+n-1)%gcdI p q:=by
   rw[←hm]
   refine z3y ?_
   have:d-a+b+n-1-(i-j+n-1)=t-a-i-(t-d-b-j):=by omega
   rw[this]
   exact dd
  rw[e]
  have:(i-j+n-1)%gcdI p q<=i-j+n-1:=by
   by_cases c:i-j+n-1<gcdI p q
   ·rw[Int.emod_eq_of_lt (by omega) c];exact Int.le_refl _
   ·have:=modB3 (i-j+n-1) g0
    omega
  omega
noncomputable def awP (u:T3) (t:Int):Prop:=(t-u.2.1)%u.1<u.2.2
end SM
namespace L2
open PySem PySem.Spec PyProof.Rows SM
section
variable {X:Cx} {pos:Pos}
end
end L2
namespace L2
open PySem PySem.Spec PyProof.Rows SM
section
variable {X:Cx}
theorem y4w (bs:List Bool):(List.range bs.length).any (fun i=>bs.getD i false)=bs.any id:=by
 rw[Bool.eq_iff_iff,List.any_eq_true,List.any_eq_true]
 constructor
 ·rintro⟨i,hi,h⟩
  rw[List.getD_eq_getElem?_getD,List.getElem?_eq_getElem (List.mem_range.mp hi)] at h
  exact⟨_,List.getElem_mem (List.mem_range.mp hi),h⟩
 ·rintro⟨b,hb,h⟩
  obtain⟨i,hi,e⟩:=List.getElem_of_mem hb
  refine⟨i,List.mem_range.mpr hi,?_⟩
  rw[List.getD_eq_getElem?_getD,List.getElem?_eq_getElem hi,e]
  exact h
theorem z9W (hc:X.calm=true):CallR X (.builtin "any") (fun vs H Q=>∃(a:Addr) (bs:List Bool),vs=[.ref a]/\SqL X.K H a (bs.map V.bl)/\Q (.bl (bs.any id)) H):=by
 intro pins s σ H xs us Q I r h
 obtain⟨a,bs,rfl,hq,q⟩:=h
 obtain⟨u,rfl,r1⟩:=Vals.one r
 cases r1
 obtain⟨its,rv,pl,hz⟩:=I.list hq
 have hl:=pl.isList
 have la:a<s.heap.objs.size:=by obtain⟨o,e,_⟩:=hl;exact Heap.lt_size e
 have ne:a≠s.heap.objs.size:=Nat.ne_of_lt la
 refine call_any_walkS (wpAny_pyIter_list hl ?_)
 have WS:=(Walks.list (prog:=X.prog) (w:=X.w) (A:=X.A.in1) (I.ok.hd hc) s.heap.objs.size a ne its.toArray).toS
 refine⟨_,_,_,_,_,_,_,fun i=>bs.getD i false,rfl,WS,⟨⟨_,Heap.get?_push_size _ rfl,rfl,rfl⟩,hl.push _⟩,fun i v s' Q' E' hv hq'=>?_,fun s' mv=>?_⟩
 ·have hv':its[i]?=some v:=by simpa using hv
  have hi:i<(bs.map V.bl).length:=by rw[rv.length];exact (List.getElem?_eq_some_iff.mp hv').1
  obtain⟨u,e1,r2⟩:=rv.get (List.getElem?_eq_getElem hi)
  rw[hv'] at e1
  cases e1
  rw[List.length_map] at hi
  rw[List.getElem_map] at r2
  cases r2
  have hq2:Q' (bs.getD i false) s':=hq'
  rw[List.getD_eq_getElem?_getD,List.getElem?_eq_getElem hi] at hq2
  exact wpAny_truthy_bool hq2
 ·have e:(List.range its.toArray.size).any (fun i=>bs.getD i false)=bs.any id:=by
   have:its.toArray.size=bs.length:=by
    have:=rv.length
    rw[List.length_map] at this
    simp [this]
   rw[this]
   exact y4w bs
  rw[e,Moved.eq_with mv]
  refine⟨.bl (bs.any id),H,I.kept fun b o e=>mv.heap b o (fun z=>?_) (Heap.get?_push_of_some _ e),rfl,q⟩
  exact absurd (Heap.lt_size e) (by rw[List.mem_singleton.mp z];exact Nat.lt_irrefl _)
end
section
variable {X:Cx} {K:PySem.W.Frag}
theorem z4B (h:X.K=K):IxR X (rIxL K):=h▸z0b
theorem z7d (h:X.K=K):IxR X (rIxT K):=h▸z0R
end
section
variable {K:PySem.W.Frag} {H:Hp} {Q:VK} {a b a1 a2 b1 b2:Addr} {xs1 xs2 ys1 ys2:List V} {ws vs:List T3}
end
end L2
namespace L2
open PySem PySem.Spec PyProof.Rows SM
section
variable {X:Cx} {tg:Expr}
noncomputable def iRngN (ta:TA):TI:=fun σ H R=>ta σ H fun vs H1=>∃i j:Int,vs=[.int i,.int j,.int (-1)]/\R (Its i (-1) (i-j).toNat) H1
theorem z7g {ta:TA} {R:It->Hp->Prop} {σ:St} {H:Hp}:iRngN ta σ H R=ta σ H fun vs H1=>∃i j:Int,vs=[.int i,.int j,.int (-1)]/\R (Its i (-1) (i-j).toNat) H1:=rfl
end
end L2
namespace L2
open PySem PySem.Spec PySem.Calls PyProof.Rows PySem.W Builtin Builtin.ObjectAttr Builtin.Getset_descriptor
section
variable {prog:Program} {w:World} {A:Around} {E:Value->Shared->Prop} {h:Heap} {g:Array GenState} {d:Drawn} {t:Nat} {os:OsState} {a C:Addr} {o:Obj} {bm:List Value} {K:Frag}
end
section
variable {K:Frag} {mg:Str->Option Value} {x x':Str} {C C':Addr} {bm bm':List Value}
end
end L2
namespace L2
open PySem PySem.Spec PySem.Calls PyProof.Rows SM
section
variable {X:Cx}
end
end L2
namespace SM
theorem y5y (c:Int):gcdI 1 c=1:=by unfold gcdI;rw[Int.gcd_one_left];rfl
theorem z8S {u:T3} {x m:Int} (h:u.1∣m):awP u (x+m) ↔ awP u x:=by
 obtain⟨k,hk⟩:=h
 unfold awP
 rw[z3y (x:=x+m-u.2.1) (y:=x-u.2.1) ⟨k,by omega⟩]
end SM
namespace L2
open PySem PySem.Spec PySem.Calls PyProof.Rows SM
section
variable {prog:Program} {w:World} {A:Around} {E:Value->Shared->Prop} {s:Shared}
end
section
variable {X:Cx} {tg:Expr}
noncomputable def tRng (ta:TA):TE:=fun σ H Q=>ta σ H fun vs H1=>∃j:Int,vs=[.int j]/\∀p,H1 p=none->Q (.ref p) (upd H1 p (.rng 0 j))
theorem z9h {ta:TA} {σ:St} {H:Hp} {Q:VK}:tRng ta σ H Q=ta σ H fun vs H1=>∃j:Int,vs=[.int j]/\∀p,H1 p=none->Q (.ref p) (upd H1 p (.rng 0 j)):=rfl
theorem y3Z {a:Expr} {ta:TA} {p pos:Pos} (hg:Gl X "range") (hm:X.mg "range" = none) (ha:PA X [a] ta) (hs:starEach [a] X.env=[(false,eval a X.env)]:=by rfl):PE X (.Call (.Name "range" p) [a] [] pos) (tRng ta):=by
 intro pins s σ H Q I h
 refine Call_ (z4A I hg hm boot_range (PyProof.Rows.callWith_type1 (thn (ha pos pins s σ H _ I h) fun us s1 ⟨vs,H1,I1,r1,q1⟩=>?_) hs rfl))
 obtain⟨j,e,q⟩:=q1
 subst e
 cases r1 with
 | cons r rr=>
  cases rr
  obtain⟨t,rfl⟩:=r
  refine call_range_1 ?_
  have hf:H1 s1.heap.objs.size=none:=I1.hok.fresh (Nat.le_refl _)
  exact⟨.ref s1.heap.objs.size,upd H1 s1.heap.objs.size (.rng 0 j),I1.laid (fun b u e=>Heap.get?_push_of_some _ e) (Nat.le_refl _) ⟨_,_,_,Heap.get?_push_size _ rfl⟩,rfl,q _ hf⟩
noncomputable def iRevR (ta:TE):TI:=fun σ H R=>ta σ H fun x H1=>∃(a:Addr) (n:Int),x=.ref a/\H1 a=some (.rng 0 n)/\0<=n/\n<2^62/\R (Its (n-1) (-1) n.toNat) H1
theorem z7l {ta:TE} {R:It->Hp->Prop} {σ:St} {H:Hp}:iRevR ta σ H R=ta σ H fun x H1=>∃(a:Addr) (n:Int),x=.ref a/\H1 a=some (.rng 0 n)/\0<=n/\n<2^62/\R (Its (n-1) (-1) n.toNat) H1:=rfl
end
end L2
namespace SM
noncomputable def bothB (u v:T3) (d t:Int):Bool:=decide ((t-u.2.1)%u.1<u.2.2/\(t-d-v.2.1)%v.1<v.2.2)
end SM
namespace SM
noncomputable def z3z (u:T3) (s r:Int):Bool:=decide ((r-u.2.1)%gcdI s u.1<u.2.2)
noncomputable def Cov (us:List T3) (s r:Int):Prop:=∀x:Int,∃u∈us,awP u (r+s*x)
theorem y2W {m g:Int} (m0:0<=m) (g0:1<=g):m%g<=m:=by
 by_cases c:m<g
 ·rw[Int.emod_eq_of_lt m0 c];exact Int.le_refl _
 ·have:=modB3 m g0
  omega
theorem y5g {u:T3} {s r x:Int} (hu:L2.Wk u) (hs:1<=s) (h:awP u (r+s*x)):z3z u s r=true:=by
 refine decide_eq_true ?_
 have g0:1<=gcdI s u.1:=z2o (u:=(s,0,0)) (v:=u) hs
 have m:=modB3 (r+s*x-u.2.1) hu.1
 have d1:=Int.dvd_trans (z0d s u.1) (z1z (r+s*x-u.2.1) u.1)
 unfold awP at h
 generalize (r+s*x-u.2.1)%u.1=k at *
 have e:(r-u.2.1)%gcdI s u.1=k%gcdI s u.1:=z3y (by
  have d2:gcdI s u.1∣s*x:=Int.dvd_trans (z0i s u.1) ⟨x,rfl⟩
  have:r-u.2.1-k=r+s*x-u.2.1-k-s*x:=by omega
  rw[this]
  exact Int.dvd_sub d1 d2)
 rw[e]
 have:=y2W m.1 g0
 omega
theorem Cov.met {us:List T3} {s r:Int} (hu:∀u∈us,L2.Wk u) (hs:1<=s) (h:Cov us s r):Cov (us.filter fun u=>z3z u s r) s r:=fun x=>by
 obtain⟨u,mu,a⟩:=h x
 exact⟨u,List.mem_filter.mpr ⟨mu,y5g (hu u mu) hs a⟩,a⟩
theorem Cov.parted {us:List T3} {s r:Int} (h:Cov us s r) (b c:Int):Cov us (s*b) (r+s*c):=fun x=>by
 have:=h (c+b*x)
 rw[Int.mul_add,←Int.mul_assoc,←Int.add_assoc] at this
 exact this
theorem Cov.some {us:List T3} {s r:Int} (h:Cov us s r):us≠[]:=fun e=>by
 obtain⟨u,mu,_⟩:=h 0
 rw[e] at mu
 cases mu
theorem y5W {u:T3} {s r:Int} (hu:L2.Wk u) (hs:1<=s) (m:z3z u s r=true) (l:liesB u s r=false):2<=u.1/gcdI s u.1:=by
 have g0:1<=gcdI s u.1:=z2o (u:=(s,0,0)) (v:=u) hs
 obtain⟨y,hy⟩:=z0d s u.1
 have e:u.1/gcdI s u.1=y:=by
  conv=>lhs;lhs;rw[hy]
  exact Int.mul_ediv_cancel_left y (by omega)
 rw[e]
 by_cases c:2<=y
 ·exact c
 ·exfalso
  have p0:=hu.1
  have y1:y=1:=by
   rcases (show y<=0∨y=1 by omega) with z|z
   ·have:=Int.mul_le_mul_of_nonneg_left z (show 0<=gcdI s u.1 by omega)
    omega
   ·exact z
  rw[y1,Int.mul_one] at hy
  have m1:(r-u.2.1)%gcdI s u.1<u.2.2:=of_decide_eq_true m
  have l1:¬u.1-u.2.2<=(r-u.2.1-u.2.2)%gcdI s u.1:=of_decide_eq_false l
  rw[←hy] at m1 l1
  obtain⟨k,hk⟩:=z1z (r-u.2.1) u.1
  have b:=modB3 (r-u.2.1) p0
  obtain⟨_,_,_,l3,l4⟩:=hu
  generalize (r-u.2.1)%u.1=t at *
  rw[y3l (r:=t-u.2.2+u.1) (by omega) (by omega) ⟨k-1,by rw[Int.mul_sub];omega⟩] at l1
  omega
theorem y5X {s p L b:Int} (hs:1<=s) (hp:1<=p) (h1:s∣L) (h2:p∣L) (hb:b∣p/gcdI s p):s*b∣L:=
 Int.dvd_trans (show s*b∣lcmI s p from Int.mul_dvd_mul_left s hb) (y1h hs hp h1 h2)
open L2 in
theorem z8t {ws:List T3} {s r b:Int} {ps:List Pap} {p:Pap} (h:z0h ws s r b 0 ps=true) (hp:z0Y ws (s*b) (r+s*(ps.length:Int)) p=true):z0h ws s r b 0 (ps++[p])=true:=by
 have e:=z2E (ws:=ws) (s:=s) (r:=r) (b:=b) (ps:=ps++[p]) (c:=0) (i:=ps.length) (p:=p) (by simp)
 rw[List.take_of_length_le (by simp),List.take_append_of_le_length (Nat.le_refl _),List.take_length,Nat.zero_add,h,hp] at e
 exact e
end SM
namespace L2
open PySem PySem.Spec PySem.Calls PyProof.Rows SM
noncomputable def upto (n:Nat):List Int:=(List.range n).map fun i:Nat=>(i:Int)
theorem z8W:∀(l:List Value) (k:Nat),(∀(j:Nat) (v:Value),l[j]?=some v->∃t,v=.int ((k+j:Nat):Int) t)->Vals ((List.range' k l.length).map fun i:Nat=>V.int (i:Int)) l
 | [],_,_=>.nil
 | x::l,k,h=>by
  obtain⟨t,rfl⟩:=h 0 x rfl
  have ih:=z8W l (k+1) fun j v e=>by
   obtain⟨t,rfl⟩:=h (j+1) v (by simpa using e)
   exact⟨t,by rw[Nat.add_assoc,Nat.add_comm 1 j]⟩
  rw[List.length_cons,List.range'_succ,List.map_cons]
  exact .cons ⟨t,rfl⟩ ih
theorem y4y {n:Nat} {acc:Array Value} (h:ItemsOf (fun i v=>∃t,v=.int (0+(i:Int)*1) t) acc n):Vals ((upto n).map V.int) acc.toList:=by
 have e:=z8W acc.toList 0 fun j v e=>by
  rw[Array.getElem?_toList] at e
  obtain⟨t,rfl⟩:=h.2 j v e
  exact⟨t,by congr 1;simp⟩
 have hl:acc.toList.length=n:=by rw[Array.length_toList];exact h.1
 rw[hl,←List.range_eq_range'] at e
 unfold upto
 rw[List.map_map]
 exact e
section
variable {X:Cx}
theorem z8N (hc:X.calm=true):CallR X (.type "list") (fun xs H Q=>∃(p:Addr) (n:Int),xs=[.ref p]/\H p=some (.rng 0 n)/\0<=n/\n<=2^20/\∀l,H l=none->Q (.ref l) (upd H l (IL (upto n.toNat)))):=by
 intro pins s σ H xs us Q I r h
 obtain⟨p,n,rfl,hq,n0,n1,q⟩:=h
 obtain⟨u,rfl,rx⟩:=vals1 r
 cases rx
 obtain⟨t,u,v,ho⟩:=(show ObjOk X.prog X.w H s.heap p (.rng 0 n) from I.hok p _ hq)
 have en:((n.toNat:Nat):Int)=n:=by omega
 have rs:Builtin.Range.rangeSize 0 n 1=(n.toNat:Nat):=by
  unfold Builtin.Range.rangeSize
  simp
  split <;> omega
 have sm:Builtin.Range.small 0 n 1=true:=by
  unfold Builtin.Range.small Builtin.Range.rangeFitsLong
  simp
  omega
 have hz:((upto n.toNat).map V.int).length<=sizeLine:=by
  unfold upto
  rw[List.length_map,List.length_map,List.length_range,sizeLine_eq]
  omega
 refine call_list_range (I.ok.hd hc) ho sm rs (by omega) fun h' tk acc' c' hk hD hacc=>?_
 have I2:=I.laid (o:=IL (upto n.toNat)) (h':=h') (t':=tk) hk (Nat.le_refl _)
  (show ObjOk X.prog X.w _ h' _ (.lst ((upto n.toNat).map V.int)) from⟨hz,acc'.toList,c',y4y hacc,by rw[Array.toArray_toList];exact hD⟩)
 exact⟨.ref _,_,I2,rfl,q _ (I.hok.fresh (Nat.le_refl _))⟩
end
end L2
namespace L2
open PySem PySem.Spec PyProof.Rows SM
noncomputable abbrev Hd:=List T3×Int
theorem z9Q (xs:List V) (n:Nat):cutV xs (some (n:Int)) none=xs.drop n:=by
 unfold cutV
 have e1:HT.sIx xs.length xs.length none=xs.length:=rfl
 have e2:HT.sIx xs.length 0 (some (n:Int))=min n xs.length:=by
  unfold HT.sIx
  simp only
  split <;> omega
 rw[e1,e2,List.take_of_length_le (by rw[List.length_drop];omega)]
 by_cases c:n<=xs.length
 ·rw[Nat.min_eq_left c]
 ·rw[Nat.min_eq_right (by omega),List.drop_length,List.drop_eq_nil_of_le (by omega)]
section
variable {K:PySem.W.Frag} {H:Hp} {Q:VK} {a b:Addr} {xs ys:List V} {ws vs:List Hd}
end
section
variable {K:PySem.W.Frag} {H:Hp} {Q:VK} {a b:Addr} {ws vs:List (Option Int)}
end
end L2
namespace SM
open L2
end SM
namespace SM
open L2
end SM
namespace SM
open L2
end SM
namespace SM
theorem IsPart.uniq {n d e:Int} (h:IsPart n d) (g:IsPart n e):d=e:=by
 by_cases c:d<e
 ·exact absurd h.dvd (g.least d h.two c)
 ·by_cases c2:e<d
  ·exact absurd g.dvd (h.least e g.two c2)
  ·omega
end SM
namespace L2
open PySem PySem.Spec PyProof.Rows SM
section
variable {prog:Program} {w:World} {B:Around} {it:Addr} {fp wr:List Addr} {GG:Array GenState->Array GenState->Prop} {n:Nat} {PV:Nat->Value->Prop} {SV:Nat->Shared->Prop} {RR:Result->Shared->Prop}
end
section
variable {prog:Program} {w:World} {A:Around} {E:Value->Shared->Prop} {s:Shared}
end
section
variable {X:Cx}
end
end L2
namespace L2
open PySem PySem.Spec PyProof.Rows SM
section
variable {X:Cx}
theorem z6B (hc:X.calm=true):CallR X (.builtin "max") (fun vs H Q=>∃(a:Addr) (ns:List Int),vs=[.ref a]/\SqL X.K H a (ns.map V.int)/\ns≠[]/\∀M,M∈ns->(∀z∈ns,z<=M)->Q (.int M) H):=by
 intro pins s σ H vs us Q I r h
 obtain⟨a,ns,rfl,hq,hn,q⟩:=h
 obtain⟨u,rfl,r1⟩:=Vals.one r
 cases r1
 obtain⟨its,rv,pl,hz⟩:=I.list hq
 have hi:IntsAre its ns:=z6o rv
 obtain⟨xs,ex⟩:=hi.allInts.items
 have hns:ns=xs.toList.map (·.1):=by rw[←hi.numsOf,←nums_intItems,←ex]
 have hsz:xs.size=ns.length:=by rw[hns,List.length_map,Array.length_toList]
 have ln:0<ns.length:=List.length_pos_iff.mpr hn
 have hl:=pl.isList
 rw[ex] at hl
 have sz:(intItems xs).size=xs.size:=by simp [intItems]
 refine call_max_walkS (iter_intList hl fun s2 e st hfp ne=>?_)
 have WS:=(Walks.list (prog:=X.prog) (w:=X.w) (A:=X.A.in1) (I.ok.hd hc) s.heap.objs.size a ne (intItems xs)).toS
 refine⟨_,_,_,_,_,_,_,_,rfl,WS,st,hfp,by rw[sz];omega,CmpOf.ints_gt (numAt xs) fun _ _=>intItems_at,fun v s' pv mv=>?_⟩
 subst e
 rw[sz] at pv
 obtain⟨t,rfl⟩:=intItems_at pv
 obtain⟨b1,b2⟩:=argBest_gt (numAt xs) (xs.size-1)
 rw[Moved.eq_with mv]
 refine⟨.int _,H,I.kept fun b o e=>mv.heap b o (fun z=>?_) (Heap.get?_push_of_some _ e),⟨t,rfl⟩,q _ ?_ fun y hy=>?_⟩
 ·exact absurd (Heap.lt_size e) (by rw[List.mem_singleton.mp z];exact Nat.lt_irrefl _)
 ·rw[hns,numAt_eq];exact getD_mem (by rw[List.length_map,Array.length_toList];omega)
 ·rw[hns] at hy
  obtain⟨j,hj,rfl⟩:=mem_getD hy
  rw[List.length_map,Array.length_toList] at hj
  rw[←numAt_eq]
  exact b2 j (by omega)
end
end L2
namespace L2
open PySem PySem.Spec PyProof.Rows SM
section
variable {prog:Program} {w:World} {B:Around} {E:Value->Shared->Prop} {s:Shared}
theorem z6l {J tu:Addr} {k:Nat} {its:Array Value} {v:Value} {Q:Value->Shared->Prop} (hj:s.heap.IsTupleIter J tu k) (hu:s.heap.IsTuple tu its) (hv:its[k]?=some v)
  (q:∀h',h'.IsTupleIter J tu (k+1)->Heap.SameBut J s.heap h'->Q v { s with heap:=h' }):wpAny (model prog w) B (Builtin.SmallTypes.nextOf (.ref J)) Q E s:=by
 have ty:=hj.typeIs
 obtain⟨oj,ej,cj,dj⟩:=id hj
 obtain⟨ou,eu,_,mu,du⟩:=hu
 unfold Builtin.SmallTypes.nextOf
 refine wpAny_bind (wpAny_callSpecial?_slot (name:=Str.ofString "__next__") ty PySem.F.slot_tuple_iterator_next (wpAny_call_entry PySem.F.slot_tuple_iterator_next ty PySem.F.entry_tuple_iterator_next ?_ (PySem.F.args_tuple_iterator_next_1 _)))
 show wpAny _ _ (field (.ref J) 0 >>= _) _ _ s
 refine wpAny_bind (wpAny_field ej dj (x:=.ref tu) rfl ?_)
 show wpAny _ _ (if (Value.ref tu == Value.none)=true then _ else _) _ _ s
 rw[if_neg (show ¬((Value.ref tu == Value.none)=true) from Bool.false_ne_true)]
 show wpAny _ _ (field (.ref J) 1 >>= _) _ _ s
 refine wpAny_bind (wpAny_field ej dj (x:=.int k 0) rfl ?_)
 show wpAny _ _ (seqItems? (.ref tu) >>= _) _ _ s
 refine wpAny_bind (wpAny_seqItems eu du ?_)
 simp only [hv,Int.toNat_natCast]
 refine wpAny_bind (wpAny_setField ej dj (by simp) (wpAny_pure ⟨v,rfl,wpAny_pure (q _ ?_ (Heap.SameBut.update ..))⟩))
 exact⟨_,Heap.get?_update_self _ ej (Obj.isFreed_of_fields (Obj.data_mapFields dj _)),(Obj.cls_mapFields ..).trans cj,by rw[Obj.data_mapFields dj];simp [rawInt]⟩
theorem y3h {J tu:Addr} {k:Nat} {its:Array Value} {Q:Value->Shared->Prop} (hh:B.handled=none) (hj:s.heap.IsTupleIter J tu k) (hu:s.heap.IsTuple tu its) (hv:its[k]?=none)
  (q:∀h' x,Heap.ExtBut J s.heap h'->(∃o,h'.get? x=some o/\o.cls=.type "StopIteration")->E (.ref x) { s with heap:=h' }):wpAny (model prog w) B (Builtin.SmallTypes.nextOf (.ref J)) Q E s:=by
 have ty:=hj.typeIs
 obtain⟨oj,ej,cj,dj⟩:=id hj
 obtain⟨ou,eu,_,mu,du⟩:=hu
 unfold Builtin.SmallTypes.nextOf
 refine wpAny_bind (wpAny_callSpecial?_slot (name:=Str.ofString "__next__") ty PySem.F.slot_tuple_iterator_next (wpAny_call_entry PySem.F.slot_tuple_iterator_next ty PySem.F.entry_tuple_iterator_next ?_ (PySem.F.args_tuple_iterator_next_1 _)))
 show wpAny _ _ (field (.ref J) 0 >>= _) _ _ s
 refine wpAny_bind (wpAny_field ej dj (x:=.ref tu) rfl ?_)
 show wpAny _ _ (if (Value.ref tu == Value.none)=true then _ else _) _ _ s
 rw[if_neg (show ¬((Value.ref tu == Value.none)=true) from Bool.false_ne_true)]
 show wpAny _ _ (field (.ref J) 1 >>= _) _ _ s
 refine wpAny_bind (wpAny_field ej dj (x:=.int k 0) rfl ?_)
 show wpAny _ _ (seqItems? (.ref tu) >>= _) _ _ s
 refine wpAny_bind (wpAny_seqItems eu du ?_)
 simp only [hv,Int.toNat_natCast]
 refine wpAny_bind (wpAny_rule (wpAny_bind (wpAny_setField ej dj (by simp) ?_)))
 show wpAny (model prog w) _ (newExc (.type "StopIteration") [] >>= _) _ _ _
 refine wpAny_bind ?_
 unfold newExc newTuple
 refine wpAny_bind (wpAny_newObj_type ?_)
 refine wpAny_bind (m:=firstArgMember _ _) (wpAny_of_eq (a:=Value.none) rfl ?_)
 refine wpAny_newObj_type ?_
 unfold raiseNew
 refine wpAny_bind (wpAny_handled ?_)
 rw[hh]
 refine wpAny_bind (wpAny_pure (wpAny_throw (q _ _ (((Heap.SameBut.update ..).extBut.push _).push _) ⟨_,Heap.get?_push_size _ rfl,rfl⟩)))
end
section
variable {prog:Program} {w:World} {B:Around} {E:Value->Shared->Prop} {s:Shared}
end
noncomputable def okET (K:PySem.W.Frag) (a:Addr) (n:Nat) (H:Hp):Prop:=∃xs,SqT K H a xs/\xs.length=n
noncomputable def IteT (K:PySem.W.Frag) (a:Addr) (n:Nat):It:=Itp n (okET K a n) fun i H u v=>u=.int i/\∀xs,SqT K H a xs->xs[i]?=some v
noncomputable def y8R (K:PySem.W.Frag) (ta:TE):TI:=fun σ H R=>ta σ H fun x H1=>∃a xs,x=.ref a/\SqT K H1 a xs/\R (IteT K a xs.length) H1
section
variable {X:Cx} {es:List Expr} {k:Nat} {tpos:Pos}
end
theorem z5o {K:PySem.W.Frag} {ta:TE} {σ:St} {H:Hp} {R:It->Hp->Prop}:y8R K ta σ H R=ta σ H fun x H1=>∃a xs,x=.ref a/\SqT K H1 a xs/\R (IteT K a xs.length) H1:=rfl
end L2
namespace L2
open PySem PySem.Spec PyProof.Rows SM
theorem z8U:∀ {ys:List Str} {its:List Value},Vals (ys.map V.str) its->∃l:List (Str×Tok),its=strValues l/\l.map (·.1)=ys
 | [],_,.nil=>⟨[],rfl,rfl⟩
 | y::ys,_,.cons r rs=>by
  obtain⟨t,rfl⟩:=r
  obtain⟨l,rfl,e⟩:=z8U rs
  exact⟨(y,t)::l,rfl,by simp [e]⟩
theorem z5D:∀l:List (Str×Tok),Vals (l.map fun p=>V.str p.1) (strValues l)
 | []=>.nil
 | p::l=>.cons ⟨p.2,rfl⟩ (z5D l)
section
variable {X:Cx}
theorem y0O:MtR X "str.join" (fun x vs H Q=>∃(sep:Str) (a:Addr) (ys:List Str),x=.str sep/\vs=[.ref a]/\SqL X.K H a (ys.map V.str)/\ys.toArray.foldl (· + ·.length+sep.length) 0<=sizeLine/\(Builtin.Str.glued sep ys).length<=sizeLine/\Q (.str (Builtin.Str.glued sep ys)) H):=by
 intro pins s σ H x vs v us Q I rx rs h
 obtain⟨sep,a,ys,rfl,rfl,hq,hz,hg,q⟩:=h
 obtain⟨t,rfl⟩:=rx
 obtain⟨u,rfl,r1⟩:=Vals.one rs
 cases r1
 obtain⟨its,rv,pl,_⟩:=I.list hq
 obtain⟨l,rfl,rfl⟩:=z8U rv
 refine call_meets PySem.F.slot_str_join (typeIs_str _ _ _) PySem.F.entry_str_join (PySem.F.args_str_join_2 _ _) (meets_str_join_list sep t a l (by simp only [Builtin.Str.tooLong];exact decide_eq_false (Nat.not_lt.mpr hz))) ⟨pl.isList,?_⟩
 match l,hg,q with
 | [],hg,q=>exact⟨hg,.str _,H,I.tok _,⟨_,rfl⟩,q⟩
 | [p],_,q=>exact⟨.str p.1,H,I,⟨_,rfl⟩,q⟩
 | p::p2::l,hg,q=>exact⟨hg,.str _,H,I.tok _,⟨_,rfl⟩,q⟩
theorem y1d:MtR X "str.split" (fun x vs H Q=>∃(z y:Str),x=.str z/\vs=[.str y]/\(y.length == 0)=false/\z.length+10<=sizeLine/\∀D,H D=none->Q (.ref D) (upd H D (.lst ((Txt.split z y).map V.str)))):=by
 intro pins s σ H x vs v us Q I rx rs h
 obtain⟨z,y,rfl,rfl,hy,hz,q⟩:=h
 obtain⟨t,rfl⟩:=rx
 obtain⟨w,rfl,u,rfl⟩:=Vals.one rs
 have ln:(Builtin.Str.partsBetween z (Builtin.Str.occurrences z y 0 z.length (z.length+1)) y.length).length<=sizeLine:=by
  have:=PySem.StrLaws.occ_length_le z y 0 z.length (z.length+1)
  simp only [Builtin.Str.partsBetween,List.length_map,List.length_zip,List.length_cons,List.length_append,List.length_nil]
  omega
 have fin:∀(l:List (Str×Tok)) (tk:Nat),l.map (·.1)=Txt.split z y->EP X pins σ Q (.ref s.heap.objs.size) { s with toks:=tk,heap:=s.heap.push { cls:=.type "list",data:=.seq (strValues l).toArray } }:=fun l tk e=>by
  have e2:(Txt.split z y).map V.str=l.map fun p=>V.str p.1:=by rw[←e,List.map_map];rfl
  have ll:l.length<=sizeLine:=by
   have:l.length=(Txt.split z y).length:=by rw[←e,List.length_map]
   rw[this]
   unfold Txt.split
   split
   ·show 1<=sizeLine;decide
   ·split
    ·show 1<=sizeLine;decide
    ·exact ln
  have q2:=q _ I.fresh
  rw[e2] at q2
  exact⟨.ref _,_,I.lnew (t':=tk) (z5D l) (by rw[List.length_map];exact ll),rfl,q2⟩
 cases h1:(decide (z.length<y.length) || decide (Builtin.Str.strKind z<Builtin.Str.strKind y)) with
 | true=>
  refine call_meets PySem.F.slot_str_split (typeIs_str _ _ _) PySem.F.entry_str_split (PySem.F.args_str_split_2 _ _) (meets_str_split_cannot_occur z y t u h1) ?_
  exact fin [(z,t)] s.toks (by unfold Txt.split;rw[if_pos h1];rfl)
 | false=>
  cases h2:(Builtin.Str.occurrences z y 0 z.length (z.length+1)).isEmpty with
  | true=>
   refine call_meets PySem.F.slot_str_split (typeIs_str _ _ _) PySem.F.entry_str_split (PySem.F.args_str_split_2 _ _) (meets_str_split_not_found z y t u h1 hy h2) ?_
   exact fin [(z,t)] s.toks (by unfold Txt.split;rw[if_neg (by rw[h1];decide),if_pos h2];rfl)
  | false=>
   refine call_meets PySem.F.slot_str_split (typeIs_str _ _ _) PySem.F.entry_str_split (PySem.F.args_str_split_2 _ _) (meets_str_split_sep z y t u h1 hy h2 (by omega) ln) ?_
   rw[strsFrom_eq]
   exact fin _ _ (by rw[numbered_texts];unfold Txt.split;rw[if_neg (by rw[h1];decide),if_neg (by rw[h2];decide)])
theorem z8P:CallR X (.type "int") (fun xs H Q=>∃z n,xs=[.str z]/\intText? z=some n/\z.length<=640/\Q (.int n) H):=by
 intro pins s σ H xs us Q I r h
 obtain⟨z,n,rfl,e,hl,q⟩:=h
 obtain⟨u,rfl,t,rfl⟩:=Vals.one r
 exact PySem.W.KIN.call_text e hl ⟨.int n,H,I.tok _,⟨_,rfl⟩,q⟩
end
end L2
namespace L2
open PySem PySem.Spec PyProof.Rows SM
noncomputable def Asc (z:Str):Prop:=z.cps.all (· < 128)=true
noncomputable def Itc (z:Str):It:=⟨fun i _=>i<z.cps.size,fun i H x H'=>H'=H/\∃c,z.cps[i]?=some c/\x=.str ⟨#[c]⟩,fun i _=>z.cps.size<=i⟩
theorem y1z {P:Program} {w:World} {K:PySem.W.Frag} {tg:Expr} (z:Str) (t:Tok) (J:Addr):Turn P w K tg (Itc z) [J] J (fun i h=>h.IsStrIter J "str_ascii_iterator" z t i) where
 mem:=by simp
 obj:=fun i h st b hb=>by
  have eb:b=J:=by simpa using hb
  subst eb
  obtain⟨o,e1,_,d1⟩:=st
  exact⟨o,e1,fun v y=>by rw[d1] at y;cases y⟩
 keep:=fun i h h' st k=>let ⟨o,e1,r⟩:=st;⟨o,k J (by simp) o e1,r⟩
 item:=by
  intro X hP hw hK hc i pins s σ H E I hf st hg
  subst hP hw hK
  have hi:i<z.cps.size:=hg
  have hx:z.cps[i]?=some z.cps[i]:=Array.getElem?_eq_getElem hi
  obtain⟨f0,f1,f2,f3,f4,f5⟩:=hf J (by simp)
  refine wpAny_pyNext_ascii_item st hx fun h' st' sb=>?_
  have I1:Inv X pins σ H { s with heap:=h',toks:=s.toks+1 }:=I.turned (t':=s.toks+1) (fun b o hb e=>(sb.2 b hb).trans e) f0 f1 f3 f4 f5
  obtain⟨o,e1,c1,d1⟩:=id st'
  exact⟨_,rfl,go_of (s:={ s with heap:=h',toks:=s.toks+1 }) e1 c1 d1 (by decide) ⟨.str ⟨#[z.cps[i]]⟩,H,I1,⟨_,rfl⟩,⟨rfl,z.cps[i],hx,rfl⟩,st',fun b hb=>(hf b hb).1⟩⟩
 done:=by
  intro X hP hw hK hc i pins s σ H E I hf st hg
  subst hP hw hK
  have hi:z.cps.size<=i:=hg
  obtain⟨f0,f1,f2,f3,f4,f5⟩:=hf J (by simp)
  exact wpAny_pyNext_ascii_end (I.ok.hd hc) st (Array.getElem?_eq_none hi) fun h' eb=>⟨rfl,I.turned (t':=s.toks) (fun b o hb e=>eb b o hb e) f0 f1 f3 f4 f5⟩
 self:=fun _ _ _ _ _ st h=>wpAny_pyIter_striter_ascii st h
noncomputable def iStr (tl:TE):TI:=fun σ H R=>tl σ H fun x H1=>∃z,x=.str z/\Asc z/\R (Itc z) H1
theorem y0Y {tl:TE} {σ:St} {H:Hp} {R:It->Hp->Prop}:iStr tl σ H R=tl σ H fun x H1=>∃z,x=.str z/\Asc z/\R (Itc z) H1:=rfl
section
variable {X:Cx} {tg:Expr}
theorem y6S {l:Expr} {tl:TE} (hl:PE X l tl):PI X tg l (iStr tl):=by
 intro pins s σ H R I h
 refine thn (hl pins s σ H _ I h) fun v s1 ⟨x,H1,I1,r1,q1⟩=>?_
 obtain⟨z,rfl,hz,q⟩:=q1
 obtain⟨t,rfl⟩:=r1
 refine wpAny_pyIter_ascii hz ?_
 refine⟨s1.heap.objs.size,[s1.heap.objs.size],_,_,H1,rfl,I1.kept (t':=s1.toks) fun b o e=>Heap.get?_push_of_some _ e,y1z z t _,⟨_,Heap.get?_push_size _ rfl,rfl,rfl⟩,fun b hb=>?_,q⟩
 have eb:b=s1.heap.objs.size:=by simpa using hb
 rw[eb]
 exact I1.fpOk (Nat.le_refl _) (I1.hok.fresh (Nat.le_refl _))
noncomputable def CS (mg:Str->Option Value) (x:Str) (z:Str):Prop:=∃t,mg x=some (.str z t)
theorem cs_mk {K:PySem.W.Frag} {h:Heap} {mg:Str->Option Value} {x z:Str} {t:Tok} (X:K.In h) (G:h.Ns mainGlobals mg) (a:PySem.W.nsIn K mainGlobals x=some (some (.str z t))):CS mg x z:=⟨t,PySem.W.mg_of X G a⟩
theorem pe_cs {x z:Str} {pos:Pos} (hg:Gl X x) (h:CS X.mg x z) (hd:(x == ("__debug__" : Str))=false:=by decide):PE X (.Name x pos) (tC (.str z)):=by
 obtain⟨t,e⟩:=h
 exact z5c hg e ⟨t,rfl⟩ hd
end
theorem z9S {σ:St} {H:Hp} {Q:VK} {z:Str} {g:TG} {tt:TT} {te:TE} {own:List Str} {fr:List Nat} (Sv:St->Prop) (Pv:Addr->Nat->List V->Hp->Prop) (hS:Sv (st0 own fr σ))
  (h0:∀D,H D=none->Pv D 0 [] (upd H D (.lst [])))
  (hs:∀D i c ys σ H',z.cps[i]?=some c->Sv σ->H' D=some (.lst ys)->ys.length<=i->Pv D i ys H'->g (.str ⟨#[c]⟩) σ H' fun σ2 H2=>tt σ2 H2 fun b H3=>if b=true then te σ2 H3 fun y H4=>CompP Sv Pv D i σ2 y H4 else CompN Sv Pv D (i+1) σ2 H3)
  (hd:∀D ys H',H' D=some (.lst ys)->Pv D z.cps.size ys H'->Q (.ref D) H'):CompW (Itc z) g tt te own fr σ H Q:=by
 intro D hD
 refine⟨fun i m σ H=>m=z.cps.size-i/\i<=z.cps.size/\CompN Sv Pv D i σ H,⟨_,rfl,Nat.zero_le _,hS,[],z0F,Nat.le_refl _,h0 D hD⟩,?_⟩
 rintro i m σ1 H1 ⟨rfl,hi,hs1,ys,hy,hy2,p⟩
 by_cases hlt:i<z.cps.size
 ·refine .inr ⟨hlt,CompN Sv Pv D (i+1),fun σ' H' p'=>⟨z.cps.size-(i+1),by omega,rfl,hlt,p'⟩,fun x H' y=>?_⟩
  obtain⟨e,c,ec,ex⟩:=y
  subst e ex
  exact hs D i c ys σ1 _ ec hs1 hy hy2 p
 ·have e:i=z.cps.size:=by omega
  subst e
  exact .inl ⟨Nat.le_refl _,hd D ys H1 hy p⟩
end L2
namespace SM
open L2 PySem PySem.Builtin.Str
noncomputable def tx (l:List Nat):Str:=⟨l.toArray⟩
theorem z1c (z:Str):tx z.cps.toList=z:=by
 cases z
 simp [tx]
theorem z5E {y z:Str} (h:y.cps.toList=z.cps.toList):y=z:=by
 rw[←z1c y,←z1c z,h]
noncomputable def spl (c:Nat):List Nat->List (List Nat)
 | []=>[[]]
 | x::xs=>if x=c then []::spl c xs else match spl c xs with
  | h::t=>(x::h)::t
  | []=>[[x]]
theorem z7N (c:Nat):∀l:List Nat,∃h t,spl c l=h::t
 | []=>⟨[],[],rfl⟩
 | x::xs=>by
  obtain⟨h,t,e⟩:=z7N c xs
  unfold spl
  split
  ·exact⟨_,_,rfl⟩
  ·rw[e]
   exact⟨_,_,rfl⟩
noncomputable def cutsF (c:Nat):List Nat->Nat->List Nat
 | [],_=>[]
 | x::xs,k=>if x=c then k::cutsF c xs (k+1) else cutsF c xs (k+1)
theorem z1U (z:Str) (i j:Nat):strSub z i j=tx ((z.cps.toList.drop i).take (j-i)):=by
 apply z5E
 simp [strSub,tx]
theorem z5f (z:Str) (c:Nat):∀(l:List Nat) (k i:Nat),z.cps.toList.drop k=l->k+l.length=z.length->i<=k->
  (((i::(cutsF c l k).map (· + 1)).zip (cutsF c l k++[z.length])).map fun (a,b)=>strSub z a b)=match spl c l with
   | h::t=>tx ((z.cps.toList.drop i).take (k-i)++h)::t.map tx
   | []=>[]
 | [],k,i,hd,hl,hi=>by
  simp only [cutsF,spl,List.map_nil,List.nil_append,List.zip_cons_cons,List.zip_nil_left,List.map_cons,List.append_nil]
  rw[z1U]
  have:z.length=k:=by simpa using hl.symm
  rw[this]
 | x::xs,k,i,hd,hl,hi=>by
  have hd':z.cps.toList.drop (k+1)=xs:=by rw[←List.tail_drop,hd];rfl
  have hl':k+1+xs.length=z.length:=by rw[List.length_cons] at hl;omega
  have hx:z.cps.toList[k]?=some x:=by
   have:(z.cps.toList.drop k)[0]?=some x:=by rw[hd];rfl
   rw[List.getElem?_drop] at this
   exact this
  obtain⟨h,t,e⟩:=z7N c xs
  by_cases c1:x=c
  ·have ih:=z5f z c xs (k+1) (k+1) hd' hl' (Nat.le_refl _)
   rw[e] at ih
   simp only [Nat.sub_self,List.take_zero,List.nil_append] at ih
   simp only [cutsF,spl,c1,if_true,List.map_cons,List.cons_append,List.zip_cons_cons,List.append_nil]
   rw[ih,z1U,e]
   rfl
  ·have ih:=z5f z c xs (k+1) i hd' hl' (by omega)
   rw[e] at ih
   simp only [cutsF,spl,c1,if_false,e]
   rw[ih]
   have e2:(z.cps.toList.drop i).take (k+1-i)=(z.cps.toList.drop i).take (k-i)++[x]:=by
    rw[show k+1-i=(k-i)+1 by omega,List.take_add_one,List.getElem?_drop,show i+(k-i)=k by omega,hx]
    rfl
   simp only [e2,List.append_assoc,List.singleton_append]
theorem z7M (z:Str) (c k:Nat) {x:Nat} {xs:List Nat} (hd:z.cps.toList.drop k=x::xs):subAt z ⟨#[c]⟩ k=true ↔ x=c:=by
 have e:(z.cps.extract k (k+1)).toList=[x]:=by
  rw[Array.toList_extract,List.extract_eq_take_drop,show k+1-k=1 by omega,hd]
  rfl
 unfold subAt
 show (z.cps.extract k (k+1) == #[c])=true ↔ _
 rw[beq_iff_eq,←Array.toList_inj,e]
 simp
theorem z7W (z:Str) (c:Nat):∀(l:List Nat) (k:Nat) (st:Array Nat×Nat),z.cps.toList.drop k=l->k+l.length=z.length->st.1.size<=k->st.2<=k->
  (forIn (List.range' k (l.length+1)) st (StrLaws.occBody z ⟨#[c]⟩ z.length (z.length+1))).run.fst.toList=st.1.toList++cutsF c l k
 | [],k,st,hd,hl,h1,h2=>by
  have hk:k=z.length:=by simpa using hl
  show (forIn [k] st (StrLaws.occBody z ⟨#[c]⟩ z.length (z.length+1))).run.fst.toList=_
  rw[List.forIn_cons]
  unfold StrLaws.occBody
  rw[if_neg (fun h=>by have:=h.1.2;simp [Str.length] at this hk;omega)]
  simp [cutsF]
 | x::xs,k,st,hd,hl,h1,h2=>by
  have hd':z.cps.toList.drop (k+1)=xs:=by rw[←List.tail_drop,hd];rfl
  have hl':k+1+xs.length=z.length:=by rw[List.length_cons] at hl;omega
  show (forIn (k::List.range' (k+1) (xs.length+1)) st (StrLaws.occBody z ⟨#[c]⟩ z.length (z.length+1))).run.fst.toList=_
  rw[List.forIn_cons]
  by_cases c1:x=c
  ·have hb:StrLaws.occBody z ⟨#[c]⟩ z.length (z.length+1) k st=pure (ForInStep.yield (st.fst.push k,k+1)):=by
    unfold StrLaws.occBody
    exact if_pos ⟨⟨⟨by omega,h2⟩,by show k+1<=z.length;omega⟩,(z7M z c k hd).mpr c1⟩
   rw[hb]
   have ih:=z7W z c xs (k+1) (st.fst.push k,k+1) hd' hl' (by simp;omega) (Nat.le_refl _)
   simp only [cutsF,c1,if_true]
   refine Eq.trans ih ?_
   simp
  ·have hb:StrLaws.occBody z ⟨#[c]⟩ z.length (z.length+1) k st=pure (ForInStep.yield (st.fst,st.snd)):=by
    unfold StrLaws.occBody
    exact if_neg fun h=>c1 ((z7M z c k hd).mp h.2)
   rw[hb]
   have ih:=z7W z c xs (k+1) (st.fst,st.snd) hd' hl' (by show st.1.size<=k+1;omega) (by show st.2<=k+1;omega)
   simp only [cutsF,c1,if_false]
   exact ih
theorem z7X (z:Str) (c:Nat):occurrences z ⟨#[c]⟩ 0 z.length (z.length+1)=cutsF c z.cps.toList 0:=by
 rw[StrLaws.occ_eq]
 have:=z7W z c z.cps.toList 0 (#[],0) rfl (by simp [Str.length]) (Nat.le_refl _) (Nat.le_refl _)
 have e:z.length+1-0=z.cps.toList.length+1:=by simp [Str.length]
 rw[e,this]
 simp
theorem y2x (z:Str) (c:Nat) (hc:c<256):Txt.split z ⟨#[c]⟩=(spl c z.cps.toList).map tx:=by
 have main:partsBetween z (occurrences z ⟨#[c]⟩ 0 z.length (z.length+1)) 1=(spl c z.cps.toList).map tx:=by
  rw[z7X]
  unfold partsBetween
  have:=z5f z c z.cps.toList 0 0 rfl (by simp [Str.length]) (Nat.le_refl _)
  obtain⟨h,t,e⟩:=z7N c z.cps.toList
  rw[e] at this ⊢
  simp only [Nat.sub_self,List.take_zero,List.nil_append] at this
  exact this
 have one:cutsF c z.cps.toList 0=[]->(spl c z.cps.toList).map tx=[z]:=fun e=>by
  rw[←main,z7X,e]
  have e3:(z.cps.toList.take z.cps.size)=z.cps.toList:=List.take_of_length_le (by simp)
  simp [partsBetween,z1U,Str.length,e3,z1c]
 unfold Txt.split
 split
 ·rename_i h
  have k1:Builtin.Str.strKind ⟨#[c]⟩=1:=by simp [Builtin.Str.strKind,hc]
  have kz:1<=Builtin.Str.strKind z:=by unfold Builtin.Str.strKind;split <;> (try split) <;> decide
  have lz:z.length=0:=by
   rw[k1,Bool.or_eq_true,decide_eq_true_eq,decide_eq_true_eq] at h
   have e1:(⟨#[c]⟩:Str).length=1:=rfl
   omega
  have ez:z.cps.toList=[]:=List.eq_nil_of_length_eq_zero (by simpa [Str.length] using lz)
  rw[one (by rw[ez];rfl)]
 ·split
  ·rename_i h
   rw[z7X] at h
   rw[one (List.isEmpty_iff.mp h)]
  ·exact main
noncomputable def glu (c:Nat):List (List Nat)->List Nat
 | []=>[]
 | [p]=>p
 | p::q::r=>p++c::glu c (q::r)
theorem y2z {c:Nat}:∀ {p:List Nat},c∉p->∀l,spl c (p++c::l)=p::spl c l
 | [],_,l=>by simp [spl]
 | x::p,h,l=>by
  have h1:x≠c:=fun e=>h (by simp [e])
  have h2:c∉p:=fun e=>h (by simp [e])
  have e:spl c (x::(p++c::l))=if x=c then []::spl c (p++c::l) else match spl c (p++c::l) with
   | h::t=>(x::h)::t
   | []=>[[x]]:=rfl
  rw[List.cons_append,e,if_neg h1,y2z h2 l]
theorem y0y {c:Nat}:∀ {p:List Nat},c∉p->spl c p=[p]
 | [],_=>rfl
 | x::p,h=>by
  have h1:x≠c:=fun e=>h (by simp [e])
  have h2:c∉p:=fun e=>h (by simp [e])
  unfold spl
  rw[if_neg h1,y0y h2]
theorem y2y {c:Nat}:∀ {ps:List (List Nat)},ps≠[]->(∀p∈ps,c∉p)->spl c (glu c ps)=ps
 | [],h,_=>absurd rfl h
 | [p],_,h=>y0y (h p (by simp))
 | p::q::r,_,h=>by
  show spl c (p++c::glu c (q::r))=_
  rw[y2z (h p (by simp)),y2y (by simp) fun x hx=>h x (by simp [hx])]
theorem z4X (g:Array Nat):∀(ps:List Str) (acc:Array Nat),(ps.foldl (fun acc p=>acc++g++p.cps) acc).toList=acc.toList++ps.flatMap fun p=>g.toList++p.cps.toList
 | [],acc=>by simp
 | p::ps,acc=>by
  rw[List.foldl_cons,z4X g ps]
  simp
theorem y4Q (c:Nat):∀ps:List Str,(glued ⟨#[c]⟩ ps).cps.toList=glu c (ps.map fun p=>p.cps.toList)
 | []=>by simp [glued,glu,Str.empty]
 | p::ps=>by
  have e:(glued ⟨#[c]⟩ (p::ps)).cps.toList=p.cps.toList++ps.flatMap fun q=>c::q.cps.toList:=by
   show ((ps.foldl (fun acc q=>acc ++ #[c]++q.cps) p.cps)).toList=_
   rw[z4X]
   simp
  rw[e]
  clear e
  induction ps generalizing p with
  | nil=>simp [glu]
  | cons q ps ih=>
   have:=ih q
   simp only [List.map_cons,glu,List.flatMap_cons] at this ⊢
   rw[←this]
   simp
theorem y4Z:∀m:Nat,0<m->∃ch r,Nat.toDigits 10 m=ch::r/\ch.toNat≠48:=by
 intro m
 induction m using Nat.strongRecOn with
 | _ m ih=>
  intro h0
  by_cases h:m<10
  ·rw[Nat.toDigits_of_lt_base h]
   refine⟨_,[],rfl,?_⟩
   have:∀d:Nat,d<10->0<d->(Nat.digitChar d).toNat≠48:=by decide
   exact this m h h0
  ·have hm:m%10<10:=Nat.mod_lt m (by decide)
   have t:Nat.toDigits 10 (m/10)++Nat.toDigits 10 (m%10)=Nat.toDigits 10 (10*(m/10)+m%10):=Nat.toDigits_append_toDigits (by decide) (by omega) hm
   rw[Nat.div_add_mod] at t
   obtain⟨ch,r,e,ne⟩:=ih (m/10) (by omega) (by omega)
   rw[←t,e]
   exact⟨ch,_,rfl,ne⟩
theorem y1p:∀(k m:Nat),m<10^(k+1)->(Nat.toDigits 10 m).length<=k+1
 | 0,m,h=>by
  rw[Nat.toDigits_of_lt_base (by simpa using h)]
  simp
 | k+1,m,h=>by
  by_cases h1:m<10
  ·rw[Nat.toDigits_of_lt_base h1]
   simp
  ·have hm:m%10<10:=Nat.mod_lt m (by decide)
   have t:Nat.toDigits 10 (m/10)++Nat.toDigits 10 (m%10)=Nat.toDigits 10 (10*(m/10)+m%10):=Nat.toDigits_append_toDigits (by decide) (by omega) hm
   rw[Nat.div_add_mod] at t
   have ih:=y1p k (m/10) (by rw[Nat.pow_succ] at h;omega)
   rw[←t,List.length_append,Nat.toDigits_of_lt_base hm]
   simp
   omega
theorem y5Z {n:Int} (h0:0<=n):∃l:List Nat,Str.ofString (toString n)=tx l/\PySem.NumText.AllDigits l/\l≠[]/\((PySem.NumText.digitsVal l:Nat):Int)=n/\(l[0]?=some 48->l.length=1)/\∀k:Nat,n<10^(k+1)->l.length<=k+1:=by
 obtain⟨m,rfl⟩:=Int.eq_ofNat_of_zero_le h0
 refine⟨(Nat.toDigits 10 m).map Char.toNat,?_,?_,?_,?_,?_,?_⟩
 ·rw[←z1c (Str.ofString _),PySem.W.KIN.signs_num]
 ·intro c hc
  obtain⟨ch,hch,e⟩:=List.mem_map.mp hc
  rw[←e]
  exact PyProof.Rows.digit_range (Nat.isDigit_of_mem_toDigits (by decide) (by decide) hch)
 ·intro e
  have:=List.map_eq_nil_iff.mp e
  have h:=PySem.toDigits_len_ge 10 m
  rw[this] at h
  exact absurd h (by decide)
 ·rw[PySem.W.KIN.val_back]
 ·intro e
  rcases Nat.eq_zero_or_pos m with rfl|hp
  ·rfl
  ·obtain⟨ch,r,e1,ne⟩:=y4Z m hp
   rw[e1] at e
   exact absurd (by simpa using e) ne
 ·intro k hk
  rw[List.length_map]
  refine y1p k m ?_
  have e:((10^(k+1):Nat):Int)=10^(k+1):=by rw[Int.natCast_pow];rfl
  rw[←e] at hk
  exact Int.ofNat_lt.mp hk
end SM
namespace L2
open PySem PySem.Spec PyProof.Rows
noncomputable def Rises (l:List Nat):Prop:=l.Pairwise (· < ·)
theorem Rises.lt {l:List Nat} (h:Rises l) {i k x y:Nat} (hi:l[i]?=some x) (hk:l[k]?=some y) (hik:i<k):x<y:=by
 obtain⟨h1,rfl⟩:=List.getElem?_eq_some_iff.mp hi
 obtain⟨h2,rfl⟩:=List.getElem?_eq_some_iff.mp hk
 exact List.pairwise_iff_getElem.mp h i k h1 h2 hik
theorem z8Q {xs:Array Nat} {j:Nat} (h:Rises xs.toList):∀(f lo hi:Nat),lo<=hi->hi<=xs.size->hi-lo<=f->(∀k x,k<lo->xs[k]?=some x->x<j)->(∀k x,hi<=k->xs[k]?=some x->j<=x)->
  SetTable.below.go xs j f lo hi<=xs.size/\(∀k x,k<SetTable.below.go xs j f lo hi->xs[k]?=some x->x<j)/\∀k x,SetTable.below.go xs j f lo hi<=k->xs[k]?=some x->j<=x
 | 0,lo,hi,h1,h2,h3,a,b=>by
  have:lo=hi:=by omega
  subst this
  exact⟨h2,a,b⟩
 | f+1,lo,hi,h1,h2,h3,a,b=>by
  unfold SetTable.below.go
  split
  ·rename_i hlt
   have hm:(lo+hi)/2<xs.size:=by omega
   have em:xs[(lo+hi)/2]?=some xs[(lo+hi)/2]:=by simp [hm]
   have eg:xs.getD ((lo+hi)/2) j=xs[(lo+hi)/2]:=by simp [Array.getD,hm]
   dsimp only
   rw[eg]
   split
   ·rename_i c
    refine z8Q h f _ hi (by omega) h2 (by omega) (fun k x hk e=>?_) b
    by_cases z:k=(lo+hi)/2
    ·subst z
     rw[em] at e
     cases e
     exact c
    ·exact Nat.lt_trans (h.lt (by rw[Array.getElem?_toList];exact e) (by rw[Array.getElem?_toList];exact em) (by omega)) c
   ·rename_i c
    refine z8Q h f lo _ (by omega) (by omega) (by omega) a (fun k x hk e=>?_)
    by_cases z:k=(lo+hi)/2
    ·subst z
     rw[em] at e
     cases e
     omega
    ·have:=h.lt (by rw[Array.getElem?_toList];exact em) (by rw[Array.getElem?_toList];exact e) (show (lo+hi)/2<k by omega)
     omega
  ·have:lo=hi:=by omega
   subst this
   exact⟨h2,a,b⟩
theorem z4x {xs:Array Nat} (h:Rises xs.toList) (j:Nat):SetTable.below xs j<=xs.size/\(∀k x,k<SetTable.below xs j->xs[k]?=some x->x<j)/\∀k x,SetTable.below xs j<=k->xs[k]?=some x->j<=x:=
 z8Q h xs.size 0 xs.size (Nat.zero_le _) (Nat.le_refl _) (by omega) (fun k x hk=>by omega) fun k x hk e=>by
  have:=(Array.getElem?_eq_some_iff.mp e).1
  omega
theorem y2a {xs:Array Nat} (h:Rises xs.toList) {i x:Nat} (e:xs[i]?=some x):SetTable.below xs (x+1)=i+1:=by
 obtain⟨a,b,c⟩:=z4x h (x+1)
 have hi:=(Array.getElem?_eq_some_iff.mp e).1
 by_cases z1:SetTable.below xs (x+1)<=i
 ·have:=c i x z1 e
  omega
 by_cases z2:i+1<SetTable.below xs (x+1)
 ·have hk:i+1<xs.size:=by omega
  have e2:xs[i+1]?=some xs[i+1]:=by simp [hk]
  have h1:=b (i+1) _ z2 e2
  have h2:=h.lt (by rw[Array.getElem?_toList];exact e) (by rw[Array.getElem?_toList];exact e2) (Nat.lt_succ_self i)
  omega
 omega
theorem y2Z {xs:Array Nat} (h:Rises xs.toList):SetTable.below xs 0=0:=by
 obtain⟨a,b,c⟩:=z4x h 0
 by_cases z:0<SetTable.below xs 0
 ·have hk:0<xs.size:=by omega
  have e2:xs[0]?=some xs[0]:=by simp [hk]
  have:=b 0 _ z e2
  omega
 omega
theorem y4t {xs:Array Nat} (h:Rises xs.toList) {j:Nat} (m:j∈xs.toList):xs[SetTable.below xs j]?=some j:=by
 obtain⟨i,hi,e⟩:=List.mem_iff_getElem.mp m
 have e1:xs[i]?=some j:=by rw[←Array.getElem?_toList,List.getElem?_eq_getElem hi,e]
 obtain⟨a,b,c⟩:=z4x h j
 by_cases z1:i<SetTable.below xs j
 ·have:=b i j z1 e1
  omega
 by_cases z2:SetTable.below xs j=i
 ·rw[z2];exact e1
 have hk:SetTable.below xs j<xs.size:=by
  have:=(Array.getElem?_eq_some_iff.mp e1).1
  omega
 have e2:xs[SetTable.below xs j]?=some xs[SetTable.below xs j]:=by simp [hk]
 have h1:=c _ _ (Nat.le_refl _) e2
 have h2:=h.lt (by rw[Array.getElem?_toList];exact e2) (by rw[Array.getElem?_toList];exact e1) (show SetTable.below xs j<i by omega)
 omega
theorem z8r {xs:Array Nat} (h:Rises xs.toList) {j:Nat} (m:j∉xs.toList):Rises (SetTable.insertAt xs (SetTable.below xs j) j).toList:=by
 obtain⟨a,b,c⟩:=z4x h j
 rw[SetTable.toList_insertAt]
 generalize SetTable.below xs j=p at a b c
 have hb:∀x∈xs.toList.take p,x<j:=fun x hx=>by
  obtain⟨i,hi,e⟩:=List.mem_iff_getElem.mp hx
  rw[List.getElem_take] at e
  rw[List.length_take] at hi
  exact b i x (by omega) (by rw[←Array.getElem?_toList,List.getElem?_eq_getElem (by omega),e])
 have hc:∀x∈xs.toList.drop p,j<x:=fun x hx=>by
  obtain⟨i,hi,e⟩:=List.mem_iff_getElem.mp hx
  rw[List.getElem_drop] at e
  rw[List.length_drop] at hi
  have h1:=c (p+i) x (by omega) (by rw[←Array.getElem?_toList,List.getElem?_eq_getElem (by omega),e])
  have h2:x≠j:=fun z=>m (z▸List.mem_of_mem_drop hx)
  omega
 unfold Rises at h ⊢
 refine List.pairwise_append.mpr ⟨h.sublist (List.take_sublist _ _),List.pairwise_cons.mpr ⟨hc,h.sublist (List.drop_sublist _ _)⟩,fun x hx y hy=>?_⟩
 rcases List.mem_cons.mp hy with rfl|hy
 ·exact hb x hx
 ·exact Nat.lt_trans (hb x hx) (hc y hy)
theorem z8j {t:SetTable} (h:Rises t.place.toList) {j:Nat} (e:∀i,t.slot j≠.live i):j∉t.place.toList:=fun m=>by
 have:=y4t h m
 unfold SetTable.slot at e
 simp [this] at e
theorem z4T {t:SetTable} (h:Rises t.place.toList) {ha:Nat->Int} {z:Int}:∀(f:Nat) (p:SetTable.Probe) (j:Nat) (dm:Option Nat),(∀d,p.dummy=some d->d∉t.place.toList)->SetTable.probe.go t ha z f p=some (.empty j dm)->j∉t.place.toList/\∀d,dm=some d->d∉t.place.toList
 | 0,p,j,dm,_,e=>by simp [SetTable.probe.go] at e
 | f+1,p,j,dm,hp,e=>by
  have adv:∀q:SetTable.Probe,(t.advance q).dummy=q.dummy:=fun q=>by
   unfold SetTable.advance
   split <;> rfl
  unfold SetTable.probe.go at e
  cases es:t.slot p.j with
  | empty=>
   rw[es] at e
   cases e
   exact⟨z8j h (fun i z=>by rw[es] at z;cases z),hp⟩
  | dummy=>
   rw[es] at e
   refine z4T h f _ j dm (fun d hd=>?_) e
   rw[adv] at hd
   cases hd
   exact z8j h fun i z=>by rw[es] at z;cases z
  | live i=>
   rw[es] at e
   dsimp only at e
   split at e
   ·cases e
   ·exact z4T h f _ j dm (fun d hd=>hp d (by rw[adv] at hd;exact hd)) e
theorem z8F {t:SetTable} (h:Rises t.place.toList) {z:Int} {j:Nat} {b:Bool} (e:t.freeSlot z=some (j,b)):j∉t.place.toList:=by
 unfold SetTable.freeSlot at e
 split at e
 ·rename_i jj dm hq
  injection e with e
  injection e with e1 e2
  obtain⟨a,c⟩:=z4T h _ _ _ _ (fun d hd=>by simp [SetTable.probeStart] at hd) hq
  subst e1
  cases dm with
  | none=>exact a
  | some d=>exact c d rfl
 ·cases e
noncomputable def TabOk (led:Bool) (t:SetTable):Prop:=t.led=led/\(t.plain=true->Rises t.place.toList)
theorem z3o {led:Bool} {t:SetTable} {n:Nat} (h:TabOk led t):TabOk led (t.standIn n):=⟨h.1,fun z=>by simp [SetTable.standIn] at z⟩
theorem y7p {led:Bool} {t:SetTable} {n:Nat} (h:TabOk led t):TabOk led (t.orStandIn n):=by
 unfold SetTable.orStandIn
 split
 ·exact h
 ·exact z3o h
theorem y6l {led:Bool} {t:SetTable} (h:TabOk led t) (es:Array (Int×Value)) (z:Int) (x:Value):TabOk led (layNew t es z x).2.1:=by
 unfold layNew
 split
 ·rename_i j b e
  refine y7p ⟨h.1,fun hp=>?_⟩
  exact z8r (h.2 hp) (z8F (h.2 hp) e)
 ·exact z3o h
theorem y2H (n:Nat) (f:Nat->Option Nat):Rises (((List.range n).filterMap fun j=>(f j).map (j,·)).map (·.1)):=by
 have:List.Sublist (((List.range n).filterMap fun j=>(f j).map (j,·)).map (·.1)) (List.range n):=by
  generalize List.range n=l
  induction l with
  | nil=>simp
  | cons a l ih=>
   cases e:f a with
   | none=>simp only [List.filterMap_cons,e,Option.map_none];exact ih.trans (List.sublist_cons_self _ _)
   | some v=>simp only [List.filterMap_cons,e,Option.map_some,List.map_cons];exact ih.cons₂ a
 exact (List.pairwise_lt_range (n:=n)).sublist this
theorem y2i {led:Bool} {t:SetTable} (h:TabOk led t) (es:Array (Int×Value)) (n:Nat):TabOk led (relayAll t es n).2.1:=by
 unfold relayAll
 split
 ·rename_i t' order e
  dsimp only
  split
  ·unfold SetTable.relaid SetTable.laid at e
   simp only [bind,Option.bind] at e
   split at e
   ·cases e
   ·rename_i ow _
    cases e
    refine⟨h.1,fun _=>?_⟩
    dsimp only
    exact y2H _ _
  ·exact z3o h
 ·exact z3o h
end L2
namespace L2
open PySem PySem.Spec PyProof.Rows
section
variable {prog:Program} {w:World}
noncomputable def ledOf (w:World):Bool:=!w.params.followText "set-order"
noncomputable def SetG (prog:Program) (w:World) (h:Heap) (a:Addr) (S:Int->Bool) (n:Nat):Prop:=
 ∃o es ep t,h.get? a=some o/\o.ExactSet/\o.data=.set es ep t/\ElemsOf (intKind prog w) es.toList/\(∀k,S k=true ↔ ∃e∈es.toList,(intKind prog w).is k e.2=true)/\es.size<scanBound/\t.fits es.size=true/\es.size=n/\TabOk (ledOf w) t
theorem SetG.keep {h h':Heap} {a:Addr} {S:Int->Bool} {n:Nat} (x:SetG prog w h a S n) (k:∀o,h.get? a=some o->h'.get? a=some o):SetG prog w h' a S n:=
 let ⟨o,es,ep,t,e,r⟩:=x
 ⟨o,es,ep,t,k _ e,r⟩
theorem SetG.congr {h:Heap} {a:Addr} {S S':Int->Bool} {n n':Nat} (x:SetG prog w h a S n) (e:∀k,S k=S' k) (en:n=n'):SetG prog w h a S' n':=by
 have:S=S':=funext e
 subst this en
 exact x
variable {A:Around} {E:Value->Shared->Prop} {s:Shared}
theorem z6c {h:Heap} {a:Addr} {o:Obj} {es:Array (Int×Value)} {ep:Nat} {t:SetTable} (ho:h.get? a=some o) (hex:o.ExactSet) (hd:o.data=.set es ep t) {es':Array (Int×Value)} {t':SetTable} {S':Int->Bool}
  (hel:ElemsOf (intKind prog w) es'.toList) (hmem:∀k,S' k=true ↔ ∃e∈es'.toList,(intKind prog w).is k e.2=true) (hb:es'.size<scanBound) (hf:t'.fits es'.size=true) (ht:TabOk (ledOf w) t') :
  (h.update a (Obj.putSet es' t')).get? a=some { o with data:=.set es' (ep+1) t' }/\SetG prog w (h.update a (Obj.putSet es' t')) a S' es'.size:=by
 have hg:=(SetOf_store (knd:=intKind prog w) ho hex hd hel hmem hb hf).1
 exact⟨hg,_,es',ep+1,t',hg,hex,rfl,hel,hmem,hb,hf,rfl,ht⟩
theorem y5I {a:Addr} {S:Int->Bool} {n:Nat} {k:Int} {tk:Tok} {Q:Bool->Shared->Prop} (hS:SetG prog w s.heap a S n) (hroom:n+1<scanBound)
  (h:∀h' b,Heap.SameBut a s.heap h'->SetG prog w h' a (fun k'=>S k' || decide (k'=k)) (if S k then n else n+1)->Q b { s with heap:=h' }) :
  wpAny (model prog w) A (setAddHashed a (.int k tk) ((intKind prog w).hash k)) Q E s:=by
 have hkey:(intKind prog w).is k (.int k tk)=true:=intKind_is _ _ _ _
 have hsc:(Value.int k tk).scannable=true:=rfl
 obtain⟨o,es,ep,t,ho,hex,hd,hel,hmem,hb,hf,rfl,ht⟩:=hS
 unfold setAddHashed setAddHashedIn
 refine wpAny_holding (wpAny_bind (wpAny_setState_of ho hd hf ?_))
 dsimp only
 rw[byScan_of hsc hb hel,if_pos rfl]
 unfold setAddByScan
 refine wpAny_bind (wpAny_bind (wpAny_rule (wpAny_bind (wpAny_setScan_of hkey ho hd hf hel ?_))))
 cases hr:List.findIdx? (fun e=>(intKind prog w).is k e.2) es.toList with
 | some j=>
  obtain⟨hj,hpj,_⟩:=List.findIdx?_eq_some_iff_getElem.mp hr
  have hSk:S k=true:=(hmem k).mpr ⟨es.toList[j],List.getElem_mem hj,hpj⟩
  refine wpAny_pure (wpAny_pure ?_)
  have e:s = { s with heap:=s.heap }:=by cases s;rfl
  rw[e]
  refine h s.heap _ (Heap.SameBut.refl a s.heap) ⟨o,es,ep,t,ho,hex,hd,hel,fun k'=>?_,hb,hf,by rw[if_pos hSk],ht⟩
  rw[Bool.or_eq_true,decide_eq_true_eq,←hmem k']
  exact⟨fun z=>z.elim id fun z=>z▸hSk,.inl⟩
 | none=>
  have hSk:¬S k=true:=fun z=>by
   obtain⟨e,he,hp⟩:=(hmem k).mp z
   have:=List.findIdx?_eq_none_iff.mp hr e he
   rw[hp] at this
   cases this
  have hperm:=layNew_perm t es ((intKind prog w).hash k) (.int k tk)
  have hfits:=layNew_fits t es ((intKind prog w).hash k) (.int k tk)
  have htab:=y6l ht es ((intKind prog w).hash k) (.int k tk)
  dsimp only
  generalize layNew t es ((intKind prog w).hash k) (.int k tk)=L at hperm hfits htab ⊢
  obtain⟨es1,t1,wd,gave⟩:=L
  dsimp only at hperm hfits htab ⊢
  rw[Array.toList_push] at hperm
  have hel1:ElemsOf (intKind prog w) es1.toList:=(hel.push hkey hsc).perm hperm
  have hmem1:∀k',(S k' || decide (k'=k))=true ↔ ∃e∈es1.toList,(intKind prog w).is k' e.2=true:=mem_push_iff hkey hmem hperm
  have hsz1:es1.size=es.size+1:=by rw[←Array.length_toList,hperm.length_eq,List.length_append,Array.length_toList];rfl
  have hb1:es1.size<scanBound:=by omega
  have fin:∀h' b,Heap.SameBut a s.heap h'->SetG prog w h' a (fun k'=>S k' || decide (k'=k)) es1.size->Q b { s with heap:=h' }:=fun h' b hsb hS'=>h h' b hsb (by rw[if_neg hSk,←hsz1];exact hS')
  have hby:hashByValue 8 (.int k tk)=pure true:=hashByValue_scannable 8 hsc
  refine wpAny_bind ?_
  have g1:∀(b:Bool) (s₁:Shared) (Q':Unit->Shared->Prop),Q' () s₁->wpAny (model prog w) A (match b with|true=>rule "set.scan.the-table-gave-way" | false=>pure ()) Q' E s₁:=fun b s₁ Q' hq=>by cases b <;> first|exact wpAny_pure hq|exact wpAny_rule hq
  refine g1 gave _ _ ?_
  have tail:∀t2:SetTable,t2.fits es1.size=true->TabOk (ledOf w) t2->wpAny (model prog w) A (do
    storeSet a es1 t2
    if (!wd && t2.tooFull)=true then do
      (match (relayAll t2 es1 (SetTable.grown es1.size)).2.2 with|true=>rule "set.scan.the-table-gave-way" | false=>pure ())
      storeSet a (relayAll t2 es1 (SetTable.grown es1.size)).1 (relayAll t2 es1 (SetTable.grown es1.size)).2.1
      pure (some true)
     else pure (some true)) (fun (r:Option Bool) s'=>wpAny (model prog w) A (match r with|some added=>pure added|none=>setAddHashedIn a (.int k tk) ((intKind prog w).hash k) 99999) Q E s') E s:=by
   intro t2 hf2 ht2
   obtain⟨ho1,hS1⟩:=z6c ho hex hd hel1 hmem1 hb1 hf2 ht2
   have hsb1:=Heap.SameBut.update s.heap a (Obj.putSet es1 t2)
   refine wpAny_bind (wpAny_storeSet_of ho hd ?_ (fits_of_scanBound hb1))
   split
   ·have hp:=relayAll_perm t2 es1 (SetTable.grown es1.size)
    have hfr:=relayAll_fits t2 es1 (SetTable.grown es1.size)
    have htr:=y2i ht2 es1 (SetTable.grown es1.size)
    generalize relayAll t2 es1 (SetTable.grown es1.size)=Rl at hp hfr htr ⊢
    obtain⟨es2,t3,gave2⟩:=Rl
    dsimp only at hp hfr htr ⊢
    have hsz:es2.size=es1.size:=by rw[←Array.length_toList,hp.length_eq,Array.length_toList]
    have hb2:es2.size<scanBound:=by omega
    refine wpAny_bind (g1 _ _ _ (wpAny_bind (wpAny_storeSet_of ho1 rfl ?_ (fits_of_scanBound hb2))))
    obtain⟨_,hS2⟩:=z6c ho1 hex rfl (hel1.perm hp) (fun k'=>(hmem1 k').trans ⟨fun⟨e,he,q⟩=>⟨e,hp.mem_iff.mpr he,q⟩,fun⟨e,he,q⟩=>⟨e,hp.mem_iff.mp he,q⟩⟩) hb2 hfr htr
    rw[hsz] at hS2
    exact wpAny_pure (wpAny_pure (fin _ _ (hsb1.trans (Heap.SameBut.update _ a _)) hS2))
   ·exact wpAny_pure (wpAny_pure (fin _ _ hsb1 hS1))
  split
  ·refine wpAny_bind ?_
   rw[hby]
   refine wpAny_pure ?_
   refine tail _ ?_ ?_
   ·exact hfits
   ·exact htab
  ·refine wpAny_bind (wpAny_pure ?_)
   exact tail _ hfits htab
end
end L2
namespace L2
open PySem PySem.Spec PyProof.Rows
section
variable {prog:Program} {w:World} {A:Around}
theorem y3J {R:Result->Shared->Prop} {I:Addr} {fp wr:List Addr} {G:Array GenState->Array GenState->Prop} {n:Nat} {P:Nat->Value->Prop} {St:Nat->Shared->Prop} (W:WalksS prog w A.in1 I fp wr G n P St) (S:Addr) (hSf:S∉fp)
  (val:Nat->Int) (hval:∀i v,P i v->∃t,v=.int (val i) t) (hb:n+1<scanBound):∀(k i:Nat) (s:Shared),n-i=k->i<=n->St i s->
   SetG prog w s.heap S (fun k'=>(firstMet val i).any (· == k')) (firstMet val i).length->
   (∀s',Moved (S::wr) G s s'->SetG prog w s'.heap S (fun k'=>(firstMet val n).any (· == k')) (firstMet val n).length->R (.ok (.ret .none)) s')->
   codeAny (model prog w) A (.builtin "set.update.loop" ⟨[.ref S,.ref I],[]⟩) R s:=by
 have hSw:S∉wr:=fun h=>hSf (W.sub _ h)
 have hsub:∀b∈wr,b∈S::wr:=fun b hb=>List.mem_cons_of_mem _ hb
 intro k
 induction k with
 | zero=>
  intro i s hk hi hst hS hR
  obtain rfl:i=n:=by omega
  refine codeAny_builtin PyProof.Rows.F.entry_set_update_loop ?_
  rw[Around.under_plainId PyProof.Rows.F.plain_set_update_loop _]
  refine wpAny_bind (m:=pyNext (.ref I)) (W.done s _ _ hst fun s' hm=>?_)
  exact wpAny_pure (hR s' (hm.mono hsub) (hS.keep fun o e=>hm.heap S _ hSw e))
 | succ k ih=>
  intro i s hk hi hst hS hR
  have hlt:i<n:=by omega
  refine codeAny_builtin PyProof.Rows.F.entry_set_update_loop ?_
  rw[Around.under_plainId PyProof.Rows.F.plain_set_update_loop _]
  refine wpAny_bind (m:=pyNext (.ref I)) (W.item i s _ _ hlt hst fun v s' hP hst' hm=>?_)
  obtain⟨t,rfl⟩:=hval i v hP
  have hS':=hS.keep fun o e=>hm.heap S _ hSw e
  have hroom:(firstMet val i).length+1<scanBound:=by have:=firstMet_length_le val i;omega
  refine wpAny_bind (m:=holding [Value.int (val i) t] (setAdd S (.int (val i) t))) (wpAny_holding ?_)
  unfold setAdd
  refine wpAny_holding (wpAny_bind ((intKind prog w).pyHash (k:=val i) (intKind_is _ _ _ _) ?_))
  refine y5I (s:={ s' with toks:=s'.toks+1 }) hS' hroom fun h' b hsb hS2=>?_
  have hSi:SetG prog w h' S (fun k'=>(firstMet val (i+1)).any (· == k')) (firstMet val (i+1)).length:=hS2.congr (fun k'=>by rw[firstMet_succ,step_any]) (by rw[firstMet_succ,step_length])
  refine wpAny_pure ⟨plainId_quiet PyProof.Rows.F.plain_set_update_loop _,ih (i+1) _ (by omega) hlt (W.frame _ s' _ _ hst' (Nat.le_succ _) fun b hb o e=>?_) hSi fun s'' hm'' hS''=>?_⟩
  ·rw[hsb.2 b (fun h:b=S=>hSf (by rw[←h];exact hb))];exact e
  ·refine hR s'' (Moved.trans W.gtrans ((hm.mono hsub).then_heap (Nat.le_succ _) fun b o hb e=>?_) hm'') hS''
   rw[hsb.2 b (fun h:b=S=>hb (by rw[h];exact List.mem_cons_self))];exact e
theorem y5d {a:Value} {E:Value->Shared->Prop} {s:Shared} {Q₁:Value->Shared->Prop}
  (h:Q₁ (.ref s.heap.objs.size) { s with heap:=s.heap.push { cls:=.type "set",dict:=none,data:=.set #[] 0 (.fresh 0 0 (ledOf w)) } }) :
  codeAny (model prog w) A (.call (.builtin "set.__new__") ⟨[.type "set",a],[]⟩) (wants Q₁ E) s:=by
 refine codeAny_of_tree ?_
 refine wpAny_bind (m:=checkBuiltinCall "set.__new__" ⟨[.type "set",a],[]⟩) (wpAny_of_eq (PySem.F.newCall_set_1 a) (wpAny_pure ⟨plainId_quiet PySem.F.plain_set_new _,codeAny_builtin PySem.F.entry_set_new ?_⟩))
 rw[Around.under_plainId PySem.F.plain_set_new _]
 unfold Builtin.«set.__new__» Builtin.Frozenset.newClass
 have hsub:=sub_set_self
 obtain⟨hp,g,d,tk,os⟩:=s
 dsimp only
 wp_walk
 refine wpAny_askSetting (wpAny_pure ?_)
 dsimp only
 simp only [newObj]
 refine wpAny_bind (wpAny_alloc (wpAny_pure ?_))
 exact wpAny_pure h
end
end L2
namespace L2
open PySem PySem.Spec PyProof.Rows
section
variable {prog:Program} {w:World} {A:Around} {E:Value->Shared->Prop} {s:Shared}
theorem y4A {l:Addr} {items:Array Value} {ns:List Int} {s1:Shared} {S:Addr} {R:Result->Shared->Prop} (hh:A.handled=none) (hl:s1.heap.IsList l items) (hi:IntsAre items.toList ns) (hb:items.size+1<scanBound) (hlS:l≠S)
  (hS:s1.heap.get? S=some { cls:=.type "set",dict:=none,data:=.set #[] 0 (.fresh 0 0 (ledOf w)) })
  (h:∀(h':Heap) (tk:Nat),SetG prog w h' S (fun k'=>(firstMet (fun i=>ns.getD i 0) items.size).any (· == k')) (firstMet (fun i=>ns.getD i 0) items.size).length->
   (∀b o,b≠S->s1.heap.get? b=some o->h'.get? b=some o)->R (.ok (.ret .none)) { s1 with heap:=h',toks:=tk }) :
  wpAny (model prog w) A.in1 (Builtin.«set.__init__» ⟨[.ref S,.ref l],[]⟩) (fun fin s'=>match fin with | .done f=>R (.ok f) s' | .again c'=>c'.quiet=true/\codeAny (model prog w) A c' R s') (fun e s'=>R (.error e) s') s1:=by
 have hT:s1.TypeIs (.ref S) "set" :=⟨_,hS,rfl⟩
 have hS0:SetG prog w s1.heap S (fun _=>false) 0:=⟨_,#[],0,_,hS,⟨rfl,rfl,rfl⟩,rfl,(fun e he=>by simp at he),(fun k=>by simp),by decide,rfl,rfl,rfl,fun _=>by simp [SetTable.fresh,Rises]⟩
 obtain⟨ol,hol,hcl,nl,hdl⟩:=id hl
 obtain⟨ocls,odict,odata,oslots⟩:=ol
 simp only at hcl hdl
 subst hcl hdl
 have hsls:=PySem.F.sub_list_set
 have hslf:=PySem.F.sub_list_frozenset
 have hne:(Value.type "list" == Value.type "dict")=false:=by decide
 have hneS:S≠s1.heap.objs.size:=Nat.ne_of_lt (Heap.lt_size hS)
 have hneI:l≠s1.heap.objs.size:=Nat.ne_of_lt (Heap.lt_size hol)
 have hh3:A.in1.in1.handled=none:=by simp [hh]
 have hval:∀(i:Nat) (v:Value),items[i]?=some v->∃t,v=.int ((fun i=>ns.getD i 0) i) t:=fun i v hv=>IntsAre.int_at hi i v (by rw[Array.getElem?_toList];exact hv)
 have hSf:S∉[s1.heap.objs.size,l]:=by
  simp only [List.mem_cons,List.not_mem_nil,or_false,not_or]
  exact⟨hneS,fun z=>hlS z.symm⟩
 unfold Builtin.«set.__init__» noKeywords Builtin.Frozenset.updateFrom
 generalize hPI:pyIter=PI
 wp_walk
 subst hPI
 refine wpAny_pyIter_list hl ?_
 refine wpAny_bind (wpAny_runValue ?_)
 refine y3J ((Walks.list hh3 _ l hneI items).toS) S hSf (fun i=>ns.getD i 0) hval hb (items.size-0) 0 _ (by omega) (Nat.zero_le _) ⟨⟨_,Heap.get?_push_size _ rfl,rfl,rfl⟩,hl.push _⟩ (hS0.keep fun o e=>Heap.get?_push_of_some _ e) ?_
 intro s' hm hS'
 rw[Moved.eq_with hm]
 refine wpAny_pure (wpAny_pure (h _ _ hS' fun b o hb e=>?_))
 refine hm.heap b o (fun z=>?_) (Heap.get?_push_of_some _ e)
 rcases List.mem_cons.mp z with z|z
 ·exact hb z
 ·exact absurd (Heap.lt_size e) (by rw[List.mem_singleton.mp z];exact Nat.lt_irrefl _)
set_option maxHeartbeats 3200000 in
theorem y4q {l:Addr} {items:Array Value} {ns:List Int} {Q:Value->Shared->Prop} (hh:A.handled=none) (hl:s.heap.IsList l items) (hi:IntsAre items.toList ns) (hb:items.size+1<scanBound)
  (h:∀(h':Heap) (tk:Nat),SetG prog w h' s.heap.objs.size (fun k'=>(firstMet (fun i=>ns.getD i 0) items.size).any (· == k')) (firstMet (fun i=>ns.getD i 0) items.size).length->
   (∀b o,s.heap.get? b=some o->h'.get? b=some o)->Q (.ref s.heap.objs.size) { s with heap:=h',toks:=tk }) :
  wpAny (model prog w) A (call (.type "set") [.ref l]) Q E s:=by
 obtain⟨c,tl,hmro⟩:=PySem.F.called_set.mro
 have hmade:=PySem.F.called_set.made
 have hsub:=PySem.F.called_set.sub
 have h1:=PySem.F.called_set.notType
 have h2:=PySem.F.called_set.canCreate
 have hct:=PySem.F.typeCall_set_1 (.ref l)
 refine wpAny_call (codeAny_of_tree (wpAny_pure ⟨Code.quiet_builtin _ (by decide +kernel),codeAny_builtin PySem.F.entry_type_call ?_⟩))
 rw[Around.under_plain (weight_type_call_type "set" [.ref l] []) rfl]
 repeat (any_goals (first|assumption|wp_step))
 refine codeAny_mono (y5d (a:=.ref l) (E:=E) (Q₁:=fun obj s₁=>obj=.ref s.heap.objs.size/\s₁ = { s with heap:=s.heap.push { cls:=.type "set",dict:=none,data:=.set #[] 0 (.fresh 0 0 (ledOf w)) } }) ⟨rfl,rfl⟩) fun r s₁ hr=>?_
 match r,hr with
 | .error e,hr=>exact hr
 | .ok .next,hr=>exact hr.elim
 | .ok .brk,hr=>exact hr.elim
 | .ok .cont,hr=>exact hr.elim
 | .ok (.ret obj),hr=>
  obtain⟨rfl,rfl⟩:=hr
  have hS:(s.heap.push { cls:=.type "set",dict:=none,data:=.set #[] 0 (.fresh 0 0 (ledOf w)) }).get? s.heap.objs.size=some { cls:=.type "set",dict:=none,data:=.set #[] 0 (.fresh 0 0 (ledOf w)) }:=Heap.get?_push_size _ rfl
  have hT:Shared.TypeIs { s with heap:=s.heap.push { cls:=.type "set",dict:=none,data:=.set #[] 0 (.fresh 0 0 (ledOf w)) } } (.ref s.heap.objs.size) "set" :=⟨_,hS,rfl⟩
  have hli:=PySem.F.called_set.init.lookup
  have hbi:=PySem.F.called_set.init.bind (.ref s.heap.objs.size)
  repeat (any_goals (first|assumption|wp_step))
  have hlt:l<s.heap.objs.size:=by obtain⟨ol,hol,_⟩:=hl;exact Heap.lt_size hol
  refine codeAny_mono (codeAny_call_builtin (R:=wants (fun r s₂=>r=.none/\∃h' tk,s₂ = { s with heap:=h',toks:=tk }/\SetG prog w h' s.heap.objs.size (fun k'=>(firstMet (fun i=>ns.getD i 0) items.size).any (· == k')) (firstMet (fun i=>ns.getD i 0) items.size).length/\
   (∀b o,s.heap.get? b=some o->h'.get? b=some o)) E) PySem.F.called_set.init.plain PySem.F.entry_set_init (check_set_init_1 hT ?_)) fun r₂ s₂ hr₂=>?_
  ·refine y4A (by simp [hh]) (hl.push _) hi hb (Nat.ne_of_lt hlt) hS fun h' tk hS' hk=>⟨rfl,h',tk,rfl,hS',fun b o e=>hk b o (Nat.ne_of_lt (Heap.lt_size e)) (Heap.get?_push_of_some _ e)⟩
  ·match r₂,hr₂ with
   | .error e,hr=>exact hr
   | .ok .next,hr=>exact hr.elim
   | .ok .brk,hr=>exact hr.elim
   | .ok .cont,hr=>exact hr.elim
   | .ok (.ret r),hr=>
    obtain⟨rfl,h',tk,rfl,hS',hk'⟩:=hr
    repeat (any_goals (first|assumption|wp_step))
    exact h _ _ hS' hk'
end
end L2
namespace L2
open PySem PySem.Spec PyProof.Rows
theorem z0e:Slot "set_iterator" "__next__" "set_iterator.__next__" :=
 .of (owner:= "set_iterator") (n:= "__next__") (by rw[typeLookup_type,builtinLookup_eq_fast];kernel_rfl) (by decide +kernel) (by decide +kernel) (by decide +kernel) (by first|exact .inl (by decide +kernel)|exact .inr (by decide +kernel)) (by rw[isSubtype_type];kernel_rfl)
theorem z4f:Slot "set_iterator" "__iter__" "set_iterator.__iter__" :=
 .of (owner:= "set_iterator") (n:= "__iter__") (by rw[typeLookup_type,builtinLookup_eq_fast];kernel_rfl) (by decide +kernel) (by decide +kernel) (by decide +kernel) (by first|exact .inl (by decide +kernel)|exact .inr (by decide +kernel)) (by rw[isSubtype_type];kernel_rfl)
theorem z1n:entryFor table "set_iterator.__next__" = some Builtin.«set_iterator.__next__»:=entryFor_of_tree (by kernel_rfl)
theorem z7P:entryFor table "set_iterator.__iter__" = some Builtin.«dict_keyiterator.__iter__»:=entryFor_alias (id':= "dict_keyiterator.__iter__") (by kernel_rfl) rfl (by decide +kernel) (by kernel_rfl)
theorem z8l:entryFor table "set.__iter__" = some Builtin.«frozenset.__iter__»:=entryFor_alias (id':= "frozenset.__iter__") (by kernel_rfl) rfl (by decide +kernel) (by kernel_rfl)
theorem y1Q:Manifest.owners.lookup (String.ofList ['r','o','t','a','r','e','t','i','_','t','e','s'].reverse)=some Manifest.sig_set_iterator:=by kernel_rfl
theorem z2B (a:Value):argsOk "set_iterator.__next__" ⟨[a],[]⟩:=by
 unfold argsOk;rw[signature?_of (id:= "set_iterator.__next__") (n:=['_','_','t','x','e','n','_','_']) (o:=['r','o','t','a','r','e','t','i','_','t','e','s']) (by kernel_rfl) y1Q];kernel_rfl
theorem z8m (a:Value):argsOk "set_iterator.__iter__" ⟨[a],[]⟩:=by
 unfold argsOk;rw[signature?_of (id:= "set_iterator.__iter__") (n:=['_','_','r','e','t','i','_','_']) (o:=['r','o','t','a','r','e','t','i','_','t','e','s']) (by kernel_rfl) y1Q];kernel_rfl
theorem z4Z {α:Type}:∀ {l:List α} {i:Nat} (h:i<l.length),List.Perm (l[i]::l.eraseIdx i) l
 | a::l,0,_=>.refl _
 | a::l,i+1,h=>by
  have ih:=z4Z (l:=l) (i:=i) (by simpa using h)
  simp only [List.getElem_cons_succ,List.eraseIdx_cons_succ]
  exact (List.Perm.swap _ _ _).trans (ih.cons a)
theorem y3X {α:Type} (nx:Nat->Nat):∀(f k:Nat) (left:List α) (out:Array α),left.length=f->List.Perm (pickOrder.go nx f k left out).toList (out.toList++left)
 | 0,k,left,out,h=>by
  have:left=[]:=List.eq_nil_of_length_eq_zero h
  subst this
  simp [pickOrder.go]
 | f+1,k,left,out,h=>by
  have hl:nx k%left.length<left.length:=Nat.mod_lt _ (by omega)
  unfold pickOrder.go
  rw[List.getElem?_eq_getElem hl]
  dsimp only
  refine (y3X nx f (k+1) _ _ (by rw[List.length_eraseIdx,if_pos hl];omega)).trans ?_
  rw[Array.toList_push,List.append_assoc]
  refine List.Perm.append_left _ ?_
  exact (z4Z hl)
theorem z5Z {α:Type} (nx:Nat->Nat) (xs:Array α):List.Perm (pickOrder nx xs).toList xs.toList:=by
 have:=y3X nx xs.size 0 xs.toList #[] (by simp)
 simpa [pickOrder] using this
section
variable {prog:Program} {w:World} {A:Around} {E:Value->Shared->Prop}
theorem z9O {α:Type}:∀(n:Nat) (xs:List α) (s:Shared) {Q:List α->Shared->Prop},xs.length=n->(∀l d',List.Perm l xs->Q l { s with drawn:=d' })->wpAny (model prog w) A (drawOrder n xs) Q E s
 | 0,xs,s,Q,hl,h=>by
  have:xs=[]:=List.eq_nil_of_length_eq_zero hl
  subst this
  exact wpAny_pure (h [] s.drawn (.refl _))
 | n+1,[],s,Q,hl,h=>by simp at hl
 | n+1,x::xs,s,Q,hl,h=>by
  unfold drawOrder
  refine wpAny_bind (m:=choose .order (x::xs).length) ?_
  intro Γ p hΓ
  refine⟨by simp,?_⟩
  have hi:(model prog w).w.draws .order (s.drawn.get .order)%(x::xs).length<(x::xs).length:=Nat.mod_lt _ (by simp)
  generalize (model prog w).w.draws .order (s.drawn.get .order)%(x::xs).length=i at hi
  show wpAny (model prog w) A _ _ _ _
  rw[List.getElem?_eq_getElem hi]
  refine wpAny_bind (z9O n _ _ (by rw[List.length_eraseIdx,if_pos hi];omega) fun l d' hp=>?_)
  refine wpAny_pure (h _ d' ?_)
  exact (hp.cons _).trans (z4Z hi)
end
end L2
namespace L2
open PySem PySem.Spec PyProof.Rows
noncomputable def SetAt (h:Heap) (S:Addr) (es:Array (Int×Value)) (ep:Nat) (t:SetTable):Prop:=∃o,h.get? S=some o/\o.ExactSet/\o.data=.set es ep t
theorem SetAt.keep {h h':Heap} {S:Addr} {es:Array (Int×Value)} {ep:Nat} {t:SetTable} (x:SetAt h S es ep t) (k:∀o,h.get? S=some o->h'.get? S=some o):SetAt h' S es ep t:=let ⟨o,e,r⟩:=x;⟨o,k _ e,r⟩
noncomputable def SetIt (h:Heap) (I:Addr) (first:Value) (i:Nat) (S:Addr) (n ep:Nat):Prop:=∃o,h.get? I=some o/\o.cls=.type "set_iterator" /\o.data=.fields #[first,.int i 0,.ref S,.int n 0,.int ep 0]
theorem SetIt.keep {h h':Heap} {I:Addr} {first:Value} {i:Nat} {S:Addr} {n ep:Nat} (x:SetIt h I first i S n ep) (k:∀o,h.get? I=some o->h'.get? I=some o):SetIt h' I first i S n ep:=let ⟨o,e,r⟩:=x;⟨o,k _ e,r⟩
theorem SetIt.typeIs {s:Shared} {I:Addr} {first:Value} {i:Nat} {S:Addr} {n ep:Nat} (x:SetIt s.heap I first i S n ep):s.TypeIs (.ref I) "set_iterator" :=let ⟨o,e,c,_⟩:=x;⟨o,e,c⟩
section
variable {prog:Program} {w:World} {A:Around} {E:Value->Shared->Prop} {s:Shared} {I S:Addr} {i ep slot:Nat} {es:Array (Int×Value)} {t:SetTable}
theorem y0A {first:Value} {n:Nat} {Q:Value->Shared->Prop} (hit:SetIt s.heap I first i S n ep) (h:Q (.ref I) s):wpAny (model prog w) A (pyIter (.ref I)) Q E s:=by
 refine wpAny_pyIter_slot hit.typeIs z4f (wpAny_call_entry z4f hit.typeIs z7P ?_ (z8m _))
 show wpAny _ _ (ret (.ref I)) _ _ s
 exact wpAny_pure ⟨_,rfl, "set_iterator",_,hit.typeIs,z0e.lookup,h⟩
theorem y3G {x:Value} {nx:Nat} {Q:Option Value->Shared->Prop} (hit:SetIt s.heap I (.int slot 0) i S es.size ep) (hs:SetAt s.heap S es ep t) (hf:t.fits es.size=true)
  (hx:∀(A:Around) (E:Value->Shared->Prop) (Q:Option (Value×Nat)->Shared->Prop),Q (some (x,nx)) s->wpAny (model prog w) A (setNext S slot i ep) Q E s)
  (hQ:∀h',SetIt h' I (.int nx 0) (i+1) S es.size ep->Heap.SameBut I s.heap h'->Q (some x) { s with heap:=h' }):wpAny (model prog w) A (pyNext (.ref I)) Q E s:=by
 obtain⟨o,ho,hc,hd⟩:=id hit
 obtain⟨oS,hoS,hex,hdS⟩:=id hs
 unfold pyNext
 refine wpAny_bind (wpAny_attempt (wpAny_callSpecial?_slot (name:=Str.ofString "__next__") hit.typeIs z0e (wpAny_call_entry z0e hit.typeIs z1n ?_ (z2B _))))
 unfold Builtin.«set_iterator.__next__»
 refine wpAny_bind (wpAny_pure ?_)
 refine wpAny_bind (wpAny_fieldsOf ho hd ?_)
 dsimp only
 unfold setEntries
 refine wpAny_bind (wpAny_bind (wpAny_setState_of hoS hdS hf (wpAny_pure ?_)))
 rw[if_neg (by simp)]
 refine wpAny_bind (hx _ _ _ ?_)
 dsimp only
 refine wpAny_bind (wpAny_setField ho hd (by simp) ?_)
 have ho2:=Heap.get?_update_self (Obj.mapFields (·.setIfInBounds 0 (rawInt nx))) ho (Obj.isFreed_of_fields (Obj.data_mapFields hd _))
 have hd2:=Obj.data_mapFields hd (·.setIfInBounds 0 (rawInt nx))
 refine wpAny_bind (wpAny_setField ho2 hd2 (by simp) ?_)
 have ho3:=Heap.get?_update_self (Obj.mapFields (·.setIfInBounds 1 (rawInt ((i:Int)+1)))) ho2 (Obj.isFreed_of_fields (Obj.data_mapFields hd2 _))
 have hd3:=Obj.data_mapFields hd2 (·.setIfInBounds 1 (rawInt ((i:Int)+1)))
 exact wpAny_pure ⟨_,rfl,wpAny_pure (hQ _ ⟨_,ho3,(Obj.cls_mapFields ..).trans ((Obj.cls_mapFields ..).trans hc),by rw[hd3];simp [rawInt]⟩ ((Heap.SameBut.update ..).trans (Heap.SameBut.update ..)))⟩
theorem y6P {Q:Option Value->Shared->Prop} (hh:A.handled=none) (hit:SetIt s.heap I (.int slot 0) i S es.size ep) (hs:SetAt s.heap S es ep t) (hf:t.fits es.size=true)
  (hx:∀(A:Around) (E:Value->Shared->Prop) (Q:Option (Value×Nat)->Shared->Prop),Q none s->wpAny (model prog w) A (setNext S slot i ep) Q E s)
  (hQ:∀h',Heap.ExtBut I s.heap h'->Q none { s with heap:=h' }):wpAny (model prog w) A (pyNext (.ref I)) Q E s:=by
 obtain⟨o,ho,hc,hd⟩:=id hit
 obtain⟨oS,hoS,hex,hdS⟩:=id hs
 unfold pyNext
 refine wpAny_bind (wpAny_attempt (wpAny_callSpecial?_slot (name:=Str.ofString "__next__") hit.typeIs z0e (wpAny_call_entry z0e hit.typeIs z1n ?_ (z2B _))))
 unfold Builtin.«set_iterator.__next__»
 refine wpAny_bind (wpAny_pure ?_)
 refine wpAny_bind (wpAny_fieldsOf ho hd ?_)
 dsimp only
 unfold setEntries
 refine wpAny_bind (wpAny_bind (wpAny_setState_of hoS hdS hf (wpAny_pure ?_)))
 rw[if_neg (by simp)]
 refine wpAny_bind (hx _ _ _ ?_)
 dsimp only
 refine wpAny_bind (wpAny_setField ho hd (by simp) ?_)
 refine wpAny_bind ?_
 simp only [newExc,newTuple]
 refine wpAny_bind (wpAny_newObj_type ?_ (by size_fits))
 refine wpAny_bind (m:=firstArgMember _ _) (wpAny_of_eq (a:=Value.none) (by first|rfl|(simp only [firstArgMember];rfl)) ?_)
 refine wpAny_newObj_type ?_ (by size_fits)
 simp only [raiseNew]
 refine wpAny_bind (wpAny_handled ?_)
 rw[show A.in1.handled=none from hh]
 refine wpAny_bind (wpAny_pure (wpAny_throw ?_))
 refine wpAny_bind (wpAny_isInstance (T:= "StopIteration") (b:=true) ⟨_,Heap.get?_push_size _ rfl,rfl⟩ isSubtype_stop ?_)
 exact wpAny_pure (hQ _ (((Heap.SameBut.update ..).extBut.push _).push _))
end
end L2
namespace L2
open PySem PySem.Spec PyProof.Rows
noncomputable def PlT (h:Heap) (T:Addr) (ps:List Nat):Prop:=∃o n,h.get? T=some o/\o.data=.seq (ps.map fun (i:Nat)=>rawInt i).toArray n
theorem PlT.keep {h h':Heap} {T:Addr} {ps:List Nat} (x:PlT h T ps) (k:∀o,h.get? T=some o->h'.get? T=some o):PlT h' T ps:=let ⟨o,n,e,r⟩:=x;⟨o,n,k _ e,r⟩
section
variable {prog:Program} {w:World} {A:Around} {E:Value->Shared->Prop} {s:Shared} {I S T:Addr} {i ep:Nat} {es:Array (Int×Value)} {t:SetTable} {ps:List Nat}
theorem y5D {x:Value} {z:Int} {p:Nat} {Q:Option Value->Shared->Prop} (hit:SetIt s.heap I (.ref T) i S es.size ep) (hs:SetAt s.heap S es ep t) (hf:t.fits es.size=true) (hT:PlT s.heap T ps) (hp:ps[i]?=some p) (hx:es[p]?=some (z,x))
  (hQ:∀h',SetIt h' I (.ref T) (i+1) S es.size ep->Heap.SameBut I s.heap h'->Q (some x) { s with heap:=h' }):wpAny (model prog w) A (pyNext (.ref I)) Q E s:=by
 obtain⟨o,ho,hc,hd⟩:=id hit
 obtain⟨oS,hoS,hex,hdS⟩:=id hs
 obtain⟨oT,nT,hoT,hdT⟩:=id hT
 unfold pyNext
 refine wpAny_bind (wpAny_attempt (wpAny_callSpecial?_slot (name:=Str.ofString "__next__") hit.typeIs z0e (wpAny_call_entry z0e hit.typeIs z1n ?_ (z2B _))))
 unfold Builtin.«set_iterator.__next__»
 refine wpAny_bind (wpAny_pure ?_)
 refine wpAny_bind (wpAny_fieldsOf ho hd ?_)
 dsimp only
 unfold setEntries
 refine wpAny_bind (wpAny_bind (wpAny_setState_of hoS hdS hf (wpAny_pure ?_)))
 rw[if_neg (by simp)]
 refine wpAny_bind (wpAny_seqItems hoT hdT ?_)
 have hg:(ps.map fun (i:Nat)=>rawInt i).toArray[(i:Int).toNat]?=some (.int p 0):=by simp [hp,rawInt]
 dsimp only
 rw[hg]
 dsimp only
 unfold setNextDrawn
 refine wpAny_bind (wpAny_bind (wpAny_setState_of hoS hdS hf ?_))
 dsimp only
 rw[if_neg (by simp)]
 rw[show es[(p:Int).toNat]?=some (z,x) from hx]
 refine wpAny_pure ?_
 refine wpAny_bind (wpAny_setField ho hd (by simp) ?_)
 have ho3:=Heap.get?_update_self (Obj.mapFields (·.setIfInBounds 1 (rawInt ((i:Int)+1)))) ho (Obj.isFreed_of_fields (Obj.data_mapFields hd _))
 have hd3:=Obj.data_mapFields hd (·.setIfInBounds 1 (rawInt ((i:Int)+1)))
 exact wpAny_pure ⟨_,rfl,wpAny_pure (hQ _ ⟨_,ho3,(Obj.cls_mapFields ..).trans hc,by rw[hd3];simp [rawInt]⟩ (Heap.SameBut.update ..))⟩
theorem y6r {Q:Option Value->Shared->Prop} (hh:A.handled=none) (hit:SetIt s.heap I (.ref T) i S es.size ep) (hs:SetAt s.heap S es ep t) (hf:t.fits es.size=true) (hT:PlT s.heap T ps) (hp:ps[i]?=none)
  (hQ:∀h',Heap.ExtBut I s.heap h'->Q none { s with heap:=h' }):wpAny (model prog w) A (pyNext (.ref I)) Q E s:=by
 obtain⟨o,ho,hc,hd⟩:=id hit
 obtain⟨oS,hoS,hex,hdS⟩:=id hs
 obtain⟨oT,nT,hoT,hdT⟩:=id hT
 unfold pyNext
 refine wpAny_bind (wpAny_attempt (wpAny_callSpecial?_slot (name:=Str.ofString "__next__") hit.typeIs z0e (wpAny_call_entry z0e hit.typeIs z1n ?_ (z2B _))))
 unfold Builtin.«set_iterator.__next__»
 refine wpAny_bind (wpAny_pure ?_)
 refine wpAny_bind (wpAny_fieldsOf ho hd ?_)
 dsimp only
 unfold setEntries
 refine wpAny_bind (wpAny_bind (wpAny_setState_of hoS hdS hf (wpAny_pure ?_)))
 rw[if_neg (by simp)]
 refine wpAny_bind (wpAny_seqItems hoT hdT ?_)
 have hg:(ps.map fun (i:Nat)=>rawInt i).toArray[(i:Int).toNat]?=none:=by
  have:=List.getElem?_eq_none_iff.mp hp
  simp [this]
 dsimp only
 rw[hg]
 dsimp only
 refine wpAny_bind (wpAny_setField ho hd (by simp) ?_)
 have ho2:=Heap.get?_update_self (Obj.mapFields (·.setIfInBounds 0 (rawInt 0))) ho (Obj.isFreed_of_fields (Obj.data_mapFields hd _))
 have hd2:=Obj.data_mapFields hd (·.setIfInBounds 0 (rawInt 0))
 refine wpAny_bind (wpAny_setField ho2 hd2 (by simp) ?_)
 refine wpAny_bind ?_
 simp only [newExc,newTuple]
 refine wpAny_bind (wpAny_newObj_type ?_ (by size_fits))
 refine wpAny_bind (m:=firstArgMember _ _) (wpAny_of_eq (a:=Value.none) (by first|rfl|(simp only [firstArgMember];rfl)) ?_)
 refine wpAny_newObj_type ?_ (by size_fits)
 simp only [raiseNew]
 refine wpAny_bind (wpAny_handled ?_)
 rw[show A.in1.handled=none from hh]
 refine wpAny_bind (wpAny_pure (wpAny_throw ?_))
 refine wpAny_bind (wpAny_isInstance (T:= "StopIteration") (b:=true) ⟨_,Heap.get?_push_size _ rfl,rfl⟩ isSubtype_stop ?_)
 exact wpAny_pure (hQ _ ((((Heap.SameBut.update ..).trans (Heap.SameBut.update ..)).extBut.push _).push _))
theorem z9C {Q:Option (Value×Nat)->Shared->Prop} (hbt:w.params.followText "set-order" = true) (hs:SetAt s.heap S es ep t) (hf:t.fits es.size=true)
  (h:Q (((pickOrder (w.params.setOrder S ep) es)[i]?).map fun e=>(e.2,0)) s):wpAny (model prog w) A (setNext S 0 i ep) Q E s:=by
 obtain⟨oS,hoS,hex,hdS⟩:=id hs
 unfold setNext setsByText
 refine wpAny_bind (wpAny_setState_of hoS hdS hf ?_)
 refine wpAny_bind (wpAny_bind (wpAny_askSetting (wpAny_pure ?_)))
 rw[if_pos (show (model prog w).w.params.followText "set-order" = true from hbt)]
 rw[if_neg (by simp)]
 unfold setWalk setsByText
 refine wpAny_bind (wpAny_bind (wpAny_setState_of hoS hdS hf ?_))
 refine wpAny_bind (wpAny_bind (wpAny_askSetting (wpAny_pure ?_)))
 rw[if_pos (show (model prog w).w.params.followText "set-order" = true from hbt)]
 refine wpAny_bind (wpAny_askSetting ?_)
 exact wpAny_pure (wpAny_pure h)
theorem z6k {slot:Nat} {Q:Option (Value×Nat)->Shared->Prop} (hbt:w.params.followText "set-order" = false) (hs:SetAt s.heap S es ep t) (hf:t.fits es.size=true) (ht:TabOk (ledOf w) t) (hp:t.plain=true∨es.size<=1)
  (h:Q (match es[SetTable.below t.place slot]?,t.place[SetTable.below t.place slot]? with|some (_,x),some j=>some (x,j+1)|_,_=>none) s):wpAny (model prog w) A (setNext S slot i ep) Q E s:=by
 obtain⟨oS,hoS,hex,hdS⟩:=id hs
 have hl:t.led=true:=by rw[ht.1];unfold ledOf;rw[hbt];rfl
 unfold setNext setsByText
 refine wpAny_bind (wpAny_setState_of hoS hdS hf ?_)
 refine wpAny_bind (wpAny_bind (wpAny_askSetting (wpAny_pure ?_)))
 rw[if_neg (show ¬(model prog w).w.params.followText "set-order" = true by rw[show (model prog w).w.params.followText "set-order" = false from hbt];decide)]
 refine wpAny_ite_split (fun hab=>?_) (fun _=>?_)
 ·have z:(!t.plain && decide (es.size > 1))=true:=hab
  simp only [Bool.and_eq_true,Bool.not_eq_true',decide_eq_true_eq] at z
  rcases hp with y|y
  ·rw[y] at z;exact absurd z.1 (by decide)
  ·exact absurd z.2 (by omega)
 refine wpAny_bind ?_
 show wpAny _ _ (if (!t.led && !es.isEmpty)=true then _ else _) _ _ _
 rw[if_neg (by rw[hl];simp)]
 exact wpAny_pure (wpAny_pure h)
end
end L2
namespace L2
open PySem PySem.Spec PyProof.Rows
section
variable {prog:Program} {w:World} {A:Around} {I S T:Addr} {ep:Nat} {es:Array (Int×Value)} {t:SetTable} {ps:List Nat}
theorem y2d (hh:A.handled=none) (hne:S≠I) (hbt:w.params.followText "set-order" = true) (hf:t.fits es.size=true) :
  Walks prog w A I [I,S] [I] es.size (fun i v=>∃z,(pickOrder (w.params.setOrder S ep) es).toList[i]?=some (z,v)) (fun i h=>SetIt h I (.int 0 0) i S es.size ep/\SetAt h S es ep t) where
 sub:=fun b hb=>by simp at hb;simp [hb]
 frame:=fun _ _ _ st hk=>⟨st.1.keep fun o e=>hk I (by simp) o e,st.2.keep fun o e=>hk S (by simp) o e⟩
 item:=fun i s Q E hi st hQ=>by
  have hl:(pickOrder (w.params.setOrder S ep) es).size=es.size:=by rw[←Array.length_toList,(z5Z _ _).length_eq,Array.length_toList]
  obtain⟨⟨z,x⟩,hx⟩:∃p,(pickOrder (w.params.setOrder S ep) es)[i]?=some p:=⟨(pickOrder (w.params.setOrder S ep) es)[i]'(by omega),by simp [hl,hi]⟩
  refine y3G (x:=x) (nx:=0) (slot:=0) st.1 st.2 hf (fun A E Q q=>z9C hbt st.2 hf (by rw[hx];exact q)) fun h' hit hsb=>?_
  exact hQ x h' s.toks ⟨z,by rw[Array.getElem?_toList];exact hx⟩ ⟨hit,st.2.keep fun o e=>(hsb.2 S hne).trans e⟩ fun b o hb e=>(hsb.2 b fun z=>hb (by simp [z])).trans e
 done:=fun s Q E st hQ=>by
  have hl:(pickOrder (w.params.setOrder S ep) es).size=es.size:=by rw[←Array.length_toList,(z5Z _ _).length_eq,Array.length_toList]
  refine y6P (slot:=0) hh st.1 st.2 hf (fun A E Q q=>z9C hbt st.2 hf (by rw[Array.getElem?_eq_none (by omega)];exact q)) fun h' he=>?_
  exact hQ h' s.toks fun b o hb e=>he b o (fun z=>hb (by simp [z])) e
 self:=fun _ _ _ _ st hQ=>y0A st.1 hQ
noncomputable def slotN (t:SetTable) (i:Nat):Nat:=if i=0 then 0 else t.place.getD (i-1) 0+1
theorem z5I (h:Rises t.place.toList) {i:Nat} (hi:i<=t.place.size):SetTable.below t.place (slotN t i)=i:=by
 unfold slotN
 split
 ·rename_i e
  rw[e]
  exact y2Z h
 ·rename_i e
  have hk:i-1<t.place.size:=by omega
  have e1:t.place[i-1]?=some (t.place.getD (i-1) 0):=by simp [Array.getD,hk]
  rw[y2a h e1]
  omega
theorem y1w (hh:A.handled=none) (hne:S≠I) (hbt:w.params.followText "set-order" = false) (hf:t.fits es.size=true) (ht:TabOk (ledOf w) t) (hp:t.plain=true∨es.size<=1) :
  Walks prog w A I [I,S] [I] es.size (fun i v=>∃z,es.toList[i]?=some (z,v)) (fun i h=>SetIt h I (.int (slotN t i) 0) i S es.size ep/\SetAt h S es ep t) where
 sub:=fun b hb=>by simp at hb;simp [hb]
 frame:=fun _ _ _ st hk=>⟨st.1.keep fun o e=>hk I (by simp) o e,st.2.keep fun o e=>hk S (by simp) o e⟩
 item:=fun i s Q E hi st hQ=>by
  have hz:t.place.size=es.size:=by
   simp only [SetTable.fits,Bool.and_eq_true,beq_iff_eq] at hf
   exact hf.1
  have hr:Rises t.place.toList:=by
   rcases hp with y|y
   ·exact ht.2 y
   ·have:t.place.toList.length<=1:=by rw[Array.length_toList];omega
    unfold Rises
    match h:t.place.toList,this with
    | [],_=>exact .nil
    | [_],_=>exact List.pairwise_singleton _ _
  obtain⟨⟨z,x⟩,hx⟩:∃p,es[i]?=some p:=⟨es[i],by simp [hi]⟩
  have hj:t.place[i]?=some (t.place.getD i 0):=by simp [Array.getD,hz,hi]
  refine y3G (x:=x) (nx:=slotN t (i+1)) (slot:=slotN t i) st.1 st.2 hf (fun A E Q q=>z6k hbt st.2 hf ht hp (by rw[z5I hr (by omega),hx,hj];exact q)) fun h' hit hsb=>?_
  exact hQ x h' s.toks ⟨z,by rw[Array.getElem?_toList];exact hx⟩ ⟨hit,st.2.keep fun o e=>(hsb.2 S hne).trans e⟩ fun b o hb e=>(hsb.2 b fun z=>hb (by simp [z])).trans e
 done:=fun s Q E st hQ=>by
  have hz:t.place.size=es.size:=by
   simp only [SetTable.fits,Bool.and_eq_true,beq_iff_eq] at hf
   exact hf.1
  have hr:Rises t.place.toList:=by
   rcases hp with y|y
   ·exact ht.2 y
   ·have:t.place.toList.length<=1:=by rw[Array.length_toList];omega
    unfold Rises
    match h:t.place.toList,this with
    | [],_=>exact .nil
    | [_],_=>exact List.pairwise_singleton _ _
  refine y6P (slot:=slotN t es.size) hh st.1 st.2 hf (fun A E Q q=>z6k hbt st.2 hf ht hp (by rw[z5I hr (by omega),Array.getElem?_eq_none (Nat.le_refl _)];exact q)) fun h' he=>?_
  exact hQ h' s.toks fun b o hb e=>he b o (fun z=>hb (by simp [z])) e
 self:=fun _ _ _ _ st hQ=>y0A st.1 hQ
theorem y6b {es:Array (Int×Value)}:∀ {ps:List Nat},(∀k∈ps,k<es.size)->ps.filterMap (fun k=>es[k]?)=ps.map fun k=>es.getD k (0,.none)
 | [],_=>rfl
 | k::ps,h=>by
  have hk:=h k (by simp)
  have ih:=y6b (es:=es) (ps:=ps) fun x hx=>h x (by simp [hx])
  rw[List.filterMap_cons,Array.getElem?_eq_getElem hk,ih,List.map_cons]
  simp [Array.getD,hk]
theorem y1x (hh:A.handled=none) (hne:S≠I) (hTI:T≠I) (hf:t.fits es.size=true) (hp:List.Perm ps (List.range es.size)) :
  Walks prog w A I [I,S,T] [I] es.size (fun i v=>∃z,(ps.filterMap fun k=>es[k]?)[i]?=some (z,v)) (fun i h=>SetIt h I (.ref T) i S es.size ep/\SetAt h S es ep t/\PlT h T ps) where
 sub:=fun b hb=>by simp at hb;simp [hb]
 frame:=fun _ _ _ st hk=>⟨st.1.keep fun o e=>hk I (by simp) o e,st.2.1.keep fun o e=>hk S (by simp) o e,st.2.2.keep fun o e=>hk T (by simp) o e⟩
 item:=fun i s Q E hi st hQ=>by
  have hl:ps.length=es.size:=by rw[hp.length_eq,List.length_range]
  have hps:ps[i]?=some (ps[i]'(by omega)):=List.getElem?_eq_getElem _
  have hlt:ps[i]'(by omega)<es.size:=List.mem_range.mp (hp.mem_iff.mp (List.getElem_mem _))
  generalize ps[i]'(by omega)=p at hps hlt
  obtain⟨⟨z,x⟩,hx⟩:∃q,es[p]?=some q:=⟨es[p],by simp [hlt]⟩
  have hfm:(ps.filterMap fun k=>es[k]?)[i]?=some (z,x):=by
   have e:=y6b (es:=es) (ps:=ps) fun k hk=>List.mem_range.mp (hp.mem_iff.mp hk)
   rw[e,List.getElem?_map,hps]
   simp [Array.getD,hlt]
   have:=hx
   rw[Array.getElem?_eq_getElem hlt] at this
   exact Option.some.inj this
  refine y5D (x:=x) st.1 st.2.1 hf st.2.2 hps hx fun h' hit hsb=>?_
  exact hQ x h' s.toks ⟨z,hfm⟩ ⟨hit,st.2.1.keep fun o e=>(hsb.2 S hne).trans e,st.2.2.keep fun o e=>(hsb.2 T hTI).trans e⟩ fun b o hb e=>(hsb.2 b fun z=>hb (by simp [z])).trans e
 done:=fun s Q E st hQ=>by
  have hl:ps.length=es.size:=by rw[hp.length_eq,List.length_range]
  refine y6r hh st.1 st.2.1 hf st.2.2 (List.getElem?_eq_none (by omega)) fun h' he=>?_
  exact hQ h' s.toks fun b o hb e=>he b o (fun z=>hb (by simp [z])) e
 self:=fun _ _ _ _ st hQ=>y0A st.1 hQ
end
end L2
namespace L2
open PySem PySem.Spec PyProof.Rows
section
variable {prog:Program} {w:World} {A:Around} {E:Value->Shared->Prop} {s:Shared} {S:Addr} {ep:Nat} {es:Array (Int×Value)} {t:SetTable}
theorem y5G {Q:Value->Shared->Prop} (hh:A.handled=none) (hs:SetAt s.heap S es ep t) (hf:t.fits es.size=true) (ht:TabOk (ledOf w) t) (hz:es.size<scanBound)
  (h:∀(I:Addr) (fp:List Addr) (order:List (Int×Value)) (St:Nat->Heap->Prop) (h':Heap) (d':Drawn),List.Perm order es.toList->Walks prog w A I fp [I] es.size (fun i v=>∃z,order[i]?=some (z,v)) St->St 0 h'->
   (∀b o,s.heap.get? b=some o->h'.get? b=some o)->(∀b∈fp,b=S∨s.heap.objs.size<=b)->s.heap.objs.size<=I->Q (.ref I) { s with heap:=h',drawn:=d' }):wpAny (model prog w) A (pyIter (.ref S)) Q E s:=by
 obtain⟨oS,hoS,hex,hdS⟩:=id hs
 have hT:s.TypeIs (.ref S) "set" :=⟨_,hoS,hex.1⟩
 have hlt:S<s.heap.objs.size:=Heap.lt_size hoS
 refine wpAny_pyIter_slot hT PySem.F.slot_set_iter (wpAny_call_entry PySem.F.slot_set_iter hT z8l ?_ (PySem.F.args_set_iter_1 _))
 unfold Builtin.«frozenset.__iter__» Builtin.Frozenset.slot0 Builtin.Frozenset.sizeOf setEntries setDrawn setsByText
 refine wpAny_bind (wpAny_bind (wpAny_pure (wpAny_pure ?_)))
 refine wpAny_bind (wpAny_bind (wpAny_bind (wpAny_setState_of hoS hdS hf (wpAny_pure (wpAny_pure ?_)))))
 refine wpAny_bind (wpAny_bind (wpAny_setState_of hoS hdS hf ?_))
 refine wpAny_bind (wpAny_bind (wpAny_askSetting (wpAny_pure ?_)))
 refine wpAny_pure ?_
 refine wpAny_ite_split (fun hab=>?_) (fun hab=>?_)
 ·refine wpAny_bind (z9O es.size (List.range es.size) s List.length_range fun ps d' hp=>?_)
  have hpl:ps.length=es.size:=by rw[hp.length_eq,List.length_range]
  refine wpAny_bind (wpAny_newObj_type ?_ (by show (ps.map _).toArray.size<=sizeLine;simp only [List.size_toArray,List.length_map,hpl];exact fits_of_scanBound hz))
  refine wpAny_bind (wpAny_setEpoch_of (Heap.get?_push_of_some _ hoS) hdS hf ?_)
  refine wpAny_bind (wpAny_newObj_type ?_ (by size_fits))
  refine wpAny_pure ⟨_,rfl, "set_iterator",_,⟨_,Heap.get?_push_size _ rfl,rfl⟩,z0e.lookup,?_⟩
  have sz1:s.heap.objs.size<(s.heap.push { cls:=.type "tuple",data:=.seq (ps.map fun (i:Nat)=>rawInt i).toArray }).objs.size:=by rw[Heap.size_push];exact Nat.lt_succ_self _
  refine h _ _ _ _ _ _ ?_ (y1x (T:=s.heap.objs.size) (ep:=ep) hh (Nat.ne_of_lt (Nat.lt_trans hlt sz1)) (Nat.ne_of_lt sz1) hf hp) ⟨⟨_,Heap.get?_push_size _ rfl,rfl,rfl⟩,⟨_,Heap.get?_push_of_some _ (Heap.get?_push_of_some _ hoS),hex,hdS⟩,⟨_,_,Heap.get?_push_of_some _ (Heap.get?_push_size _ rfl),rfl⟩⟩ (fun b o e=>Heap.get?_push_of_some _ (Heap.get?_push_of_some _ e)) (fun b hb=>?_) (Nat.le_of_lt sz1)
  ·exact (hp.filterMap _).trans (by rw[filterMap_getElem?_range])
  ·simp only [List.mem_cons,List.not_mem_nil,or_false] at hb
   rcases hb with rfl|rfl|rfl
   ·exact .inr (Nat.le_of_lt sz1)
   ·exact .inl rfl
   ·exact .inr (Nat.le_refl _)
 ·have z:¬(!w.params.followText "set-order" && (!t.plain && decide (es.size > 1)))=true:=hab
  refine wpAny_bind (wpAny_pure ?_)
  refine wpAny_bind (wpAny_setEpoch_of hoS hdS hf ?_)
  refine wpAny_bind (wpAny_newObj_type ?_ (by size_fits))
  refine wpAny_pure ⟨_,rfl, "set_iterator",_,⟨_,Heap.get?_push_size _ rfl,rfl⟩,z0e.lookup,?_⟩
  have fin:∀b∈[s.heap.objs.size,S],b=S∨s.heap.objs.size<=b:=fun b hb=>by
   simp only [List.mem_cons,List.not_mem_nil,or_false] at hb
   rcases hb with rfl|rfl
   ·exact .inr (Nat.le_refl _)
   ·exact .inl rfl
  cases hbt:w.params.followText "set-order" with
  | true=>exact h _ _ _ _ _ s.drawn (z5Z _ _) (y2d (ep:=ep) hh (Nat.ne_of_lt hlt) hbt hf) ⟨⟨_,Heap.get?_push_size _ rfl,rfl,rfl⟩,⟨_,Heap.get?_push_of_some _ hoS,hex,hdS⟩⟩ (fun b o e=>Heap.get?_push_of_some _ e) fin (Nat.le_refl _)
  | false=>
   rw[hbt] at z
   have hp:t.plain=true∨es.size<=1:=by
    cases e:t.plain with
    | true=>exact .inl rfl
    | false=>
     rw[e] at z
     simp at z
     exact .inr z
   exact h _ _ _ _ _ s.drawn (.refl _) (y1w (ep:=ep) hh (Nat.ne_of_lt hlt) hbt hf ht hp) ⟨⟨_,Heap.get?_push_size _ rfl,rfl,rfl⟩,⟨_,Heap.get?_push_of_some _ hoS,hex,hdS⟩⟩ (fun b o e=>Heap.get?_push_of_some _ e) fin (Nat.le_refl _)
end
end L2
namespace L2
open PySem PySem.Spec PyProof.Rows
section
variable {prog:Program} {w:World} {A:Around} {E:Value->Shared->Prop} {s:Shared} {S:Addr} {ep:Nat} {es:Array (Int×Value)} {t:SetTable}
theorem y5H {r:Addr} {Q:Bool->Shared->Prop} (hT:s.TypeIs (.ref r) "set") (h:Q false s):wpAny (model prog w) A (Builtin.List.listLengthHint (.ref r)) Q E s:=by
 unfold Builtin.List.listLengthHint
 refine wpAny_bind (wpAny_specialOf hT PySem.F.slot_set_len.lookup ?_)
 generalize hid:("set.__len__" : String)=id0
 wp_delta
 rw[show splitId id0=some ("set", "__len__") from by subst hid;decide +kernel]
 subst hid
 refine wpAny_bind (wpAny_isInstance (T:= "set") (b:=true) hT sub_set_self ?_)
 refine wpAny_ite_split (fun hab=>absurd hab (by decide)) (fun _=>?_)
 refine wpAny_ite_split (fun _=>?_) (fun hab=>absurd (by decide +kernel) hab)
 exact wpAny_bind (wpAny_typeOf hT (wpAny_pure h))
noncomputable def Took (es:Array (Int×Value)) (acc:Array Value):Prop:=∃order:List (Int×Value),List.Perm order es.toList/\acc.toList=order.map (·.2)
theorem y6i {order:List (Int×Value)} {acc:Array Value} (hp:List.Perm order es.toList) (h:ItemsOf (fun i v=>∃z,order[i]?=some (z,v)) acc es.size):Took es acc:=by
 refine⟨order,hp,List.ext_getElem? fun i=>?_⟩
 have hl:order.length=es.size:=by rw[hp.length_eq,Array.length_toList]
 rw[Array.getElem?_toList,List.getElem?_map]
 cases e:acc[i]? with
 | none=>
  have:acc.size<=i:=Array.getElem?_eq_none_iff.mp e
  rw[List.getElem?_eq_none (by rw[hl,←h.1];exact this)]
  rfl
 | some v=>
  obtain⟨z,hz⟩:=h.2 i v e
  rw[hz]
  rfl
theorem y2B {R:Result->Shared->Prop} (hh:A.handled=none) (hs:SetAt s.heap S es ep t) (hf:t.fits es.size=true) (ht:TabOk (ledOf w) t) (hz:es.size<scanBound) (L:Addr) (hLS:L≠S) (res:Value) (c₀:Nat) (hL:s.heap.get? L=some { cls:=.type "list",data:=.seq #[] c₀ })
  (hR:∀h' d' tk acc' c',(∀b o,b≠L->s.heap.get? b=some o->h'.get? b=some o)->h'.get? L=some { cls:=.type "list",dict:=none,data:=.seq acc' c',slots:=#[] }->Took es acc'->R (.ok (.ret res)) { s with heap:=h',drawn:=d',toks:=tk }) :
  wpAny (model prog w) A.in1 (Builtin.List.listExtendWith (.ref L) (.ref S) res) (fun fin s'=>match fin with | .done f=>R (.ok f) s' | .again c'=>c'.quiet=true/\codeAny (model prog w) A c' R s') (fun e s'=>R (.error e) s') s:=by
 obtain⟨oS,hoS,hex,hdS⟩:=id hs
 have hT:s.TypeIs (.ref S) "set" :=⟨_,hoS,hex.1⟩
 have hlt:L<s.heap.objs.size:=Heap.lt_size hL
 unfold Builtin.List.listExtendWith
 refine wpAny_bind (wpAny_typeOf hT ?_)
 have h1:Builtin.List.listSameRef (.ref L) (.ref S)=false:=by simp [Builtin.List.listSameRef,hLS]
 have h2:(Value.type "set" == Value.type "list")=false:=by decide
 have h3:(Value.type "set" == Value.type "tuple")=false:=by decide
 simp only [h1,h2,h3,Bool.or_false,Bool.false_eq_true,if_false]
 refine wpAny_bind (y5G (A:=A.in1) hh hs hf ht hz fun I fp order St h1 d1 hp W st keep hfp hI=>?_)
 have hLf:L∉fp:=fun m=>by
  rcases hfp L m with z|z
  ·exact hLS z
  ·exact absurd hlt (Nat.not_lt.mpr z)
 have hL1:=keep _ _ hL
 have hT1:Shared.TypeIs { s with heap:=h1,drawn:=d1 } (.ref S) "set" :=⟨_,keep _ _ hoS,hex.1⟩
 have key:∀(h:Heap) (c₁:Nat),St 0 h->(∀b o,b≠L->s.heap.get? b=some o->h.get? b=some o)->h.get? L=some { cls:=.type "list",data:=.seq #[] c₁ }->codeAny (model prog w) A (.builtin "list.extend.loop" ⟨[.ref L,.ref I,res],[]⟩) R { s with heap:=h,drawn:=d1 }:=by
  intro h c₁ hst hk hL₁
  refine codeAny_extend_loopS W.toS (fits_of_scanBound hz) L hLf res es.size 0 _ #[] c₁ rfl (Nat.zero_le _) hst hL₁ (ItemsOf.nil _) fun s' acc' c' hm hL' hacc=>?_
  rw[Moved.eq_with hm]
  refine hR s'.heap d1 s'.toks acc' c' (fun b o hb e=>hm.heap b o (fun z=>?_) (hk b o hb e)) hL' (y6i hp hacc)
  rcases List.mem_cons.mp z with z|z
  ·exact hb z
  ·have h9:=Heap.lt_size e
   rw[List.mem_singleton.mp z] at h9
   exact absurd h9 (Nat.not_lt.mpr hI)
 refine wpAny_bind (wpAny_holding (y5H hT1 ?_))
 refine wpAny_ite_split (fun _=>?_) (fun _=>wpAny_pure ⟨plainId_quiet PySem.F.plain_extend_loop _,key _ c₀ st (fun b o _ e=>keep b o e) hL1⟩)
 refine wpAny_bind (wpAny_rule (wpAny_bind ?_))
 show wpAny _ _ (updateSeq L (·.push .none) >>= fun _=>updateSeq L (·.pop)) _ _ _
 refine wpAny_bind (wpAny_updateSeq hL1 rfl ?_)
 have hL₂:=Heap.get?_update_self (Obj.mapSeq (·.push Value.none)) hL1 rfl
 refine wpAny_updateSeq (hz:=by seq_fits) hL₂ rfl ?_
 have hL₃:=Heap.get?_update_self (Obj.mapSeq (·.pop)) hL₂ rfl
 refine wpAny_pure ⟨plainId_quiet PySem.F.plain_extend_loop _,key _ _ ?_ (fun b o hb e=>?_) hL₃⟩
 ·refine W.frame 0 _ _ st fun b hb o e=>?_
  have hbL:b≠L:=fun z=>hLf (z▸hb)
  exact (Heap.get?_update_other _ _ (Ne.symm hbL)).trans ((Heap.get?_update_other _ _ (Ne.symm hbL)).trans e)
 ·exact (Heap.get?_update_other _ _ (Ne.symm hb)).trans ((Heap.get?_update_other _ _ (Ne.symm hb)).trans (keep _ _ e))
theorem y0B {R:List Value->Shared->Prop} (hh:A.handled=none) (hs:SetAt s.heap S es ep t) (hf:t.fits es.size=true) (ht:TabOk (ledOf w) t) (hz:es.size<scanBound)
  (h:∀(h':Heap) (d':Drawn) (tk:Nat) (acc:Array Value),(∀b o,s.heap.get? b=some o->h'.get? b=some o)->Took es acc->R acc.toList { s with heap:=h',drawn:=d',toks:=tk }) :
  wpAny (model prog w) A (collect (.ref S)) R E s:=by
 obtain⟨oS,hoS,hex,hdS⟩:=id hs
 have hlt:S<s.heap.objs.size:=Heap.lt_size hoS
 unfold collect
 refine wpAny_bind (wpAny_runValue (codeAny_builtin entry_proto_collect' ?_))
 rw[Around.under_plainId PySem.F.plain_proto_collect _]
 refine wpAny_bind (m:=newList []) (wpAny_newObj_type ?_)
 refine wpAny_pure ⟨plainId_quiet PySem.F.plain_list_iadd _,codeAny_builtin entry_list_iadd' ?_⟩
 rw[Around.under_plainId PySem.F.plain_list_iadd _]
 have hL:(s.heap.push { cls:=.type "list",data:=.seq ([]:List Value).toArray }).get? s.heap.objs.size=some { cls:=.type "list",data:=.seq #[] }:=Heap.get?_push_size _ rfl
 have key:=y2B (prog:=prog) (A:=A) (s:={ s with heap:=s.heap.push { cls:=.type "list",data:=.seq ([]:List Value).toArray } })
  (R:=fun (q:Result) (s':Shared)=>∃(h':Heap) (d':Drawn) (tk:Nat) (acc':Array Value) (c':Nat),q=.ok (.ret (.ref s.heap.objs.size))/\s' = { s with heap:=h',drawn:=d',toks:=tk }/\(∀b o,s.heap.get? b=some o->h'.get? b=some o)/\h'.get? s.heap.objs.size=some { cls:=.type "list",dict:=none,data:=.seq acc' c',slots:=#[] }/\Took es acc')
  hh (hs.keep fun o e=>Heap.get?_push_of_some _ e) hf ht hz s.heap.objs.size (Nat.ne_of_gt hlt) (.ref s.heap.objs.size) 0 hL
  (fun h' d' tk acc' c' hk hS' hacc=>⟨h',d',tk,acc',c',rfl,rfl,fun b o e=>hk b o (Nat.ne_of_lt (Heap.lt_size e)) (Heap.get?_push_of_some _ e),hS',hacc⟩)
 show wpAny _ A.in1 (Builtin.List.listExtendWith (.ref s.heap.objs.size) (.ref S) (.ref s.heap.objs.size)) _ _ _
 refine wpAny_mono key (fun fin s' x=>?_) fun e s' x=>?_
 ·cases fin with
  | done f=>
   obtain⟨h',d',tk,acc',c',e,rfl,hk,hS',hacc⟩:=x
   cases e
   exact wpAny_bind (wpAny_load hS' (wpAny_pure (h h' d' tk acc' hk hacc)))
  | again c₁=>
   refine⟨x.1,codeAny_mono x.2 fun q s₂ y=>?_⟩
   obtain⟨h',d',tk,acc',c',rfl,rfl,hk,hS',hacc⟩:=y
   exact wpAny_bind (wpAny_load hS' (wpAny_pure (h h' d' tk acc' hk hacc)))
 ·obtain⟨_,_,_,_,_,e',_⟩:=x
  cases e'
end
end L2
namespace L2
open PySem PySem.Spec PySem.Calls PyProof.Rows
noncomputable def setO (prog:Program) (w:World) (a:Addr) (S:Int->Bool) (n:Nat):HO:=.ext fun h=>SetG prog w h a S n
theorem z4a:∀ {us:List Value} {ns:List Int},IntsAre us ns->Vals (ns.map V.int) us
 | _,_,.nil=>.nil
 | _,_,.cons n t h=>.cons ⟨t,rfl⟩ (z4a h)
theorem z9H {prog:Program} {w:World}:∀ {l:List Value},(∀v∈l,∃k,(intKind prog w).is k v=true)->∃ns,IntsAre l ns/\∀k,k∈ns ↔ ∃v∈l,(intKind prog w).is k v=true
 | [],_=>⟨[],.nil,fun k=>by simp⟩
 | v::l,h=>by
  obtain⟨ns,h1,h2⟩:=z9H (l:=l) fun x hx=>h x (by simp [hx])
  obtain⟨k,hk⟩:=h v (by simp)
  obtain⟨t,rfl⟩:=Value.isInt_shape (show Value.isInt k v=true from hk)
  refine⟨k::ns,.cons k t h1,fun j=>?_⟩
  rw[List.mem_cons,h2 j]
  constructor
  ·rintro (rfl|⟨x,hx,e⟩)
   ·exact⟨_,.head _,hk⟩
   ·exact⟨x,.tail _ hx,e⟩
  ·rintro⟨x,hx,e⟩
   rcases List.mem_cons.mp hx with rfl|hx
   ·exact .inl ((intKind prog w).inj _ _ _ e hk)
   ·exact .inr ⟨x,hx,e⟩
theorem Inv.dr {X:Cx} {pins:List (Addr×Obj)} {σ:St} {H:Hp} {s:Shared} {d':Drawn} (I:Inv X pins σ H s):Inv X pins σ H { s with drawn:=d' }:=⟨I.ok,I.os,I.bare,I.base,I.loc,I.cell,I.free,I.freeC,I.pin,I.hok,I.len⟩
section
variable {prog:Program} {w:World} {A:Around} {E:Value->Shared->Prop} {s:Shared}
theorem z9U {S:Addr} {f:Int->Bool} {n:Nat} {Q:Value->Shared->Prop} (hh:A.handled=none) (hS:SetG prog w s.heap S f n) (hn:n<64)
  (h:∀(h1 h':Heap) (d':Drawn) (tk:Nat) (out:Array Value) (ns:List Int) (c:Nat),(∀b o,s.heap.get? b=some o->h1.get? b=some o)->(∀b o,h1.get? b=some o->h'.get? b=some o)->h'.get? h1.objs.size=some { cls:=.type "list",data:=.seq out c }->IntsAre out.toList ns->ns.length=n->(∀k,f k=true ↔ k∈ns)->ns.Pairwise (·<=·)->
   Q (.ref h1.objs.size) { s with heap:=h',drawn:=d',toks:=tk }):wpAny (model prog w) A (call (.builtin "sorted") [.ref S]) Q E s:=by
 obtain⟨o,es,ep,t,ho,hex,hd,hel,hmem,hb,hf,rfl,ht⟩:=hS
 refine call_function_entry kind_sorted plain_sorted entry_sorted (args_sorted1 _) ?_
 unfold Builtin.«sorted»
 refine wpAny_bind (m:=checkCount "sorted" 1 1 _) (wpAny_pure ?_)
 refine wpAny_bind (y0B (A:=A.in1) hh ⟨_,ho,hex,hd⟩ hf ht hb fun h1 d1 tk acc keep took=>?_)
 obtain⟨order,hp,ea⟩:=took
 have hl:acc.toList.length=es.size:=by rw[ea,List.length_map,hp.length_eq,Array.length_toList]
 obtain⟨ns,hI,hns⟩:=z9H (prog:=prog) (w:=w) (l:=acc.toList) fun v hv=>by
  rw[ea] at hv
  obtain⟨e,he,rfl⟩:=List.mem_map.mp hv
  obtain⟨k,hk,_⟩:=(hel e (hp.mem_iff.mp he)).1
  exact⟨k,hk⟩
 refine wpAny_bind (wpAny_newList ?_ (by rw[hl];exact fits_of_scanBound hb))
 have hD:(h1.push { cls:=.type "list",data:=.seq acc.toList.toArray }).get? h1.objs.size=some (seqObj "list" acc.toList.toArray 0):=Heap.get?_push_size _ rfl
 refine wpAny_bind (wpAny_holding (wpAny_call_entry slot_list_sort ⟨_,hD,rfl⟩ entry_list_sort (list_sort_tree hD hI (by omega) fun out ns' hI' hpn hpw=>⟨.none,rfl,?_⟩) (args_list_sort _)))
 obtain⟨c,hc⟩:=sortedHeap_at (out:=out) hD
 refine wpAny_pure ⟨_,rfl,h h1 _ d1 tk out ns' c keep (fun b o e1=>?_) hc hI' ?_ (fun k=>?_) hpw⟩
 ·rw[sortedHeap_old (Nat.ne_of_lt (Heap.lt_size e1)) (by rw[size_push'];exact Nat.lt_succ_of_lt (Heap.lt_size e1))]
  exact Heap.get?_push_of_some _ e1
 ·rw[hpn.length_eq,←hI.length,hl]
 ·rw[hpn.mem_iff,hns k,hmem k,ea]
  constructor
  ·rintro⟨e,he,q⟩
   exact⟨e.2,List.mem_map.mpr ⟨e,hp.mem_iff.mpr he,rfl⟩,q⟩
  ·rintro⟨v,hv,q⟩
   obtain⟨e,he,rfl⟩:=List.mem_map.mp hv
   exact⟨e,hp.mem_iff.mp he,q⟩
end
section
variable {X:Cx}
theorem z9V (hc:X.calm=true):CallR X (.type "set") (fun vs H Q=>∃(a:Addr) (ns:List Int),vs=[.ref a]/\SqL X.K H a (ns.map V.int)/\ns.length<=4000/\∀(D:Addr) (f:Int->Bool) (n:Nat),H D=none->n<=ns.length->(∀k,f k=true ↔ k∈ns)->Q (.ref D) (upd H D (setO X.prog X.w D f n))):=by
 intro pins s σ H vs us Q I r h
 obtain⟨a,ns,rfl,hq,hn,q⟩:=h
 obtain⟨u,rfl,r1⟩:=Vals.one r
 cases r1
 obtain⟨its,rv,pl,hz⟩:=I.list hq
 have hi:IntsAre its ns:=z6o rv
 have hl:its.length=ns.length:=hi.length
 refine y4q (items:=its.toArray) (ns:=ns) (I.ok.hd hc) pl.isList hi (by rw[List.size_toArray,hl];show _<4096;omega) fun h' tk hS keep=>?_
 have hsz:its.toArray.size=ns.length:=by rw[List.size_toArray,hl]
 rw[hsz] at hS
 refine⟨.ref s.heap.objs.size,upd H s.heap.objs.size (setO X.prog X.w s.heap.objs.size (fun k'=>(firstMet (fun i=>ns.getD i 0) ns.length).any (· == k')) (firstMet (fun i=>ns.getD i 0) ns.length).length),I.laid (t':=tk) keep (Nat.le_refl _) ?_,rfl,q _ _ _ I.fresh (firstMet_length_le _ _) fun k=>?_⟩
 ·obtain⟨o,es,ep,t,ho,r⟩:=id hS
  exact⟨hS,⟨_,ho⟩,fun h1 h2 x k=>x.keep k⟩
 ·rw[firstMet_any,List.any_eq_true]
  constructor
  ·rintro⟨x,hx,e⟩
   obtain⟨i,hi',rfl⟩:=List.mem_map.mp hx
   have hlt:=List.mem_range.mp hi'
   have e2:ns.getD i 0=k:=by simpa using e
   rw[←e2]
   simp [List.getD,hlt]
  ·intro hk
   obtain⟨i,hi',e⟩:=List.mem_iff_getElem.mp hk
   exact⟨ns.getD i 0,List.mem_map.mpr ⟨i,List.mem_range.mpr hi',rfl⟩,by simp [List.getD,hi',e]⟩
theorem z4l (hc:X.calm=true):CallR X (.builtin "sorted") (fun vs H Q=>∃(S:Addr) (f:Int->Bool) (n:Nat),vs=[.ref S]/\H S=some (setO X.prog X.w S f n)/\n<64/\∀(D:Addr) (ns:List Int),H D=none->ns.length=n->(∀k,f k=true ↔ k∈ns)->ns.Pairwise (·<=·)->Q (.ref D) (upd H D (.lst (ns.map V.int)))):=by
 intro pins s σ H vs us Q I r h
 obtain⟨S,f,n,rfl,hS,hn,q⟩:=h
 obtain⟨u,rfl,r1⟩:=Vals.one r
 cases r1
 have hG:SetG X.prog X.w s.heap S f n:=(I.hok S _ hS).1
 refine z9U (I.ok.hd hc) hG hn fun h1 h' d' tk out ns c k1 k2 hD hI hl hm hp=>?_
 have I1:Inv X pins σ H { s with heap:=h1,toks:=tk }:=I.kept k1
 have I2:Inv X pins σ (upd H h1.objs.size (.lst (ns.map V.int))) { s with heap:=h',toks:=tk }:=I1.laid (h':=h') (t':=tk) k2 (Nat.le_refl _) ⟨by rw[List.length_map,sizeLine_eq];omega,out.toList,c,z4a hI,by rw[Array.toArray_toList];exact hD⟩
 exact⟨.ref _,_,I2.dr,rfl,q _ ns I1.fresh hl hm hp⟩
end
end L2
namespace L2
open PySem PySem.Spec PyProof.Rows
noncomputable def y7e (X:Cx) (N:List Str) (scope:Scope) (cl:List (Str×Addr)) (s:Shared) (H:Hp) (fp:List Addr) (E:XK):Cx:=
 (z1i X N scope cl s H fp).wish fun e s'=>∃pins σ H1 s1,Inv (z1i X N scope cl s H fp) pins σ H1 s1/\CXx X.prog X.w X.stack H1 s1 E e s'
theorem z5y {X:Cx} {N:List Str} {scope:Scope} {cl:List (Str×Addr)} {s:Shared} {H:Hp} {fp:List Addr} {E:XK}:(y7e X N scope cl s H fp E).K=X.K:=rfl
section
variable {X:Cx} {pins:List (Addr×Obj)} {σ:St} {H:Hp} {s:Shared}
end
end L2
namespace L2
open PySem
section
variable {prog:Program} {w:World} {A:Around} {E:Value->Shared->Prop} {s:Shared}
end
section
variable {prog:Program} {w:World} {A:Around} {E:Value->Shared->Prop} {s:Shared}
end
end L2
namespace L2
open PySem PySem.Spec PyProof.Rows
noncomputable def Itp3 (n:Nat) (ok:Hp->Prop) (f:Nat->Hp->V->V->V->Prop):It:=
 ⟨fun i H=>i<n/\ok H,fun i H x H'=>∃T u v t,H T=none/\x=.ref T/\H'=upd H T (.tup [u,v,t])/\f i H u v t,fun i H=>i=n/\ok H⟩
noncomputable def okZ3 (K:PySem.W.Frag) (a b c:Addr) (n:Nat) (H:Hp):Prop:=∃xs ys zs,SqL K H a xs/\SqL K H b ys/\SqL K H c zs/\min (min xs.length ys.length) zs.length=n
noncomputable def Itz3 (K:PySem.W.Frag) (a b c:Addr) (n:Nat):It:=Itp3 n (okZ3 K a b c n) fun i H u v t=>(∀xs,SqL K H a xs->xs[i]?=some u)/\(∀ys,SqL K H b ys->ys[i]?=some v)/\∀zs,SqL K H c zs->zs[i]?=some t
noncomputable def iZip3 (K:PySem.W.Frag) (ta tb tc:TE):TI:=fun σ H R=>ta σ H fun x H1=>tb σ H1 fun y H2=>tc σ H2 fun z H3=>∃a b c xs ys zs,x=.ref a/\y=.ref b/\z=.ref c/\SqL K H3 a xs/\SqL K H3 b ys/\SqL K H3 c zs/\R (Itz3 K a b c (min (min xs.length ys.length) zs.length)) H3
section
variable {X:Cx} {es:List Expr} {k:Nat} {tpos:Pos}
end
theorem z7f {K:PySem.W.Frag} {ta tb tc:TE} {σ:St} {H:Hp} {R:It->Hp->Prop}:iZip3 K ta tb tc σ H R=ta σ H fun x H1=>tb σ H1 fun y H2=>tc σ H2 fun z H3=>∃a b c xs ys zs,x=.ref a/\y=.ref b/\z=.ref c/\SqL K H3 a xs/\SqL K H3 b ys/\SqL K H3 c zs/\R (Itz3 K a b c (min (min xs.length ys.length) zs.length)) H3:=rfl
end L2
namespace L2
open PySem PySem.Spec PyProof.Rows
section
variable {X:Cx}
end
end L2
namespace L2
open PySem PySem.Spec PyProof.Rows
section
variable {X:Cx}
end
end L2
namespace L2
open PySem PySem.Spec PySem.Calls PyProof.Rows PySem.W
end L2
namespace L2
open PySem PySem.Spec PySem.Calls PyProof.Rows PySem.W SM
theorem z9G {v:Value} {o:Option Int} (h:IsPart v o):∃l:Option (Int×Tok),v=partValue l/\l.map (·.1)=o:=by
 cases h with
 | none=>exact⟨none,rfl,rfl⟩
 | int i t=>exact⟨some (i,t),rfl,rfl⟩
noncomputable def rSlS:V->Option Int->Option Int->Hp->VK->Prop:=fun x lo hi H Q=>∃z,x=.str z/\z.length<=sizeLine/\Q (.str (Txt.slice z lo hi)) H
section
variable {X:Cx}
theorem y1P:SlR X rSlS:=by
 intro pins s σ H x v vl vu lo hi sl Q I rx hs pl pu h
 obtain⟨z,rfl,hz,q⟩:=h
 obtain⟨t,rfl⟩:=rx
 obtain⟨l,rfl,rfl⟩:=z9G pl
 obtain⟨u,rfl,rfl⟩:=z9G pu
 refine⟨"str",_,F.slot_str_getitem.lookup,typeIs_str _ _ _,wpAny_getItem_str_slice (l:=l) (u:=u) (st:=none) hs rfl ?_⟩
 exact post_val_or_str ⟨Nat.le_trans (Txt.slice_le z _ _) hz,fun t' k=>⟨.str _,H,I.tok _,⟨_,rfl⟩,q⟩⟩
theorem y6y {i:Nat} {x:Str} {e:Expr} {te:XK->TE} {pos' pos:Pos} (hN:X.N.Nodup) (hi:X.N[i]?=some x) (hx:Loc X.env.scope x) (he:PXe X e te) (hs:swapsWith e (some (.Name x pos')) pos.line X.env=pure false:=by rfl) (hf:X.fn x=true∨X.env.scope.names.lookup x=some .local:=by first|exact .inl rfl|exact .inr rfl|assumption) :
  PXs X [.Assign [.Name x pos'] e pos] fun E=>tAsg (te E) (gName i):=by
 intro pins s σ H D E I h
 refine wpAny_execs_cons (wpAny_Assign_Name (thn (he pins s σ H _ E I h) fun v s1 ⟨y,H1,I1,r1,q1⟩=>?_) hs)
 exact z3F I1 hN hi hx r1 (fun s2 I2=>wpAny_execs_nil ⟨_,H1,I2,q1⟩) hf
end
theorem y7l {z:Str}:Asc z ↔ ∀c∈z.cps.toList,c<128:=by
 unfold Asc
 rw[Array.all_eq_true_iff_forall_mem]
 exact⟨fun h c hc=>of_decide_eq_true (h c (Array.mem_toList_iff.mp hc)),fun h c hc=>decide_eq_true (h c (Array.mem_toList_iff.mpr hc))⟩
theorem y8Y {l:List Nat}:Asc (tx l) ↔ ∀c∈l,c<128:=by
 rw[y7l]
 simp [tx]
theorem y6p (y z:Str):(y++z).cps.toList=y.cps.toList++z.cps.toList:=by
 show (y.cps++z.cps).toList=_
 simp
end L2
namespace L2
open PySem PySem.Spec PySem.Calls PyProof.Rows PySem.W
theorem z6C (bs:List Bool):(List.range bs.length).all (fun i=>bs.getD i false)=bs.all id:=by
 rw[Bool.eq_iff_iff,List.all_eq_true,List.all_eq_true]
 constructor
 ·intro h b hb
  obtain⟨i,hi,e⟩:=List.getElem_of_mem hb
  have:=h i (List.mem_range.mpr hi)
  rw[List.getD_eq_getElem?_getD,List.getElem?_eq_getElem hi,e] at this
  exact this
 ·intro h i hi
  have hi:=List.mem_range.mp hi
  rw[List.getD_eq_getElem?_getD,List.getElem?_eq_getElem hi]
  exact h _ (List.getElem_mem hi)
theorem z4G {X:Cx} (hc:X.calm=true):CallR X (.builtin "all") (fun vs H Q=>∃(a:Addr) (bs:List Bool),vs=[.ref a]/\SqL X.K H a (bs.map V.bl)/\Q (.bl (bs.all id)) H):=by
 intro pins s σ H xs us Q I r h
 obtain⟨a,bs,rfl,hq,q⟩:=h
 obtain⟨u,rfl,r1⟩:=Vals.one r
 cases r1
 obtain⟨its,rv,pl,hz⟩:=I.list hq
 have hl:=pl.isList
 have la:a<s.heap.objs.size:=by obtain⟨o,e,_⟩:=hl;exact Heap.lt_size e
 have ne:a≠s.heap.objs.size:=Nat.ne_of_lt la
 refine call_all_walkS (wpAny_pyIter_list hl ?_)
 have WS:=(Walks.list (prog:=X.prog) (w:=X.w) (A:=X.A.in1) (I.ok.hd hc) s.heap.objs.size a ne its.toArray).toS
 refine⟨_,_,_,_,_,_,_,fun i=>bs.getD i false,rfl,WS,⟨⟨_,Heap.get?_push_size _ rfl,rfl,rfl⟩,hl.push _⟩,fun i v s' Q' E' hv hq'=>?_,fun s' mv=>?_⟩
 ·have hv':its[i]?=some v:=by simpa using hv
  have hi:i<(bs.map V.bl).length:=by rw[rv.length];exact (List.getElem?_eq_some_iff.mp hv').1
  obtain⟨u,e1,r2⟩:=rv.get (List.getElem?_eq_getElem hi)
  rw[hv'] at e1
  cases e1
  rw[List.length_map] at hi
  rw[List.getElem_map] at r2
  cases r2
  have hq2:Q' (bs.getD i false) s':=hq'
  rw[List.getD_eq_getElem?_getD,List.getElem?_eq_getElem hi] at hq2
  exact wpAny_truthy_bool hq2
 ·have e:(List.range its.toArray.size).all (fun i=>bs.getD i false)=bs.all id:=by
   have:its.toArray.size=bs.length:=by
    have:=rv.length
    rw[List.length_map] at this
    simp [this]
   rw[this]
   exact z6C bs
  rw[e,Moved.eq_with mv]
  refine⟨.bl (bs.all id),H,I.kept fun b o e=>mv.heap b o (fun z=>?_) (Heap.get?_push_of_some _ e),rfl,q⟩
  exact absurd (Heap.lt_size e) (by rw[List.mem_singleton.mp z];exact Nat.lt_irrefl _)
end L2
namespace L2
open PySem PySem.Spec PySem.Calls PyProof.Rows PySem.W
noncomputable def TM (K:PySem.W.Frag) (C:Addr) (x qual:Str) (st:Stmt):Prop:=∃f fd,Fun K x qual st f fd/\Meth K C x f
theorem tm_mk {K:PySem.W.Frag} {C:Addr} {x qual:Str} {st:Stmt} {f:Addr} {oc:Value} {od an:Option Addr} {osl:Array (Option Value)} {kV doc pm cdv ct:Value}
  (a:PySem.W.findIn K (.ref C) x=some (some (.ref f))) (i:PySem.W.isFn K (.ref f)=true) (l:K.lookup f=some ⟨oc,od,.func (PySem.W.fnOf x qual (z2N st) (z1G st) (z0G st) .none kV doc pm an cdv ct),osl⟩) (c:PySem.W.codeIn K cdv qual=true) (k:PySem.W.keepIn K (.ref f)=true):TM K C x qual st:=
 ⟨f,_,y6a l c k,a,i,k⟩
noncomputable def HasM (P:Program) (w:World) (K:PySem.W.Frag) (mg:Str->Option Value) (base:Heap) (k:Nat) (C:Addr) (x:Str) (ps:List Str) (sp:Sp):Prop:=
 ∃f fd,FnOk P w K mg base CX0 k f fd ps sp/\(∀us:List Value,us.length=ps.length->bindArgs fd ⟨us,[]⟩=pure (ps.zip us))/\Meth K C x f
theorem HasM.mono {P:Program} {w:World} {K:PySem.W.Frag} {mg:Str->Option Value} {base:Heap} {j k:Nat} {C:Addr} {x:Str} {ps:List Str} {sp:Sp} (h:HasM P w K mg base j C x ps sp) (hk:j<=k):HasM P w K mg base k C x ps sp:=
 let ⟨f,fd,F,b⟩:=h
 ⟨f,fd,F.mono hk,b⟩
theorem TM.has {P:Program} {w:World} {K:PySem.W.Frag} {mg:Str->Option Value} {base:Heap} {C:Addr} {x qual:Str} {st:Stmt} {N ps:List Str} {k:Nat} {sp:Sp} (T:TM K C x qual st) (S:FnScope N ps (z0G st))
  (hb:∀(kV doc pm:Value) (an:Option Addr) (cdv ct:Value) (us:List Value),us.length=ps.length->bindArgs (PySem.W.fnOf x qual (z2N st) (z1G st) (z0G st) .none kV doc pm an cdv ct) ⟨us,[]⟩=pure (ps.zip us))
  (len:∀vs H Q E,sp vs H Q E->vs.length=ps.length)
  (hbody:∀(f:Addr) (cdv:Value) (A:Around) (outer:List Env) (s:Shared) (H:Hp) (vs:List V) (Q:VK) (E:XK),Room k (A.deeper (envOfC qual (z0G st) s.heap.objs.size f cdv))->sp vs H Q E->
   ∃t,PSs (cxOf CX0 P w K mg base N qual (z0G st) f cdv A outer s H E).nox (z1G st) t/\t { nx:=fun _ H'=>Q .non H',rt:=Q } (start N vs) H):HasM P w K mg base (k+1) C x ps sp:=by
 obtain⟨f,fd,F,m⟩:=T
 have ok:=F.ok (P:=P) (w:=w) (mg:=mg) (base:=base) S len fun cdv A outer s H vs Q E hr hsp=>hbody f cdv A outer s H vs Q E hr hsp
 obtain⟨oc,od,kV,doc,pm,an,cdv,ct,osl,rfl,lk,hcd⟩:=F.ex
 exact⟨f,_,ok,hb kV doc pm an cdv ct,m⟩
section
variable {X:Cx} {k:Nat} {C:Addr} {ps:List Str} {sp:Sp} {x m:Str} {p pos apos:Pos} {e o:Expr} {es:List Expr} {ta:TE} {t:TA}
theorem z1m {pl:Sem Bool} (he:PE X o ta) (c:Cls X.K C) (h:HasM X.prog X.w X.K X.mg X.base k C m ps sp) (hr:Room k X.A) (ha:PA X (e::es) t)
  (hst:starEach (e::es) X.env=(false,eval e X.env)::starEach es X.env:=by rfl) (hpl:(backTo pos (starEach es X.env)).any (·.1)=false:=by rfl)
  (ht:eval (.Call (.Attribute o m apos) (e::es) [] pos) X.env=(do
   let ov ←eval o X.env
   standAt apos.atName
   let (f,first) ←holding [ov] (getMethod ov m pl)
   callWith pos f first (backTo pos (starEach (e::es) X.env)) (backToKw pos (keywordEach [] X.env))):=by rfl) :
  PE X (.Call (.Attribute o m apos) (e::es) [] pos) (tMeth C m sp [] E0 ta t):=by
 obtain⟨f,fd,F,hb,hm⟩:=h
 exact y3c he c hm F hr (.all hb) .nil pass0 ha hst hpl ht
theorem y3b {pl:Sem Bool} (he:PE X o ta) (c:Cls X.K C) (h:HasM X.prog X.w X.K X.mg X.base k C m ps sp) (hr:Room k X.A)
  (ht:eval (.Call (.Attribute o m apos) [] [] pos) X.env=(do
   let ov ←eval o X.env
   standAt apos.atName
   let (f,first) ←holding [ov] (getMethod ov m pl)
   callWith pos f first (backTo pos (starEach [] X.env)) (backToKw pos (keywordEach [] X.env))):=by rfl) :
  PE X (.Call (.Attribute o m apos) [] [] pos) (tMeth C m sp [] E0 ta tNil):=by
 obtain⟨f,fd,F,hb,hm⟩:=h
 exact y5S he c hm F hr (.all hb) .nil pass0 ht
theorem pe_mk (h:HasM X.prog X.w X.K X.mg X.base k C "__init__" ps sp) (mk:PySem.W.makesIn X.K C=true) (kc:PySem.W.keepIn X.K (.ref C)=true) (hr:Room (k+1) X.A) (hg:Gl X x) (hm:X.mg x=some (.ref C))
  (ha:PA X (e::es) t) (hdb:(x == ("__debug__" : Str))=false:=by decide) (he:starEach (e::es) X.env=(false,eval e X.env)::starEach es X.env:=by rfl) (hpl:(backTo pos (starEach es X.env)).any (·.1)=false:=by rfl) :
  PE X (.Call (.Name x p) (e::es) [] pos) (tMake C sp [] E0 t):=by
 obtain⟨f,fd,F,hb,hM⟩:=h
 exact y7F ⟨mk,hM.at_,hM.fn,kc⟩ F hr hg hm (.all hb) .nil pass0 ha hdb he hpl
end
noncomputable def tFmt (te:TE):TE:=fun σ H Q=>te σ H fun x H1=>(∃i,x=.int i/\i.natAbs.log2<1920/\Q (.str (toString i)) H1)∨∃z,x=.str z/\z.length<=sizeLine/\Q (.str z) H1
noncomputable abbrev TJ:=Str->TE
noncomputable def jNil:TJ:=fun acc _ H Q=>acc.length<=sizeLine/\Q (.str acc) H
noncomputable def jCons (te:TE) (tj:TJ):TJ:=fun acc σ H Q=>te σ H fun x H1=>∃z,x=.str z/\(acc++z).length<=sizeLine/\tj (acc++z) σ H1 Q
noncomputable def tJoin (tj:TJ):TE:=fun σ H Q=>tj Str.empty σ H Q
section
variable {σ:St} {H:Hp} {Q:VK} {te:TE} {tj:TJ} {acc:Str}
theorem z9q:tFmt te σ H Q=te σ H fun x H1=>(∃i,x=.int i/\i.natAbs.log2<1920/\Q (.str (toString i)) H1)∨∃z,x=.str z/\z.length<=sizeLine/\Q (.str z) H1:=rfl
theorem y0T:jNil acc σ H Q=(acc.length<=sizeLine/\Q (.str acc) H):=rfl
theorem z7c:jCons te tj acc σ H Q=te σ H fun x H1=>∃z,x=.str z/\(acc++z).length<=sizeLine/\tj (acc++z) σ H1 Q:=rfl
theorem z7F:tJoin tj σ H Q=tj Str.empty σ H Q:=rfl
end
section
variable {X:Cx} {e a b:Expr} {es:List Expr} {te:TE} {tj:TJ} {pos:Pos}
noncomputable def PJ (X:Cx) (es:List Expr) (tj:TJ):Prop:=∀(pins:List (Addr×Obj)) (s:Shared) (σ:St) (H:Hp) (acc:Str) (Q:VK),Inv X pins σ H s->tj acc σ H Q->wpAny (model X.prog X.w) X.A (joinParts acc (evalEach es X.env)) (EP X pins σ Q) X.xe s
theorem z8x:PJ X [] jNil:=by
 intro pins s σ H acc Q I h
 exact joinParts_nil ⟨.str acc,H,I.tok _,⟨_,rfl⟩,h.2⟩ h.1
theorem z1L (he:PE X e te) (hj:PJ X es tj):PJ X (e::es) (jCons te tj):=by
 intro pins s σ H acc Q I h
 refine joinParts_cons (thn (he pins s σ H _ I h) fun v s1 ⟨x,H1,I1,r1,q1⟩=>?_)
 obtain⟨z,rfl,hz,q⟩:=q1
 obtain⟨t,rfl⟩:=r1
 exact⟨hz,hj pins s1 σ H1 _ Q I1 q⟩
theorem z5b (hj:PJ X (a::b::es) tj):PE X (.JoinedStr (a::b::es) pos) (tJoin tj):=by
 intro pins s σ H Q I h
 exact JoinedStr_many (hj pins s σ H _ Q I h)
theorem z5d (he:PE X e te):PE X (.FormattedValue e (-1) none pos) (tFmt te):=by
 intro pins s σ H Q I h
 refine FormattedValue_plain (thn (he pins s σ H _ I h) fun v s1 ⟨x,H1,I1,r1,q1⟩=>?_)
 rcases q1 with⟨i,rfl,hi,q⟩|⟨z,rfl,hz,q⟩
 ·obtain⟨t,rfl⟩:=r1
  exact formatField_int_small hi ⟨.str _,H1,I1.tok _,⟨_,rfl⟩,q⟩
 ·obtain⟨t,rfl⟩:=r1
  exact formatField_str (fun t' tk=>⟨.str _,H1,I1.tok _,⟨_,rfl⟩,q⟩) hz
theorem y2K:MtR X "str.startswith" (fun x vs H Q=>∃(z y:Str) (i:Int),x=.str z/\vs=[.str y,.int i]/\Q (.bl (decide (PySem.fromIndex z.length i+y.length<=z.length) && Builtin.Str.subAt z y (PySem.fromIndex z.length i))) H):=by
 intro pins s σ H x vs v us Q I rx rs h
 obtain⟨z,y,i,rfl,rfl,q⟩:=h
 obtain⟨t,rfl⟩:=rx
 obtain⟨u,w,rfl,r1,r2⟩:=Vals.two rs
 obtain⟨t1,rfl⟩:=r1
 obtain⟨t2,rfl⟩:=r2
 exact call_gives PySem.F.slot_str_startswith (typeIs_str _ _ _) PySem.F.entry_str_startswith (PySem.F.args_str_startswith_3 _ _ _) (gives_str_startswith_from z y i t t1 t2) ⟨.bl _,H,I.tok _,rfl,q⟩
end
section
variable {K:PySem.W.Frag} {σ:St} {H:Hp} {Q:VK} {D:Ends} {ta tv:TE} {t:TA} {f m:Str} {C:Addr} {sp:Sp} {dvs:List V} {E:XK} {rd:V->V->Hp->VK->Prop}
theorem z9r:tFld K ta f σ H Q=ta σ H fun x H1=>∃a C dx fs v,x=.ref a/\H1 a=some (.ins C dx fs)/\Cls K C/\NoAttr K C f/\fs.lookup f=some v/\Q v H1:=rfl
theorem y0H:sFld K ta tv f D σ H=tv σ H fun y H1=>ta σ H1 fun x H2=>∃a C dx fs,x=.ref a/\H2 a=some (.ins C dx fs)/\Cls K C/\NoAttr K C f/\fs.length<1000/\D.nx σ (upd H2 a (.ins C dx (putF f y fs))):=rfl
theorem z4R:y3M K ta tv rd f D σ H=ta σ H fun x H1=>∃a C dx fs v,x=.ref a/\H1 a=some (.ins C dx fs)/\Cls K C/\NoAttr K C f/\fs.lookup f=some v/\tv σ H1 fun y H2=>rd v y H2 fun z H3=>∃dx' fs',H3 a=some (.ins C dx' fs')/\fs'.length<1000/\D.nx σ (upd H3 a (.ins C dx' (putF f z fs'))):=rfl
theorem z7C:tMeth C m sp dvs E ta t σ H Q=ta σ H fun x H1=>∃a dx fs,x=.ref a/\H1 a=some (.ins C dx fs)/\fs.lookup m=none/\t σ H1 fun vs H2=>sp (x::(vs++dvs)) H2 Q E:=rfl
theorem z7E:tMake C sp dvs E t σ H Q=t σ H fun vs H1=>∀x dx,H1 x=none->H1 dx=none->dx≠x->sp (.ref x::(vs++dvs)) (upd (upd H1 dx (.own x)) x (.ins C dx [])) (fun v H2=>v=.non/\Q (.ref x) H2) E:=rfl
end
end L2
namespace L2
open PySem PySem.Spec PySem.Calls PyProof.Rows PySem.W
noncomputable def HasMX (P:Program) (w:World) (K:PySem.W.Frag) (mg:Str->Option Value) (base:Heap) (k:Nat) (C:Addr) (x:Str) (ps:List Str) (sp:Sp):Prop:=
 ∃f fd,FnOk P w K mg base (CXx P w) k f fd ps sp/\(∀us:List Value,us.length=ps.length->bindArgs fd ⟨us,[]⟩=pure (ps.zip us))/\Meth K C x f
theorem HasMX.mono {P:Program} {w:World} {K:PySem.W.Frag} {mg:Str->Option Value} {base:Heap} {j k:Nat} {C:Addr} {x:Str} {ps:List Str} {sp:Sp} (h:HasMX P w K mg base j C x ps sp) (hk:j<=k):HasMX P w K mg base k C x ps sp:=
 let ⟨f,fd,F,b⟩:=h
 ⟨f,fd,F.mono hk,b⟩
theorem TM.hasX {P:Program} {w:World} {K:PySem.W.Frag} {mg:Str->Option Value} {base:Heap} {C:Addr} {x qual:Str} {st:Stmt} {N ps:List Str} {k:Nat} {sp:Sp} (T:TM K C x qual st) (S:FnScope N ps (z0G st))
  (hb:∀(kV doc pm:Value) (an:Option Addr) (cdv ct:Value) (us:List Value),us.length=ps.length->bindArgs (PySem.W.fnOf x qual (z2N st) (z1G st) (z0G st) .none kV doc pm an cdv ct) ⟨us,[]⟩=pure (ps.zip us))
  (len:∀vs H Q E,sp vs H Q E->vs.length=ps.length)
  (hbody:∀(f:Addr) (cdv:Value) (A:Around) (outer:List Env) (s:Shared) (H:Hp) (vs:List V) (Q:VK) (E:XK),Room k (A.deeper (envOfC qual (z0G st) s.heap.objs.size f cdv))->sp vs H Q E->
   ∃t,PSs (cxOf (CXx P w) P w K mg base N qual (z0G st) f cdv A outer s H E) (z1G st) t/\t { nx:=fun _ H'=>Q .non H',rt:=Q } (start N vs) H):HasMX P w K mg base (k+1) C x ps sp:=by
 obtain⟨f,fd,F,m⟩:=T
 obtain⟨oc,od,kV,doc,pm,an,cdv,ct,osl,rfl,lk,hcd⟩:=F.ex
 exact⟨f,_,fn_of lk hcd S len fun A outer s H vs Q E hr hsp=>hbody f cdv A outer s H vs Q E hr hsp,hb kV doc pm an cdv ct,m⟩
section
variable {X:Cx} {k:Nat} {C:Addr} {ps:List Str} {sp:Sp} {x m:Str} {p pos apos:Pos} {e o:Expr} {es:List Expr} {ta:TE} {t:TA} {E:XK}
theorem y3a {pl:Sem Bool} (he:PE X o ta) (c:Cls X.K C) (h:HasMX X.prog X.w X.K X.mg X.base k C m ps sp) (hr:Room k X.A) (hx:z3E (CXx X.prog X.w) X E) (ha:PA X (e::es) t)
  (hst:starEach (e::es) X.env=(false,eval e X.env)::starEach es X.env:=by rfl) (hpl:(backTo pos (starEach es X.env)).any (·.1)=false:=by rfl)
  (ht:eval (.Call (.Attribute o m apos) (e::es) [] pos) X.env=(do
   let ov ←eval o X.env
   standAt apos.atName
   let (f,first) ←holding [ov] (getMethod ov m pl)
   callWith pos f first (backTo pos (starEach (e::es) X.env)) (backToKw pos (keywordEach [] X.env))):=by rfl) :
  PE X (.Call (.Attribute o m apos) (e::es) [] pos) (tMeth C m sp [] E ta t):=by
 obtain⟨f,fd,F,hb,hm⟩:=h
 exact y3c he c hm F hr (.all hb) .nil hx ha hst hpl ht
end
end L2
namespace L2
open PySem PySem.Spec PyProof.Rows SM
section
variable {X:Cx}
end
end L2
namespace SM
open L2 PySem PySem.Builtin.Str
noncomputable def splN (c:Nat):List Nat->Nat->List (List Nat)
 | [],_=>[[]]
 | x::xs,n=>if n=0 then [x::xs] else if x=c then []::splN c xs (n-1) else match splN c xs n with
  | h::t=>(x::h)::t
  | []=>[[x]]
theorem z6Q (c x:Nat) (xs:List Nat) (n:Nat):splN c (x::xs) n=if n=0 then [x::xs] else if x=c then []::splN c xs (n-1) else match splN c xs n with
  | h::t=>(x::h)::t
  | []=>[[x]]:=rfl
theorem z8b (c:Nat) (l:List Nat):splN c l 0=[l]:=by
 cases l <;> simp [splN]
theorem z2l (c:Nat):∀(l:List Nat) (n:Nat),∃h t,splN c l n=h::t
 | [],_=>⟨_,_,rfl⟩
 | x::xs,n=>by
  obtain⟨h,t,e⟩:=z2l c xs n
  unfold splN
  split
  ·exact⟨_,_,rfl⟩
  ·split
   ·exact⟨_,_,rfl⟩
   ·rw[e];exact⟨_,_,rfl⟩
theorem z4U (z:Str) (c:Nat):∀(l:List Nat) (k i n:Nat),z.cps.toList.drop k=l->k+l.length=z.length->i<=k->
  (((i::((cutsF c l k).take n).map (· + 1)).zip ((cutsF c l k).take n++[z.length])).map fun (a,b)=>strSub z a b)=match splN c l n with
   | h::t=>tx ((z.cps.toList.drop i).take (k-i)++h)::t.map tx
   | []=>[]
 | [],k,i,n,hd,hl,hi=>by
  simp only [cutsF,splN,List.take_nil,List.map_nil,List.nil_append,List.zip_cons_cons,List.zip_nil_left,List.map_cons,List.append_nil]
  rw[z1U]
  have:z.length=k:=by simpa using hl.symm
  rw[this]
 | x::xs,k,i,0,hd,hl,hi=>by
  rw[z8b]
  simp only [List.take_zero,List.map_nil,List.nil_append,List.zip_cons_cons,List.zip_nil_left,List.map_cons]
  rw[z1U]
  congr 2
  have lz:z.cps.toList.length=z.length:=by simp [Str.length]
  have e1:(z.cps.toList.drop i).take (z.length-i)=z.cps.toList.drop i:=List.take_of_length_le (by rw[List.length_drop];omega)
  have e2:(z.cps.toList.drop i).drop (k-i)=x::xs:=by rw[List.drop_drop,show i+(k-i)=k by omega,hd]
  rw[e1,←e2,List.take_append_drop]
 | x::xs,k,i,n+1,hd,hl,hi=>by
  have hd':z.cps.toList.drop (k+1)=xs:=by rw[←List.tail_drop,hd];rfl
  have hl':k+1+xs.length=z.length:=by rw[List.length_cons] at hl;omega
  have hx:z.cps.toList[k]?=some x:=by
   have:(z.cps.toList.drop k)[0]?=some x:=by rw[hd];rfl
   rw[List.getElem?_drop] at this
   exact this
  by_cases c1:x=c
  ·obtain⟨h,t,e⟩:=z2l c xs n
   have ih:=z4U z c xs (k+1) (k+1) n hd' hl' (Nat.le_refl _)
   rw[e] at ih
   simp only [Nat.sub_self,List.take_zero,List.nil_append] at ih
   have e0:splN c (x::xs) (n+1)=[]::splN c xs n:=by
    rw[z6Q,if_neg (by omega),if_pos c1]
    rfl
   have e3:(cutsF c (x::xs) k).take (n+1)=k::(cutsF c xs (k+1)).take n:=by
    simp only [cutsF,c1,if_true,List.take_succ_cons]
   rw[e0,e3,e]
   simp only [List.map_cons,List.cons_append,List.zip_cons_cons,List.append_nil]
   rw[ih,z1U]
  ·obtain⟨h,t,e⟩:=z2l c xs (n+1)
   have ih:=z4U z c xs (k+1) i (n+1) hd' hl' (by omega)
   rw[e] at ih
   have e0:splN c (x::xs) (n+1)=(x::h)::t:=by
    rw[z6Q,if_neg (by omega),if_neg c1,e]
   have e3:cutsF c (x::xs) k=cutsF c xs (k+1):=by
    simp only [cutsF,c1,if_false]
   rw[e0,e3,ih]
   have e2:(z.cps.toList.drop i).take (k+1-i)=(z.cps.toList.drop i).take (k-i)++[x]:=by
    rw[show k+1-i=(k-i)+1 by omega,List.take_add_one,List.getElem?_drop,show i+(k-i)=k by omega,hx]
    rfl
   simp only [e2,List.append_assoc,List.singleton_append]
theorem z5i (z:Str) (c lim:Nat):∀(l:List Nat) (k:Nat) (st:Array Nat×Nat),z.cps.toList.drop k=l->k+l.length=z.length->st.2<=k->
  (forIn (List.range' k (l.length+1)) st (StrLaws.occBody z ⟨#[c]⟩ z.length lim)).run.fst.toList=st.1.toList++(cutsF c l k).take (lim-st.1.size)
 | [],k,st,hd,hl,h2=>by
  have hk:k=z.length:=by simpa using hl
  show (forIn [k] st (StrLaws.occBody z ⟨#[c]⟩ z.length lim)).run.fst.toList=_
  rw[List.forIn_cons]
  unfold StrLaws.occBody
  rw[if_neg (fun h=>by have:=h.1.2;simp [Str.length] at this hk;omega)]
  simp [cutsF]
 | x::xs,k,st,hd,hl,h2=>by
  have hd':z.cps.toList.drop (k+1)=xs:=by rw[←List.tail_drop,hd];rfl
  have hl':k+1+xs.length=z.length:=by rw[List.length_cons] at hl;omega
  show (forIn (k::List.range' (k+1) (xs.length+1)) st (StrLaws.occBody z ⟨#[c]⟩ z.length lim)).run.fst.toList=_
  rw[List.forIn_cons]
  by_cases c1:x=c/\st.1.size<lim
  ·have hb:StrLaws.occBody z ⟨#[c]⟩ z.length lim k st=pure (ForInStep.yield (st.fst.push k,k+1)):=by
    unfold StrLaws.occBody
    exact if_pos ⟨⟨⟨c1.2,h2⟩,by show k+1<=z.length;omega⟩,(z7M z c k hd).mpr c1.1⟩
   rw[hb]
   have ih:=z5i z c lim xs (k+1) (st.fst.push k,k+1) hd' hl' (Nat.le_refl _)
   have e:lim-st.1.size=(lim-(st.1.push k).size)+1:=by rw[Array.size_push];omega
   simp only [cutsF,c1.1,if_true]
   refine Eq.trans ih ?_
   rw[e,List.take_succ_cons]
   simp
  ·have hb:StrLaws.occBody z ⟨#[c]⟩ z.length lim k st=pure (ForInStep.yield (st.fst,st.snd)):=by
    unfold StrLaws.occBody
    exact if_neg fun h=>c1 ⟨(z7M z c k hd).mp h.2,h.1.1.1⟩
   rw[hb]
   have ih:=z5i z c lim xs (k+1) (st.fst,st.snd) hd' hl' (by show st.2<=k+1;omega)
   refine Eq.trans ih ?_
   by_cases c2:x=c
   ·have:lim-st.1.size=0:=by
     rcases Nat.lt_or_ge st.1.size lim with z1|z1
     ·exact absurd ⟨c2,z1⟩ c1
     ·omega
    simp only [this,List.take_zero]
   ·simp only [cutsF,c2,if_false]
theorem z3x (z:Str) (c lim:Nat):occurrences z ⟨#[c]⟩ 0 z.length lim=(cutsF c z.cps.toList 0).take lim:=by
 rw[StrLaws.occ_eq]
 have:=z5i z c lim z.cps.toList 0 (#[],0) rfl (by simp [Str.length]) (Nat.le_refl _)
 have e:z.length+1-0=z.cps.toList.length+1:=by simp [Str.length]
 rw[e,this]
 simp
theorem z8a (z:Str) (c n:Nat) (hc:c<256):Txt.splitMax z ⟨#[c]⟩ (n:Int)=(splN c z.cps.toList n).map tx:=by
 have lim:limitOf z (n:Int)=n:=by
  unfold limitOf
  rw[if_neg (by omega)]
  omega
 have main:partsBetween z (occurrences z ⟨#[c]⟩ 0 z.length (limitOf z n)) 1=(splN c z.cps.toList n).map tx:=by
  rw[lim,z3x]
  unfold partsBetween
  have:=z4U z c z.cps.toList 0 0 n rfl (by simp [Str.length]) (Nat.le_refl _)
  obtain⟨h,t,e⟩:=z2l c z.cps.toList n
  rw[e] at this ⊢
  simp only [Nat.sub_self,List.take_zero,List.nil_append] at this
  exact this
 have one:(cutsF c z.cps.toList 0).take n=[]->(splN c z.cps.toList n).map tx=[z]:=fun e=>by
  rw[←main,lim,z3x,e]
  have e3:(z.cps.toList.take z.cps.size)=z.cps.toList:=List.take_of_length_le (by simp)
  simp [partsBetween,z1U,Str.length,e3,z1c]
 unfold Txt.splitMax
 split
 ·rename_i h
  have k1:Builtin.Str.strKind ⟨#[c]⟩=1:=by simp [Builtin.Str.strKind,hc]
  have kz:1<=Builtin.Str.strKind z:=by unfold Builtin.Str.strKind;split <;> (try split) <;> decide
  have lz:z.length=0:=by
   rw[k1,Bool.or_eq_true,decide_eq_true_eq,decide_eq_true_eq] at h
   have e1:(⟨#[c]⟩:Str).length=1:=rfl
   omega
  have ez:z.cps.toList=[]:=List.eq_nil_of_length_eq_zero (by simpa [Str.length] using lz)
  rw[one (by rw[ez];simp [cutsF])]
 ·split
  ·rename_i h
   rw[lim,z3x] at h
   rw[one (List.isEmpty_iff.mp h)]
  ·exact main
theorem z6t (c:Nat):∀(l:List Nat) (k:Nat),(cutsF c l k=[]->l.takeWhile (· != c)=l)/\∀i r,cutsF c l k=i::r->k<=i/\l.takeWhile (· != c)=l.take (i-k)
 | [],k=>⟨fun _=>rfl,fun i r h=>nomatch h⟩
 | x::xs,k=>by
  obtain⟨a,b⟩:=z6t c xs (k+1)
  unfold cutsF
  by_cases e:x=c
  ·rw[if_pos e]
   refine⟨(fun h=>nomatch h),fun i r h=>?_⟩
   injection h with h1 h2
   subst h1
   rw[Nat.sub_self,List.take_zero,List.takeWhile_cons]
   simp [e]
  ·rw[if_neg e,List.takeWhile_cons]
   have ne:(x != c)=true:=by simp [e]
   rw[ne]
   refine⟨fun h=>?_,fun i r h=>?_⟩
   ·simp only [if_true]
    rw[a h]
   ·obtain⟨h1,h2⟩:=b i r h
    refine⟨by omega,?_⟩
    simp only [if_true]
    rw[h2,show i-k=(i-(k+1))+1 by omega,List.take_succ_cons]
theorem z9B (z:Str) (c:Nat):(Txt.partition z ⟨#[c]⟩).1=tx (z.cps.toList.takeWhile (· != c)):=by
 obtain⟨a,b⟩:=z6t c z.cps.toList 0
 unfold Txt.partition
 rw[z3x]
 cases e:cutsF c z.cps.toList 0 with
 | nil=>
  simp only [List.take_nil]
  rw[a e,z1c]
 | cons i r=>
  obtain⟨_,h⟩:=b i r e
  rw[List.take_succ_cons]
  simp only
  rw[z1U,h]
  simp
theorem z8c {c:Nat}:∀ {p:List Nat} (n:Nat),c∉p->splN c p n=[p]
 | [],_,_=>rfl
 | x::xs,n,h=>by
  have ih:=z8c (c:=c) (p:=xs) n fun z=>h (List.mem_cons_of_mem _ z)
  rw[z6Q]
  split
  ·rfl
  ·rw[if_neg (fun e=>h (by simp [e])),ih]
theorem y1A {c:Nat} {r:List Nat}:∀ {p:List Nat} (n:Nat),c∉p->splN c (p++c::r) (n+1)=p::splN c r n
 | [],n,_=>by
  show splN c (c::r) (n+1)=_
  rw[z6Q,if_neg (by omega),if_pos rfl]
  rfl
 | x::xs,n,h=>by
  have ih:=y1A (c:=c) (p:=xs) (r:=r) n fun z=>h (List.mem_cons_of_mem _ z)
  show splN c (x::(xs++c::r)) (n+1)=_
  rw[z6Q,if_neg (by omega),if_neg (fun e=>h (by simp [e])),ih]
theorem y0z {c:Nat}:∀(ws:List (List Nat)) (n:Nat),ws≠[]->ws.length<=n+1->(∀p∈ws.dropLast,c∉p)->(ws.length<=n->∀p∈ws,c∉p)->splN c (glu c ws) n=ws
 | [],_,h,_,_,_=>absurd rfl h
 | [p],0,_,_,_,_=>z8b c p
 | [p],n+1,_,_,_,h=>z8c (n+1) (h (by simp) p (by simp))
 | p::q::r,0,_,h,_,_=>by simp at h
 | p::q::r,n+1,_,h,h1,h2=>by
  show splN c (p++c::glu c (q::r)) (n+1)=_
  rw[y1A n (h1 p (by simp [List.dropLast])),y0z (q::r) n (by simp) (by simp at h ⊢;omega) (fun x hx=>h1 x (by simp [List.dropLast] at hx ⊢;simp [hx])) (fun k x hx=>h2 (by simp at k ⊢;omega) x (by simp at hx ⊢;simp [hx]))]
theorem z4J {c:Nat}:∀ {l:List Nat} {n:Nat} {w:List Nat},w∈splN c l n->w.length<=l.length/\∀x∈w,x∈l
 | [],n,w,h=>by
  have:w=[]:=by simpa [splN] using h
  rw[this]
  exact⟨Nat.le_refl _,fun x hx=>hx⟩
 | y::ys,n,w,h=>by
  rw[z6Q] at h
  split at h
  ·rw[List.mem_singleton.mp h]
   exact⟨Nat.le_refl _,fun x hx=>hx⟩
  ·split at h
   ·rcases List.mem_cons.mp h with rfl|h
    ·exact⟨Nat.zero_le _,fun x hx=>by cases hx⟩
    ·obtain⟨a,b⟩:=z4J h
     exact⟨by rw[List.length_cons];omega,fun x hx=>List.mem_cons_of_mem _ (b x hx)⟩
   ·obtain⟨p,t,e⟩:=z2l c ys n
    rw[e] at h
    have ih:=fun w (hw:w∈p::t)=>z4J (c:=c) (l:=ys) (n:=n) (w:=w) (by rw[e];exact hw)
    rcases List.mem_cons.mp h with rfl|h
    ·obtain⟨a,b⟩:=ih p (by simp)
     refine⟨by rw[List.length_cons,List.length_cons];omega,fun x hx=>?_⟩
     rcases List.mem_cons.mp hx with rfl|hx
     ·exact List.mem_cons_self
     ·exact List.mem_cons_of_mem _ (b x hx)
    ·obtain⟨a,b⟩:=ih w (List.mem_cons_of_mem _ h)
     exact⟨by rw[List.length_cons];omega,fun x hx=>List.mem_cons_of_mem _ (b x hx)⟩
end SM
namespace L2
open PySem PySem.Spec PySem.Calls PyProof.Rows PySem.W SM
section
variable {X:Cx}
theorem z4i:MtR X "str.partition" (fun x vs H Q=>∃(z y:Str),x=.str z/\vs=[.str y]/\(y.length == 0)=false/\z.length<=sizeLine/\∀D,H D=none->Q (.ref D) (upd H D (.tup [.str (Txt.partition z y).1,.str (Txt.partition z y).2.1,.str (Txt.partition z y).2.2]))):=by
 intro pins s σ H x vs v us Q I rx rs h
 obtain⟨z,y,rfl,rfl,hy,hz,q⟩:=h
 obtain⟨t,rfl⟩:=rx
 obtain⟨w,rfl,u,rfl⟩:=Vals.one rs
 refine call_meets PySem.F.slot_str_partition (typeIs_str _ _ _) PySem.F.entry_str_partition (PySem.F.args_str_partition_2 _ _) (meets_str_partition z y t u hy hz) ?_
 have q2:=q _ I.fresh
 unfold Txt.partition at q2
 cases e:Builtin.Str.occurrences z y 0 z.length 1 with
 | nil=>
  rw[e] at q2
  refine⟨.ref _,_,I.laid (o:=.tup [.str z,.str Str.empty,.str Str.empty]) (t':=s.toks+1) (fun b u e=>Heap.get?_push_of_some _ e) (Nat.le_refl _) ⟨by show 3<=sizeLine;decide,_,.cons ⟨t,rfl⟩ (.cons ⟨s.toks,rfl⟩ (.cons ⟨s.toks,rfl⟩ .nil)),⟨_,Heap.get?_push_size _ rfl,rfl,_,rfl⟩⟩,rfl,q2⟩
 | cons i r=>
  rw[e] at q2
  refine⟨.ref _,_,I.laid (o:=.tup [.str (Builtin.Str.strSub z 0 i),.str y,.str (Builtin.Str.strSub z (i+y.length) z.length)]) (t':=s.toks+1+1) (fun b u e=>Heap.get?_push_of_some _ e) (Nat.le_refl _) ⟨by show 3<=sizeLine;decide,_,.cons ⟨s.toks,rfl⟩ (.cons ⟨u,rfl⟩ (.cons ⟨s.toks+1,rfl⟩ .nil)),⟨_,Heap.get?_push_size _ rfl,rfl,_,rfl⟩⟩,rfl,q2⟩
theorem y3k:MtR X "str.split" (fun x vs H Q=>∃(z y:Str) (n:Nat),x=.str z/\vs=[.str y,.int (n:Int)]/\(y.length == 0)=false/\n<1000/\z.length+10<=sizeLine/\∀D,H D=none->Q (.ref D) (upd H D (.lst ((Txt.splitMax z y (n:Int)).map V.str)))):=by
 intro pins s σ H x vs v us Q I rx rs h
 obtain⟨z,y,n,rfl,rfl,hy,hn,hz,q⟩:=h
 obtain⟨t,rfl⟩:=rx
 obtain⟨u0,w0,rfl,r1,r2⟩:=Vals.two rs
 obtain⟨u,rfl⟩:=r1
 obtain⟨k0,rfl⟩:=r2
 have hk:(decide ((n:Int) < -(2^63:Int)) || decide ((n:Int) ≥ 2^63))=false:=by
  rw[decide_eq_false (by omega),decide_eq_false (by omega)]
  rfl
 have ln:(Builtin.Str.partsBetween z (Builtin.Str.occurrences z y 0 z.length (limitOf z n)) y.length).length<=sizeLine:=by
  have:=PySem.StrLaws.occ_length_le z y 0 z.length (limitOf z n)
  have lm:limitOf z n=n:=by
   unfold limitOf
   rw[if_neg (by omega)]
   omega
  have e:sizeLine=16777216:=rfl
  simp only [Builtin.Str.partsBetween,List.length_map,List.length_zip,List.length_cons,List.length_append,List.length_nil]
  omega
 have fin:∀(l:List (Str×Tok)) (tk:Nat),l.map (·.1)=Txt.splitMax z y n->EP X pins σ Q (.ref s.heap.objs.size) { s with toks:=tk,heap:=s.heap.push { cls:=.type "list",data:=.seq (strValues l).toArray } }:=fun l tk e=>by
  have e2:(Txt.splitMax z y n).map V.str=l.map fun p=>V.str p.1:=by rw[←e,List.map_map];rfl
  have ll:l.length<=sizeLine:=by
   have:l.length=(Txt.splitMax z y n).length:=by rw[←e,List.length_map]
   rw[this]
   unfold Txt.splitMax
   split
   ·show 1<=sizeLine;decide
   ·split
    ·show 1<=sizeLine;decide
    ·exact ln
  have q2:=q _ I.fresh
  rw[e2] at q2
  exact⟨.ref _,_,I.lnew (t':=tk) (z5D l) (by rw[List.length_map];exact ll),rfl,q2⟩
 cases h1:(decide (z.length<y.length) || decide (Builtin.Str.strKind z<Builtin.Str.strKind y)) with
 | true=>
  refine call_meets PySem.F.slot_str_split (typeIs_str _ _ _) PySem.F.entry_str_split (PySem.F.args_str_split_3 _ _ _) (meets_str_split_max_cannot_occur z y n t u k0 hk h1) ?_
  exact fin [(z,t)] s.toks (by unfold Txt.splitMax;rw[if_pos h1];rfl)
 | false=>
  cases h2:(Builtin.Str.occurrences z y 0 z.length (limitOf z n)).isEmpty with
  | true=>
   refine call_meets PySem.F.slot_str_split (typeIs_str _ _ _) PySem.F.entry_str_split (PySem.F.args_str_split_3 _ _ _) (meets_str_split_max_not_found z y n t u k0 hk h1 hy h2) ?_
   exact fin [(z,t)] s.toks (by unfold Txt.splitMax;rw[if_neg (by rw[h1];decide),if_pos h2];rfl)
  | false=>
   refine call_meets PySem.F.slot_str_split (typeIs_str _ _ _) PySem.F.entry_str_split (PySem.F.args_str_split_3 _ _ _) (meets_str_split_sep_max z y n t u k0 hk h1 hy h2 (by omega) ln) ?_
   rw[strsFrom_eq]
   exact fin _ _ (by rw[numbered_texts];unfold Txt.splitMax;rw[if_neg (by rw[h1];decide),if_neg (by rw[h2];decide)])
noncomputable def strIs (z:Str):Value->Bool
 | .str a _=>a == z
 | _=>false
theorem y1u {z:Str} {t:Tok}:∀ {ys:List Str} {its:List Value},Vals (ys.map V.str) its->its.any (strIs z)=ys.contains z/\∀(A:Around) (s:Shared),∀y∈its,SeqAt.EqAt A s y (.str z t) (strIs z y)
 | [],_,.nil=>⟨rfl,fun _ _ y hy=>nomatch hy⟩
 | y::ys,_,.cons r rs=>by
  obtain⟨t1,rfl⟩:=r
  obtain⟨a,b⟩:=y1u (z:=z) (t:=t) rs
  refine⟨?_,fun A s v hv=>?_⟩
  ·rw[List.any_cons,List.contains_cons,a]
   congr 1
   show (y == z)=(z == y)
   rw[Bool.eq_iff_iff,beq_iff_eq,beq_iff_eq]
   exact⟨Eq.symm,Eq.symm⟩
  ·rcases List.mem_cons.mp hv with rfl|hv
   ·exact SeqAt.EqAt.str_str y t1 z t
   ·exact b A s v hv
theorem y8K:OpR X (compareOp .In) (fun x y H Q=>∃(z:Str) (a:Addr) (ys:List Str),x=.str z/\y=.ref a/\SqT X.K H a (ys.map V.str)/\Q (.bl (ys.contains z)) H):=by
 intro pins s σ H x y v u Q I rx ry h
 obtain⟨z,a,ys,rfl,rfl,hq,q⟩:=h
 obtain⟨t,rfl⟩:=rx
 cases ry
 obtain⟨its,rv,it,_⟩:=I.tuple hq
 obtain⟨e1,e2⟩:=y1u (z:=z) (t:=t) rv
 refine SeqAt.in_tupleAt (strIs z) it (fun y hy=>e2 _ _ y (by simpa using hy)) ?_
 rw[List.any_toArray,e1]
 exact⟨.bl _,H,I,rfl,q⟩
end
noncomputable def CDT (P:Program) (w:World) (K:PySem.W.Frag) (mg:Str->Option Value) (x:Str) (tb:List (Str×List Str)):Prop:=
 ∃(a:Addr) (o:Obj) (kvs:List (Key×Value)),mg x=some (.ref a)/\K.lookup a=some o/\(a == sysModules)=false/\o.dict=none/\(∀h:Heap,h.get? a=some o->h.DictOf (z0s P w) a kvs)/\
  Paired (fun (p:Str×List Str) (q:Key×Value)=>q.1=.inr p.1/\∃b,q.2=.ref b/\∀H,SqT K H b (p.2.map V.str)) tb kvs
theorem y6e {K:PySem.W.Frag} {z:Str}:∀ {tb:List (Str×List Str)} {kvs:List (Key×Value)},Paired (fun (p:Str×List Str) (q:Key×Value)=>q.1=.inr p.1/\∃b,q.2=.ref b/\∀H,SqT K H b (p.2.map V.str)) tb kvs->
  (tb.lookup z=none/\valueAt kvs (.inr z)=none)∨∃ys b,tb.lookup z=some ys/\valueAt kvs (.inr z)=some (.ref b)/\∀H,SqT K H b (ys.map V.str)
 | [],_,.nil=>.inl ⟨rfl,rfl⟩
 | p::tb,q::kvs,.cons r rs=>by
  obtain⟨k,ys⟩:=p
  obtain⟨k2,v⟩:=q
  obtain⟨e1,b,e2,hb⟩:=r
  simp only at e1 e2 hb
  subst e1 e2
  by_cases c:k=z
  ·subst c
   refine .inr ⟨ys,b,by simp [List.lookup],by simp [valueAt],hb⟩
  ·have c1:¬z=k:=fun e=>c e.symm
   have e3:((k,ys)::tb).lookup z=tb.lookup z:=by
    rw[List.lookup_cons,beq_eq_false_iff_ne.mpr c1]
   have e4:valueAt ((Sum.inr k,Value.ref b)::kvs) (Sum.inr z:Key)=valueAt kvs (.inr z):=by
    have c2:¬(Sum.inr k:Key)=Sum.inr z:=fun e=>c (Sum.inr.inj e)
    simp [valueAt,List.find?_cons,c]
   rw[e3,e4]
   exact y6e rs
noncomputable def tCGet (K:PySem.W.Frag) (tb:List (Str×List Str)) (ty:TE):TE:=fun σ H Q=>ty σ H fun y H2=>∃z,y=.str z/\(tb.lookup z=none->Q .non H2)/\∀ys b,tb.lookup z=some ys->SqT K H2 b (ys.map V.str)->Q (.ref b) H2
theorem y0w {K:PySem.W.Frag} {tb:List (Str×List Str)} {ty:TE} {σ:St} {H:Hp} {Q:VK}:tCGet K tb ty σ H Q=ty σ H fun y H2=>∃z,y=.str z/\(tb.lookup z=none->Q .non H2)/\∀ys b,tb.lookup z=some ys->SqT K H2 b (ys.map V.str)->Q (.ref b) H2:=rfl
theorem y7I {X:Cx} {x:Str} {tb:List (Str×List Str)} {e:Expr} {p apos cpos:Pos} {ty:TE} (hc:CDT X.prog X.w X.K X.mg x tb) (hg:Gl X x) (he:PE X e ty) (m:M1 X (.Name x p) "get" apos e cpos) (hdb:(x == ("__debug__" : Str))=false:=by decide) :
  PE X (.Call (.Attribute (.Name x p) "get" apos) [e] [] cpos) (tCGet X.K tb ty):=by
 intro pins s σ H Q I h
 obtain⟨a,o,kvs,hm,hk,hs,hd,hh,hp⟩:=hc
 have g:=z5c (X:=X) (x:=x) (pos:=p) (v:=.ref a) hg hm rfl hdb pins s σ H (fun v H1=>v=.ref a/\H1=H) I (show (tC (.ref a):TE) σ H _ from⟨rfl,rfl⟩)
 refine wpAny_Call_method m.base m.few m.line PySem.F.plainAttrs_dict PySem.F.slot_dict_get PySem.F.type_dict_get (thn g fun u s1 ⟨x1,H1,I1,rx,e1,e2⟩=>?_)
 subst e1 e2
 obtain rfl:u=Value.ref a:=rx
 have ho:=I1.kIn a o hk
 have dd:=hh _ ho
 refine⟨dd.typeIs,fun b q=>?_,?_⟩
 ·cases q
  exact⟨o,ho,hd⟩
 rw[m.trees]
 refine Calls.callWith_builtin rfl (Calls.evalArgs_plain (Calls.spliced_cons (thn (he pins s1 σ H1 _ I1 h) fun iv s2 ⟨y,H2,I2,ry,z,ey,q1,q2⟩=>Calls.spliced_nil ?_)))
 subst ey
 have dd2:=hh _ (I2.kIn a o hk)
 refine call_meetsIn PySem.F.slot_dict_get dd2.typeIs PySem.F.entry_dict_get (PySem.F.args_dict_get_2 _ _) (meets_dict_get (z0s X.prog X.w) a (kV_is (k:=.inr z) ry) hs) ⟨_,dd2.mapOf,?_⟩
 rcases y6e (z:=z) hp with⟨l1,l2⟩|⟨ys,b,l1,l2,hb⟩
 ·have e:(valueAt kvs (Sum.inr z:Key)).getD Value.none=.none:=by rw[l2];rfl
  refine⟨.non,H2,I2.tok _,?_,q1 l1⟩
  exact e
 ·have e:(valueAt kvs (Sum.inr z:Key)).getD Value.none=.ref b:=by rw[l2];rfl
  refine⟨.ref b,H2,I2.tok _,?_,q2 ys b l1 (hb H2)⟩
  exact e
inductive CPairs (w:World) (K:PySem.W.Frag):List DictEntry->List (Str×List Str)->Prop
 | nil:CPairs w K [] []
 | cons {e:DictEntry} {es:List DictEntry} {x:Str} {t:Tok} {ys:List Str} {tb:List (Str×List Str)} {b:Addr} {o:Obj} {its:Array Value} {n:Nat}:e.key=.str x t->e.hash=hashStr w x->e.val=.ref b->K.lookup b=some o->o.cls=.type "tuple" ->o.data=.seq its n->its.size<=sizeLine->Vals (ys.map V.str) its.toList->CPairs w K es tb->CPairs w K (e::es) ((x,ys)::tb)
theorem y4i {P:Program} {w:World} {K:PySem.W.Frag} {es:List DictEntry} {tb:List (Str×List Str)} (h:CPairs w K es tb):∃kvs:List (Key×Value),(∀e∈es,∃k,(z0s P w).is k e.key=true/\e.hash=(z0s P w).hash k)/\Pairs (z0s P w) es kvs/\kvs.map (·.1)=tb.map (fun p=>(Sum.inr p.1:Key))/\
  Paired (fun (p:Str×List Str) (q:Key×Value)=>q.1=.inr p.1/\∃b,q.2=.ref b/\∀H,SqT K H b (p.2.map V.str)) tb kvs:=by
 induction h with
 | nil=>exact⟨[],(fun e he=>nomatch he),.nil,rfl,.nil⟩
 | @cons e es x t ys tb b o its n h1 h2 h3 h4 h5 h6 h7 h8 _ ih=>
  obtain⟨kvs,a1,a2,a3,a4⟩:=ih
  have k1:(z0s P w).is (Sum.inr x) e.key=true:=by rw[h1];exact z5j P w x t
  refine⟨(Sum.inr x,.ref b)::kvs,fun e' he'=>?_,.cons k1 h3 a2,by simp [a3],.cons ⟨rfl,b,rfl,fun H=>.inr ⟨o,its,n,h4,h5,h6,h7,h8⟩⟩ a4⟩
  rcases List.mem_cons.mp he' with rfl|he'
  ·exact⟨Sum.inr x,k1,h2⟩
  ·exact a1 e' he'
theorem cdt_mk {P:Program} {w:World} {K:PySem.W.Frag} {h:Heap} {mg:Str->Option Value} {x:Str} {tb:List (Str×List Str)} {a:Addr} {o:Obj} {es:Array DictEntry} {ep:_} (X:K.In h) (G:h.Ns mainGlobals mg) (e:PySem.W.nsIn K mainGlobals x=some (some (.ref a)))
  (l:K.lookup a=some o) (sm:(a == sysModules)=false) (ex:o.ExactDict) (d:o.data=.dict es ep) (cp:CPairs w K es.toList tb) (nd:(tb.map (·.1)).Nodup):CDT P w K mg x tb:=by
 obtain⟨kvs,a1,a2,a3,a4⟩:=y4i (P:=P) cp
 refine⟨a,o,kvs,PySem.W.mg_of X G e,l,sm,ex.2.1,fun h ho=>⟨o,es,ep,ho,ex,d,fun e he=>a1 e (by simpa using he),a2,?_⟩,a4⟩
 rw[a3]
 have:tb.map (fun p=>(Sum.inr p.1:Key))=(tb.map (·.1)).map Sum.inr:=by rw[List.map_map];rfl
 rw[this]
 exact nd.map _ fun _ _ h e=>h (Sum.inr.inj e)
section
variable {X:Cx} {σ:St} {H:Hp} {Q:VK} {D:Ends} {td ty tv:TE} {e:Expr}
theorem y3j:MtR X "str.startswith" (fun x vs H Q=>∃(z y:Str),x=.str z/\vs=[.str y]/\Q (.bl (decide (0+y.length<=z.length) && Builtin.Str.subAt z y 0)) H):=by
 intro pins s σ H x vs v us Q I rx rs h
 obtain⟨z,y,rfl,rfl,q⟩:=h
 obtain⟨t,rfl⟩:=rx
 obtain⟨u,rfl,r1⟩:=Vals.one rs
 obtain⟨t1,rfl⟩:=r1
 exact call_gives PySem.F.slot_str_startswith (typeIs_str _ _ _) PySem.F.entry_str_startswith (PySem.F.args_str_startswith_2 _ _) (gives_str_startswith z y t t1) ⟨.bl _,H,I.tok _,rfl,q⟩
noncomputable def tNo:TE:=fun _ _ _=>False
theorem y6M:tNo σ H Q=False:=rfl
theorem y0v:tDGet td ty σ H Q=td σ H fun x H1=>ty σ H1 fun y H2=>∃a v,x=.ref a/\DGet H2 a y (some v)/\Q v H2:=rfl
theorem y2s:tDIn ty td σ H Q=ty σ H fun y H1=>td σ H1 fun x H2=>∃a o,x=.ref a/\DGet H2 a y o/\Q (.bl o.isSome) H2:=rfl
theorem z6O:y2r ty td σ H Q=ty σ H fun y H1=>td σ H1 fun x H2=>∃a o,x=.ref a/\DGet H2 a y o/\Q (.bl (!o.isSome)) H2:=rfl
theorem y1S:sDPut td ty tv D σ H=tv σ H fun v H1=>td σ H1 fun x H2=>ty σ H2 fun y H3=>∃a H4,x=.ref a/\DPut H3 a y v H4/\D.nx σ H4:=rfl
theorem z8Y:y6N σ H Q = ∀p,H p=none->Q (.ref p) (upd H p (.dK [])):=rfl
end
end L2
namespace L2
open PySem PySem.Spec PyProof.Rows
structure Apart2 (Z Ti To j1 j2 m1 m2:Addr):Prop where
 nd:[Z,Ti,To,j1,j2].Nodup
 ls:∀m∈[m1,m2],m∉[Z,To,j1,j2]
noncomputable def Kept2 (Z To j1 j2:Addr) (h h':Heap):Prop:=∀c o,c∉[Z,To,j1,j2]->h.get? c=some o->h'.get? c=some o
theorem Kept2.but {Z To j1 j2 b:Addr} {h h1 h2:Heap} (k:Kept2 Z To j1 j2 h h1) (hb:b∈[Z,To,j1,j2]) (e:Heap.SameBut b h1 h2):Kept2 Z To j1 j2 h h2:=fun c o hc q=>e.extBut _ _ (fun z=>hc (by rw[z];exact hb)) (k c o hc q)
theorem z3W {h h':Heap} {J tu b:Addr} {k:Nat} (x:h.IsTupleIter J tu k) (e:Heap.ExtBut b h h') (n:J≠b):h'.IsTupleIter J tu k:=by
 obtain⟨o,ho,r⟩:=x
 exact⟨o,e _ _ n ho,r⟩
section
variable {prog:Program} {w:World} {A:Around} {E:Value->Shared->Prop} {s:Shared}
theorem y5c {Z Ti To j1 j2 m1 m2:Addr} {n:Nat} {us vs:Array Value} {x y a b:Value} {Q:Value->Shared->Prop} (D:Apart2 Z Ti To j1 j2 m1 m2)
  (zz:IsZip s.heap Z Ti To .none) (zI:IsPair s.heap Ti (.ref j1) (.ref j2)) (zO:IsPair s.heap To a b)
  (k1:s.heap.IsTupleIter j1 m1 n) (k2:s.heap.IsListIter j2 m2 n) (e1:s.heap.IsTuple m1 us) (e2:s.heap.IsList m2 vs) (hx:us[n]?=some x) (hy:vs[n]?=some y)
  (hQ:∀h',IsZip h' Z Ti To (rawInt s.heap.objs.size)->IsPair h' To x y->h'.IsTupleIter j1 m1 (n+1)->h'.IsListIter j2 m2 (n+1)->IsPair h' s.heap.objs.size x y->Kept2 Z To j1 j2 s.heap h'->Q (.ref s.heap.objs.size) { s with heap:=h' }) :
  wpAny (model prog w) A (Builtin.«zip.__next__» ⟨[.ref Z],[]⟩) (fun f s'=>∃r,f=.done (.ret r)/\Q r s') E s:=by
 obtain⟨nd,ls⟩:=D
 simp only [List.nodup_cons,List.mem_cons,List.not_mem_nil,or_false,not_or,not_false_eq_true,List.nodup_nil,and_true] at nd
 obtain⟨⟨d1,d2,d3,d4⟩,⟨d6,d7,d8⟩,⟨d10,d11⟩,d13⟩:=nd
 have l1:=ls m1 (by simp)
 have l2:=ls m2 (by simp)
 simp only [List.mem_cons,List.not_mem_nil,or_false,not_or] at l1 l2
 show wpAny _ _ (field (.ref Z) 2 >>= _) _ _ _
 refine wpAny_bind (wpAny_field zz rfl (x:=.bool false) rfl ?_)
 show wpAny _ _ (field (.ref Z) 3 >>= _) _ _ _
 refine wpAny_bind (wpAny_field zz rfl (x:=.ref Ti) rfl (wpAny_bind (wpAny_seqItems zI rfl ?_)))
 show wpAny _ _ (Builtin.SmallTypes.ownedTupleIsFree (.ref Z) >>= _) _ _ _
 refine wpAny_bind (by
  unfold Builtin.SmallTypes.ownedTupleIsFree
  refine wpAny_bind (wpAny_field zz rfl (x:=.none) rfl (wpAny_pure ?_))
  simp only [if_true]
  refine wpAny_bind (wpAny_rule (wpAny_bind (wpAny_field zz rfl (x:=.ref To) rfl (wpAny_bind (wpAny_setField_rec zz (by simp) fun g1 z1 s1=>?_)))))
  replace z1:IsZip g1 Z Ti To .ellipsis:=z1
  refine wpAny_bind ?_
  simp only [List.forIn_cons,List.forIn_nil,List.zipIdx_cons,List.zipIdx_nil]
  refine wpAny_bind (wpAny_bind (wpAny_onRaise ?_))
  show wpAny _ _ (Builtin.SmallTypes.nextOf (.ref j1) >>= _) _ _ _
  refine wpAny_bind (z6l (z3W k1 s1.extBut (Ne.symm d3)) (e1.extBut s1.extBut l1.1) hx fun g2 p1 s2=>wpAny_pure ?_)
  have o2:IsPair g2 To a b:=s2.extBut _ _ d10 (s1.extBut _ _ (Ne.symm d2) zO)
  refine wpAny_bind (wpAny_seqItems o2 rfl (wpAny_bind (wpAny_updateSeq_pair o2 fun g3 o3 s3=>?_)))
  replace o3:IsPair g3 To x b:=o3
  refine wpAny_bind (wpAny_letGo (wpAny_pure ?_))
  refine wpAny_bind (wpAny_bind (wpAny_onRaise ?_))
  show wpAny _ _ (Builtin.SmallTypes.nextOf (.ref j2) >>= _) _ _ _
  refine wpAny_bind (wpAny_nextOf_list_item (((k2.extBut s1.extBut (Ne.symm d4)).extBut s2.extBut (Ne.symm d13)).extBut s3.extBut (Ne.symm d11)) (((e2.extBut s1.extBut l2.1).extBut s2.extBut l2.2.2.1).extBut s3.extBut l2.2.1) hy fun g4 p2 s4=>wpAny_pure ?_)
  have o4:IsPair g4 To x b:=s4.extBut _ _ d11 o3
  refine wpAny_bind (wpAny_seqItems o4 rfl (wpAny_bind (wpAny_updateSeq_pair o4 fun g5 o5 s5=>?_)))
  replace o5:IsPair g5 To x y:=o5
  refine wpAny_bind (wpAny_letGo (wpAny_pure (wpAny_pure ?_)))
  refine wpAny_bind (wpAny_seqItems o5 rfl (wpAny_bind (wpAny_newTuple ?_)))
  have sz:g5.objs.size=s.heap.objs.size:=by rw[s5.1,s4.1,s3.1,s2.1,s1.1]
  have z5:IsZip g5 Z Ti To .ellipsis:=s5.extBut _ _ d2 (s4.extBut _ _ d4 (s3.extBut _ _ d2 (s2.extBut _ _ d3 z1)))
  have K5:Kept2 Z To j1 j2 s.heap g5:=((((Kept2.but (fun c o _ q=>q) (by simp) s1).but (by simp) s2).but (by simp) s3).but (by simp) s4).but (by simp) s5
  have q1:g5.IsTupleIter j1 m1 (n+1):=z3W (z3W (z3W p1 s3.extBut (Ne.symm d10)) s4.extBut d13) s5.extBut (Ne.symm d10)
  have q2:g5.IsListIter j2 m2 (n+1):=p2.extBut s5.extBut (Ne.symm d11)
  have zlt:Z<g5.objs.size:=Heap.lt_size z5
  show wpAny _ _ (Builtin.SmallTypes.ownedTupleHandOut (.ref Z) (.ref g5.objs.size) >>= _) _ _ _
  refine wpAny_bind (by
   unfold Builtin.SmallTypes.ownedTupleHandOut
   have z8:IsZip (g5.push { cls:=.type "tuple",data:=.seq #[x,y] }) Z Ti To .ellipsis:=Heap.get?_push_of_some _ z5
   refine wpAny_bind (wpAny_setField_rec z8 (by simp) fun g9 z9 s9=>?_)
   replace z9:IsZip g9 Z Ti To (rawInt g5.objs.size):=z9
   refine wpAny_setField_rec z9 (by simp) fun gA zA sA=>?_
   replace zA:IsZip gA Z Ti To (rawInt g5.objs.size):=zA
   have up:∀c o,c≠Z->g5.get? c=some o->gA.get? c=some o:=fun c o hc q=>sA.extBut _ _ hc (s9.extBut _ _ hc (Heap.get?_push_of_some _ q))
   have tA:IsPair gA g5.objs.size x y:=sA.extBut _ _ (Nat.ne_of_gt zlt) (s9.extBut _ _ (Nat.ne_of_gt zlt) (Heap.get?_push_size _ rfl))
   rw[sz] at zA tA
   refine wpAny_pure ⟨_,rfl,?_⟩
   show Q (.ref g5.objs.size) _
   rw[sz]
   refine hQ gA zA (up _ _ (Ne.symm d2) o5) ?_ (q2.at fun o q=>up _ o (Ne.symm d4) q) tA fun c o hc q=>up c o (fun z=>hc (by rw[z];simp)) (K5 c o hc q)
   obtain⟨oj,hj,rj⟩:=q1
   exact⟨oj,up _ oj (Ne.symm d3) hj,rj⟩))
theorem y7b {Z Ti To j1 j2 m1 m2:Addr} {n:Nat} {us vs:Array Value} {a b:Value} {Q:Fin->Shared->Prop} (hh:A.handled=none) (D:Apart2 Z Ti To j1 j2 m1 m2)
  (zz:IsZip s.heap Z Ti To .none) (zI:IsPair s.heap Ti (.ref j1) (.ref j2)) (zO:IsPair s.heap To a b)
  (k1:s.heap.IsTupleIter j1 m1 n) (k2:s.heap.IsListIter j2 m2 n) (e1:s.heap.IsTuple m1 us) (e2:s.heap.IsList m2 vs) (hend:us[n]?=none∨vs[n]?=none)
  (hE:∀h' e,Kept2 Z To j1 j2 s.heap h'->(∃o,h'.get? e=some o/\o.cls=.type "StopIteration")->E (.ref e) { s with heap:=h' }) :
  wpAny (model prog w) A (Builtin.«zip.__next__» ⟨[.ref Z],[]⟩) Q E s:=by
 obtain⟨nd,ls⟩:=D
 simp only [List.nodup_cons,List.mem_cons,List.not_mem_nil,or_false,not_or,not_false_eq_true,List.nodup_nil,and_true] at nd
 obtain⟨⟨d1,d2,d3,d4⟩,⟨d6,d7,d8⟩,⟨d10,d11⟩,d13⟩:=nd
 have l1:=ls m1 (by simp)
 have l2:=ls m2 (by simp)
 simp only [List.mem_cons,List.not_mem_nil,or_false,not_or] at l1 l2
 have fin:∀ {g:Heap} {e:Addr},IsZip g Z Ti To .ellipsis->Kept2 Z To j1 j2 s.heap g->(∃o,g.get? e=some o/\o.cls=.type "StopIteration")->wpAny (model prog w) A (setField (.ref Z) 0 .none) (fun _ s'=>E (.ref e) s') E { s with heap:=g }:=fun {g e} z K he=>by
  obtain⟨o,ho,hc⟩:=he
  have ez:e≠Z:=fun q=>by rw[q,z] at ho;cases ho;simp at hc
  exact wpAny_setField_rec z (by simp) fun g' _ s'=>hE g' e (K.but (by simp) s') ⟨o,s'.extBut _ _ ez ho,hc⟩
 show wpAny _ _ (field (.ref Z) 2 >>= _) _ _ _
 refine wpAny_bind (wpAny_field zz rfl (x:=.bool false) rfl ?_)
 show wpAny _ _ (field (.ref Z) 3 >>= _) _ _ _
 refine wpAny_bind (wpAny_field zz rfl (x:=.ref Ti) rfl (wpAny_bind (wpAny_seqItems zI rfl ?_)))
 show wpAny _ _ (Builtin.SmallTypes.ownedTupleIsFree (.ref Z) >>= _) _ _ _
 refine wpAny_bind (by
  unfold Builtin.SmallTypes.ownedTupleIsFree
  refine wpAny_bind (wpAny_field zz rfl (x:=.none) rfl (wpAny_pure ?_))
  simp only [if_true]
  refine wpAny_bind (wpAny_rule (wpAny_bind (wpAny_field zz rfl (x:=.ref To) rfl (wpAny_bind (wpAny_setField_rec zz (by simp) fun g1 z1 s1=>?_)))))
  replace z1:IsZip g1 Z Ti To .ellipsis:=z1
  have K1:Kept2 Z To j1 j2 s.heap g1:=Kept2.but (fun c o _ q=>q) (by simp) s1
  refine wpAny_bind ?_
  simp only [List.forIn_cons,List.forIn_nil,List.zipIdx_cons,List.zipIdx_nil]
  cases hx:us[n]? with
  | none=>
   refine wpAny_bind (wpAny_bind (wpAny_onRaise ?_))
   show wpAny _ _ (Builtin.SmallTypes.nextOf (.ref j1) >>= _) _ _ _
   refine wpAny_bind (y3h hh (z3W k1 s1.extBut (Ne.symm d3)) (e1.extBut s1.extBut l1.1) hx fun g2 e s2 he=>?_)
   exact fin (s2 _ _ d3 z1) (fun c o hc q=>s2 _ _ (fun z=>hc (by rw[z];simp)) (K1 c o hc q)) he
  | some x=>
   refine wpAny_bind (wpAny_bind (wpAny_onRaise ?_))
   show wpAny _ _ (Builtin.SmallTypes.nextOf (.ref j1) >>= _) _ _ _
   refine wpAny_bind (z6l (z3W k1 s1.extBut (Ne.symm d3)) (e1.extBut s1.extBut l1.1) hx fun g2 p1 s2=>wpAny_pure ?_)
   have o2:IsPair g2 To a b:=s2.extBut _ _ d10 (s1.extBut _ _ (Ne.symm d2) zO)
   refine wpAny_bind (wpAny_seqItems o2 rfl (wpAny_bind (wpAny_updateSeq_pair o2 fun g3 o3 s3=>?_)))
   replace o3:IsPair g3 To x b:=o3
   refine wpAny_bind (wpAny_letGo (wpAny_pure ?_))
   have z3:IsZip g3 Z Ti To .ellipsis:=s3.extBut _ _ d2 (s2.extBut _ _ d3 z1)
   have K3:=(K1.but (by simp) s2).but (by simp) s3
   have hy:vs[n]?=none:=by
    rcases hend with q|q
    ·rw[hx] at q;cases q
    ·exact q
   refine wpAny_bind (wpAny_bind (wpAny_onRaise ?_))
   show wpAny _ _ (Builtin.SmallTypes.nextOf (.ref j2) >>= _) _ _ _
   refine wpAny_bind (wpAny_nextOf_list_end hh (((k2.extBut s1.extBut (Ne.symm d4)).extBut s2.extBut (Ne.symm d13)).extBut s3.extBut (Ne.symm d11)) (((e2.extBut s1.extBut l2.1).extBut s2.extBut l2.2.2.1).extBut s3.extBut l2.2.1) hy fun g4 e s4 he=>?_)
   exact fin (s4 _ _ d4 z3) (fun c o hc q=>s4 _ _ (fun z=>hc (by rw[z];simp)) (K3 c o hc q)) he)
noncomputable abbrev itT (m:Addr):Obj:={ cls:=.type "tuple_iterator",data:=.fields #[.ref m,.int 0 0] }
noncomputable abbrev itL (m:Addr):Obj:={ cls:=.type "list_iterator",data:=.fields #[.ref m,.int 0 0] }
noncomputable abbrev zipTL (h:Heap) (m1 m2:Addr):Heap:=((((h.push (itT m1)).push (itL m2)).push { cls:=.type "tuple",data:=.seq #[.ref h.objs.size,.ref (h.push (itT m1)).objs.size] }).push { cls:=.type "tuple",data:=.seq #[.none,.none] }).push
 { cls:=.type "zip",data:=.fields #[.none,.bool false,.bool false,.ref ((h.push (itT m1)).push (itL m2)).objs.size,.ref (((h.push (itT m1)).push (itL m2)).push { cls:=.type "tuple",data:=.seq #[.ref h.objs.size,.ref (h.push (itT m1)).objs.size] }).objs.size] }
theorem y0R (m1 m2:Addr) (us vs:Array Value) :
  Meets (Builtin.«zip.__new__» ⟨[.type "zip",.ref m1,.ref m2],[]⟩) (fun _ R s=>s.heap.IsTuple m1 us/\s.heap.IsList m2 vs/\
   R (.ok (.ret (.ref (s.heap.objs.size+4)))) { s with heap:=zipTL s.heap m1 m2 }):=
 .of_wp fun prog w A R s h=>by
  obtain⟨hp,g,d,tk,os⟩:=s
  obtain⟨e1,e2,h⟩:=h
  have sz:=sub_zip
  have L1:Heap.IsTuple (Shared.heap ⟨hp,g,d,tk,os⟩) m1 us:=e1
  have L2:Heap.IsList (Shared.heap ⟨hp.push (itT m1),g,d,tk,os⟩) m2 vs:=Heap.IsList.push e2 _
  wp_walk using wpAny_pyIter_tuple L1,wpAny_pyIter_list L2
  refine⟨_,rfl,?_⟩
  have e5:hp.objs.size+4=((((hp.push (itT m1)).push (itL m2)).push { cls:=.type "tuple",data:=.seq #[.ref hp.objs.size,.ref (hp.push (itT m1)).objs.size] }).push { cls:=.type "tuple",data:=.seq #[.none,.none] }).objs.size:=by simp only [Heap.size_push]
  rw[e5] at h
  exact h
theorem y2Y {m1 m2:Addr} {us vs:Array Value} {Q:Value->Shared->Prop} (e1:s.heap.IsTuple m1 us) (e2:s.heap.IsList m2 vs)
  (h:∀h',IsZip h' (s.heap.objs.size+4) (s.heap.objs.size+2) (s.heap.objs.size+3) .none->IsPair h' (s.heap.objs.size+2) (.ref s.heap.objs.size) (.ref (s.heap.objs.size+1))->
   IsPair h' (s.heap.objs.size+3) .none .none->h'.IsTupleIter s.heap.objs.size m1 0->h'.IsListIter (s.heap.objs.size+1) m2 0->
   (∀c o,s.heap.get? c=some o->h'.get? c=some o)->Q (.ref (s.heap.objs.size+4)) { s with heap:=h' }) :
  wpAny (model prog w) A (call (.type "zip") [.ref m1,.ref m2]) Q E s:=by
 refine callType_new F.called_zip (by decide) (F.typeCall_zip_2 _ _) (F.newCall_zip_2 _ _) (fun ob=>F.args_object_init_3 ob _ _) F.entry_zip_new (y0R m1 m2 us vs) ⟨e1,e2,?_⟩
 have pk:∀ {h:Heap} {c:Addr} {o:Obj} (u:Obj),h.get? c=some o->(h.push u).get? c=some o:=fun u q=>Heap.get?_push_of_some _ q
 have p1:(zipTL s.heap m1 m2).get? s.heap.objs.size=some (itT m1):=pk _ (pk _ (pk _ (pk _ (Heap.get?_push_size _ rfl))))
 have p2:(zipTL s.heap m1 m2).get? (s.heap.push (itT m1)).objs.size=some (itL m2):=pk _ (pk _ (pk _ (Heap.get?_push_size _ rfl)))
 have p4:(zipTL s.heap m1 m2).get? ((s.heap.push (itT m1)).push (itL m2)).objs.size=some _:=pk _ (pk _ (Heap.get?_push_size _ rfl))
 have p5:(zipTL s.heap m1 m2).get? (((s.heap.push (itT m1)).push (itL m2)).push { cls:=.type "tuple",data:=.seq #[.ref s.heap.objs.size,.ref (s.heap.push (itT m1)).objs.size] }).objs.size=some _:=pk _ (Heap.get?_push_size _ rfl)
 have p6:(zipTL s.heap m1 m2).get? ((((s.heap.push (itT m1)).push (itL m2)).push { cls:=.type "tuple",data:=.seq #[.ref s.heap.objs.size,.ref (s.heap.push (itT m1)).objs.size] }).push { cls:=.type "tuple",data:=.seq #[.none,.none] }).objs.size=some _:=Heap.get?_push_size _ rfl
 have kp:∀c o,s.heap.get? c=some o->(zipTL s.heap m1 m2).get? c=some o:=fun c o q=>pk _ (pk _ (pk _ (pk _ (pk _ q))))
 generalize zipTL s.heap m1 m2=h' at kp p1 p2 p4 p5 p6 ⊢
 simp only [Heap.size_push,Nat.add_assoc,Nat.reduceAdd] at p2 p4 p5 p6
 show _/\_
 exact⟨⟨_,p6,rfl⟩,h _ p6 p4 p5 ⟨_,p1,rfl,rfl⟩ ⟨_,p2,rfl,rfl⟩ kp⟩
end
noncomputable def okZT (K:PySem.W.Frag) (a b:Addr) (n:Nat) (H:Hp):Prop:=∃xs ys,SqT K H a xs/\SqL K H b ys/\min xs.length ys.length=n
noncomputable def ItzT (K:PySem.W.Frag) (a b:Addr) (n:Nat):It:=Itp n (okZT K a b n) fun i H u v=>(∀xs,SqT K H a xs->xs[i]?=some u)/\∀ys,SqL K H b ys->ys[i]?=some v
noncomputable def tnZT (Z Ti To j1 j2 m1 m2:Addr) (i:Nat) (h:Heap):Prop:=IsZip h Z Ti To .none/\IsPair h Ti (.ref j1) (.ref j2)/\(∃a b,IsPair h To a b)/\h.IsTupleIter j1 m1 i/\h.IsListIter j2 m2 i
theorem y2e {P:Program} {w:World} {K:PySem.W.Frag} {es:List Expr} {k:Nat} {pos:Pos} {Z Ti To j1 j2 m1 m2:Addr} {n:Nat} (D:Apart2 Z Ti To j1 j2 m1 m2) :
  Turn P w K (.Tuple es k pos) (ItzT K m1 m2 n) [Z,Ti,To,j1,j2] Z (tnZT Z Ti To j1 j2 m1 m2) where
 mem:=by simp
 obj:=fun i h st b hb=>by
  obtain⟨h1,h2,⟨x,y,h3⟩,⟨o4,h4,_,d4⟩,⟨o5,h5,_,d5⟩⟩:=st
  simp only [List.mem_cons,List.not_mem_nil,or_false] at hb
  rcases hb with rfl|rfl|rfl|rfl|rfl
  ·exact⟨_,h1,fun v q=>nomatch q⟩
  ·exact⟨_,h2,fun v q=>nomatch q⟩
  ·exact⟨_,h3,fun v q=>nomatch q⟩
  ·exact⟨_,h4,fun v q=>by rw[d4] at q;cases q⟩
  ·exact⟨_,h5,fun v q=>by rw[d5] at q;cases q⟩
 keep:=fun i h h' st kk=>by
  obtain⟨h1,h2,⟨x,y,h3⟩,⟨o4,h4,r4⟩,h5⟩:=st
  exact⟨kk _ (by simp) _ h1,kk _ (by simp) _ h2,⟨x,y,kk _ (by simp) _ h3⟩,⟨o4,kk _ (by simp) o4 h4,r4⟩,h5.at fun o e=>kk _ (by simp) o e⟩
 item:=by
  intro X hP hw hK hc i pins s σ H E I hf st hg
  subst hP hw hK
  obtain⟨hi,xs,ys,ha,hb,hn⟩:=hg
  obtain⟨us,ru,pu,_⟩:=I.tuple ha
  obtain⟨vs,rv,pv,_⟩:=I.list hb
  have lu:=ru.length
  have lv:=rv.length
  obtain⟨h1,h2,⟨a,b,h3⟩,h4,h5⟩:=st
  have gx:xs[i]?=some (xs[i]'(by omega)):=List.getElem?_eq_getElem (by omega)
  have gy:ys[i]?=some (ys[i]'(by omega)):=List.getElem?_eq_getElem (by omega)
  obtain⟨x,q1,rx⟩:=ru.get gx
  obtain⟨y,q2,ry⟩:=rv.get gy
  have nn:=D.nd
  simp only [List.nodup_cons,List.mem_cons,List.not_mem_nil,or_false,not_or,not_false_eq_true,List.nodup_nil,and_true] at nn
  have ty:s.TypeIs (.ref Z) "zip" :=⟨_,h1,rfl⟩
  unfold pyNext
  refine wpAny_bind (wpAny_attempt (wpAny_callSpecial?_slot (name:=Str.ofString "__next__") ty F.slot_zip_next (wpAny_call_entry F.slot_zip_next ty F.entry_zip_next ?_ (F.args_zip_next_1 _))))
  refine y5c D h1 h2 h3 h4 h5 pu pv.isList (x:=x) (y:=y) (by simpa using q1) (by simpa using q2) fun h' a1 a2 a3 a4 a6 kk=>wpAny_pure ?_
  refine⟨.ref s.heap.objs.size,rfl,wpAny_letOwnedTupleGo_zip a1 fun h2' zz2 sb=>?_⟩
  have zlt:Z<s.heap.objs.size:=Heap.lt_size h1
  have nT:H s.heap.objs.size=none:=I.hok.fresh (Nat.le_refl _)
  have K2:Kept2 Z To j1 j2 s.heap h2':=kk.but (by simp) sb
  have tup2:IsTup h2' s.heap.objs.size #[x,y]:=⟨_,sb.extBut _ _ (Nat.ne_of_gt zlt) a6,rfl,_,rfl⟩
  have fpw:∀b∈[Z,To,j1,j2],b∈[Z,Ti,To,j1,j2]:=fun b hb=>by
   simp only [List.mem_cons,List.not_mem_nil,or_false] at hb ⊢
   rcases hb with rfl|rfl|rfl|rfl <;> simp
  have I2:Inv X pins σ (upd H s.heap.objs.size (.tup [xs[i]'(by omega),ys[i]'(by omega)])) { s with heap:=h2',toks:=s.toks }:=
   I.turnedLaid (fun b u hb e=>K2 b u hb e) (fun b hb=>hf b (fpw b hb)) (Nat.le_refl _) ⟨show 2<=sizeLine by decide,[x,y],.cons rx (.cons ry .nil),tup2⟩
  refine⟨.ref s.heap.objs.size,_,I2,rfl,⟨s.heap.objs.size,_,_,nT,rfl,rfl,fun ws hz=>by rw[I.tuple_inj hz ha];exact gx,fun ws hz=>by rw[I.list_inj hz hb];exact gy⟩,?_,fun b hb=>?_⟩
  ·refine⟨zz2,K2 _ _ ?_ h2,⟨x,y,sb.extBut _ _ (Ne.symm nn.1.2.1) a2⟩,z3W a3 sb.extBut (Ne.symm nn.1.2.2.1),a4.extBut sb.extBut (Ne.symm nn.1.2.2.2)⟩
   simp only [List.mem_cons,List.not_mem_nil,or_false,not_or]
   exact⟨Ne.symm nn.1.1,nn.2.1.1,nn.2.1.2.1,nn.2.1.2.2⟩
  ·have lt:b<s.heap.objs.size:=by
    obtain⟨o4,h4,_⟩:=h4
    obtain⟨o5,h5,_⟩:=h5
    simp only [List.mem_cons,List.not_mem_nil,or_false] at hb
    rcases hb with rfl|rfl|rfl|rfl|rfl
    ·exact Heap.lt_size h1
    ·exact Heap.lt_size h2
    ·exact Heap.lt_size h3
    ·exact Heap.lt_size h4
    ·exact Heap.lt_size h5
   rw[z0U (Nat.ne_of_lt lt)]
   exact (hf b hb).1
 done:=by
  intro X hP hw hK hc i pins s σ H E I hf st hg
  subst hP hw hK
  obtain⟨hi,xs,ys,ha,hb,hn⟩:=hg
  obtain⟨us,ru,pu,_⟩:=I.tuple ha
  obtain⟨vs,rv,pv,_⟩:=I.list hb
  have lu:=ru.length
  have lv:=rv.length
  obtain⟨h1,h2,⟨a,b,h3⟩,h4,h5⟩:=st
  have fpw:∀b∈[Z,To,j1,j2],b∈[Z,Ti,To,j1,j2]:=fun b hb=>by
   simp only [List.mem_cons,List.not_mem_nil,or_false] at hb ⊢
   rcases hb with rfl|rfl|rfl|rfl <;> simp
  have hend:us.toArray[i]?=none∨vs.toArray[i]?=none:=by
   by_cases c1:us.length<=i
   ·exact .inl (by simpa using c1)
   ·exact .inr (by
     have:vs.length<=i:=by omega
     simpa using this)
  have ty:s.TypeIs (.ref Z) "zip" :=⟨_,h1,rfl⟩
  unfold pyNext
  refine wpAny_bind (wpAny_attempt (wpAny_callSpecial?_slot (name:=Str.ofString "__next__") ty F.slot_zip_next (wpAny_call_entry F.slot_zip_next ty F.entry_zip_next ?_ (F.args_zip_next_1 _))))
  refine y7b (I.ok.hd hc) D h1 h2 h3 h4 h5 pu pv.isList hend fun h' e kk ⟨o,ho,hcl⟩=>?_
  exact wpAny_bind (wpAny_isInstance (T:= "StopIteration") (b:=true) ⟨o,ho,hcl⟩ isSubtype_stop (wpAny_pure ⟨rfl,I.turnedL (t':=s.toks) (fun b u hb e=>kk b u hb e) fun b hb=>hf b (fpw b hb)⟩))
 self:=fun A i s Q E st h=>wpAny_pyIter_zip st.1 h
noncomputable def iZipT (K:PySem.W.Frag) (ta tb:TE):TI:=fun σ H R=>ta σ H fun x H1=>tb σ H1 fun y H2=>∃a b xs ys,x=.ref a/\y=.ref b/\SqT K H2 a xs/\SqL K H2 b ys/\R (ItzT K a b (min xs.length ys.length)) H2
theorem y8Z {I m1 m2:Nat} (h1:m1<I) (h2:m2<I):Apart2 (I+4) (I+2) (I+3) I (I+1) m1 m2:=by
 refine⟨?_,fun m hm=>?_⟩
 ·simp only [List.nodup_cons,List.mem_cons,List.not_mem_nil,or_false,not_or,not_false_eq_true,List.nodup_nil,and_true]
  refine⟨⟨?_,?_,?_,?_⟩,⟨?_,?_,?_⟩,⟨?_,?_⟩,?_⟩ <;> (intro (z:(_:Nat)=_);omega)
 ·simp only [List.mem_cons,List.not_mem_nil,or_false,not_or] at hm ⊢
  rcases hm with rfl|rfl <;> refine⟨?_,?_,?_,?_⟩ <;> (intro (z:(_:Nat)=_);omega)
section
variable {X:Cx} {es:List Expr} {k:Nat} {tpos:Pos}
theorem y7A {l m:Expr} {tl tm:TE} {p pos:Pos} (hg:Gl X "zip") (hm:X.mg "zip" = none) (hl:PE X l tl) (hq:PE X m tm) (hs:starEach [l,m] X.env=[(false,eval l X.env),(false,eval m X.env)]:=by rfl) (hs2:starEach [m] X.env=[(false,eval m X.env)]:=by rfl) :
  PI X (.Tuple es k tpos) (.Call (.Name "zip" p) [l,m] [] pos) (iZipT X.K tl tm):=by
 intro pins s σ H R I h
 refine Call_ (z4A I hg hm PyProof.Rows.boot_zip (PyProof.Rows.callWith_type1 ?_ (by rw[hs,hs2]) (by rw[hs2];rfl)))
 refine thn ((z0A hl (z0A hq z0C hs2) (by rw[hs,hs2])) pos pins s σ H (fun vs H2=>∃(x y:V),vs=[x,y]/\∃a b xs ys,x=.ref a/\y=.ref b/\SqT X.K H2 a xs/\SqL X.K H2 b ys/\R (ItzT X.K a b (min xs.length ys.length)) H2) I ?_) fun us s1 ⟨vs,H1,I1,r,x,y,e,a,b,xs,ys,ea,eb,ha,hb,q⟩=>?_
 ·show tl σ H fun x H1=>tm σ H1 fun y H2=>∃x' y',[x,y]=[x',y']/\_
  have e:(fun (x:V) (H1:Hp)=>tm σ H1 fun y H2=>∃x' y',[x,y]=[x',y']/\∃a b xs ys,x'=V.ref a/\y'=.ref b/\SqT X.K H2 a xs/\SqL X.K H2 b ys/\R (ItzT X.K a b (min xs.length ys.length)) H2) =
    fun (x:V) (H1:Hp)=>tm σ H1 fun y H2=>∃a b xs ys,x=V.ref a/\y=.ref b/\SqT X.K H2 a xs/\SqL X.K H2 b ys/\R (ItzT X.K a b (min xs.length ys.length)) H2:=by
   funext x H1
   congr 1
   funext y H2
   refine propext ⟨fun⟨x',y',e,q⟩=>?_,fun q=>⟨x,y,rfl,q⟩⟩
   cases e
   exact q
  rw[e]
  exact h
 subst e ea eb
 obtain⟨u,v,rfl,r1,r2⟩:=Vals.two r
 cases r1
 cases r2
 obtain⟨us,ru,pu,_⟩:=I1.tuple ha
 obtain⟨vs,rv,pv,_⟩:=I1.list hb
 have la:a<s1.heap.objs.size:=by obtain⟨o,e,_⟩:=pu;exact Heap.lt_size e
 have lb:b<s1.heap.objs.size:=by obtain⟨o,e,_⟩:=pv.isList;exact Heap.lt_size e
 refine y2Y pu pv.isList fun h' hz hTI hTO hi1 hi2 hk=>?_
 refine wpAny_pyIter_zip hz ?_
 have I2:Inv X pins σ H1 { s1 with heap:=h' }:=I1.kept (t':=s1.toks) hk
 refine⟨_,_,_,_,H1,rfl,I2,y2e (y8Z la lb),⟨hz,hTI,⟨_,_,hTO⟩,hi1,hi2⟩,fun c hc=>?_,q⟩
 have hc':s1.heap.objs.size<=c:=by
  simp only [List.mem_cons,List.not_mem_nil,or_false] at hc
  rcases hc with rfl|rfl|rfl|rfl|rfl <;> first|exact Nat.le_refl _|exact Nat.le_add_right _ _
 exact I1.fpOk hc' (I1.hok.fresh hc')
end
theorem y1j {K:PySem.W.Frag} {ta tb:TE} {σ:St} {H:Hp} {R:It->Hp->Prop}:iZipT K ta tb σ H R=ta σ H fun x H1=>tb σ H1 fun y H2=>∃a b xs ys,x=.ref a/\y=.ref b/\SqT K H2 a xs/\SqL K H2 b ys/\R (ItzT K a b (min xs.length ys.length)) H2:=rfl
theorem y4T {K:PySem.W.Frag} {a b:Addr} {xs ys:List V} {g:TG} {tb:TS} {D:Ends} {σ:St} {H:Hp} (Pv:Nat->St->Hp->Prop) (h0:Pv 0 σ H) (hl:∀i σ H,Pv i σ H->SqT K H a xs/\SqL K H b ys)
  (hs:∀i u v T σ H,xs[i]?=some u->ys[i]?=some v->H T=none->Pv i σ H->g (.ref T) σ (upd H T (.tup [u,v])) fun σ2 H2=>tb { D with nx:=Pv (i+1),ct:=Pv (i+1),bk:=D.nx } σ2 H2)
  (hd:∀σ H,Pv (min xs.length ys.length) σ H->D.nx σ H):ForW (ItzT K a b (min xs.length ys.length)) g tb D σ H:=by
 refine⟨fun i m σ H=>m=min xs.length ys.length-i/\i<=min xs.length ys.length/\Pv i σ H,⟨_,rfl,Nat.zero_le _,h0⟩,?_⟩
 rintro i m σ1 H1 ⟨rfl,hi,p⟩
 obtain⟨qa,qb⟩:=hl i σ1 H1 p
 by_cases hlt:i<min xs.length ys.length
 ·refine .inr ⟨⟨hlt,xs,ys,qa,qb,rfl⟩,Pv (i+1),fun σ' H' p'=>⟨min xs.length ys.length-(i+1),by omega,rfl,hlt,p'⟩,fun x H' y=>?_⟩
  obtain⟨T,u,v,nT,rfl,rfl,f1,f2⟩:=y
  exact hs i u v T σ1 H1 (f1 xs qa) (f2 ys qb) nT p
 ·have e:i=min xs.length ys.length:=by omega
  refine .inl ⟨⟨e,xs,ys,qa,qb,rfl⟩,hd σ1 H1 ?_⟩
  rw[←e]
  exact p
end L2
namespace L2
open PySem PySem.Spec PySem.Calls PyProof.Rows PySem.W SM
section
variable {X:Cx} {k:Nat} {C:Addr} {ps:List Str} {sp:Sp} {m:Str} {pos apos:Pos} {e o:Expr} {es:List Expr} {ta:TE} {t:TA}
theorem y8I {x:Str} {p:Pos} (h:HasM X.prog X.w X.K X.mg X.base k C "__init__" ps sp) (mk:PySem.W.makesIn X.K C=true) (kc:PySem.W.keepIn X.K (.ref C)=true) (hr:Room (k+1) X.A) (hg:Gl X x) (hm:X.mg x=some (.ref C)) (hdb:(x == ("__debug__" : Str))=false:=by decide) :
  PE X (.Call (.Name x p) [] [] pos) (tMake C sp [] E0 tNil):=by
 obtain⟨f,fd,F,hb,hM⟩:=h
 exact y5T ⟨mk,hM.at_,hM.fn,kc⟩ F hr hg hm (.all hb) .nil pass0 hdb
end
end L2
namespace L2
open PySem PySem.Spec PySem.Calls PyProof.Rows SM
end L2
set_option maxHeartbeats 4000000
open PySem L2 SM
local macro_rules | `(tactic| walk_at "wp")=>`(tactic| try simp only [z9g,z9o,z9u,z8D,z9i,z6x,z7A,z5C,z7H,z7G,tC_ap,y2k,y2j,y2o,y2l,y3R,rI_ap,rU_ap,y0J,y0I,z6w,tB_ap,ex_bl,y4X,y4Y,z9v,y2n,z9l,z7L,z9k,z6z,y2q,z9m,z7I,z9f,z9n,z7K,y2u,z5B,z9j,y4W,z9t,y3y,y2m,z4I,z6y,y2v,z9s,z6v,y0o,z8E,y0p,z9p,z7k,z7j,z7h,z7i,z7g,z7l,z9h,z7m,y0X,y0Z,y0W,z7f,z7n,z5o,y0Y,z9q,y0T,z7c,z7F,z9r,y0H,z4R,z7C,z7E,z3X,z7B,z7D,z7J,y0U,L2.start,y4g,z8K,z5y,List.map_cons,List.map_nil,List.length_cons,List.length_nil,List.replicate,List.cons_append,List.nil_append,List.append_nil,List.set_cons_zero,List.set_cons_succ,decide_eq_true_eq,Bool.not_eq_true',decide_eq_false_iff_not,Bool.not_eq_eq_eq_not,Bool.not_true,Bool.not_false,sizeLine_eq,oV,reduceCtorEq,y3v,y3w,y3u,y3x,Nat.reduceAdd,Nat.reduceSub,Nat.reduceLeDiff,Nat.zero_add,true_and,and_true,forall_const,Bool.false_eq_true,if_true,if_false,false_implies,true_implies,not_false_eq_true,not_true_eq_false,implies_true])
seal L2.PSs L2.PS L2.PE L2.PT L2.PA L2.PI L2.PG L2.PTs L2.PW L2.OpR
theorem L2.put_away {p:Prop} (h:∀G:Prop,(p->G)->G):p:=h p id
theorem L2.bnd1 {P:List PySem.Value->Prop} (h:∀a:PySem.Value,P [a]):∀us:List PySem.Value,us.length=1->P us
 | [a],_=>h a
theorem L2.bnd2 {P:List PySem.Value->Prop} (h:∀a b:PySem.Value,P [a,b]):∀us:List PySem.Value,us.length=2->P us
 | [a,b],_=>h a b
theorem L2.bnd3 {P:List PySem.Value->Prop} (h:∀a b c:PySem.Value,P [a,b,c]):∀us:List PySem.Value,us.length=3->P us
 | [a,b,c],_=>h a b c
theorem L2.bnd4 {P:List PySem.Value->Prop} (h:∀a b c d:PySem.Value,P [a,b,c,d]):∀us:List PySem.Value,us.length=4->P us
 | [a,b,c,d],_=>h a b c d
theorem L2.bnd5 {P:List PySem.Value->Prop} (h:∀a b c d e:PySem.Value,P [a,b,c,d,e]):∀us:List PySem.Value,us.length=5->P us
 | [a,b,c,d,e],_=>h a b c d e
theorem L2.bnd6 {P:List PySem.Value->Prop} (h:∀a b c d e f:PySem.Value,P [a,b,c,d,e,f]):∀us:List PySem.Value,us.length=6->P us
 | [a,b,c,d,e,f],_=>h a b c d e f
namespace SMk93
open PySem L2 SM
noncomputable def top (i:Nat):Stmt:=PySem.Challenge.pw_shiftmeet_k93_whole_papers_checked.main.body.getD i (.Pass ⟨0,0,0,0⟩)
noncomputable abbrev z5U:Stmt:=top 10
noncomputable abbrev z2Z:Stmt:=top 11
noncomputable abbrev z2y:Stmt:=top 12
noncomputable abbrev z5N:Stmt:=top 22
noncomputable abbrev z3i:Stmt:=top 23
noncomputable abbrev y0G:Stmt:=top 24
noncomputable abbrev z2v:Stmt:=top 27
noncomputable abbrev z5Q:Stmt:=top 34
noncomputable abbrev z3Z:Stmt:=top 35
noncomputable abbrev z2J:Stmt:=top 36
noncomputable abbrev z5R:Stmt:=top 37
noncomputable abbrev z2Y:Stmt:=top 38
noncomputable abbrev y3K:Stmt:=top 41
noncomputable abbrev z2e:Stmt:=top 42
noncomputable abbrev z1u:Stmt:=top 43
noncomputable abbrev y0F:Stmt:=top 44
noncomputable abbrev z5O:Stmt:=top 45
noncomputable abbrev z1t:Stmt:=top 47
noncomputable abbrev z7T:Stmt:=top 48
noncomputable abbrev z5P:Stmt:=top 49
noncomputable abbrev z2K:Stmt:=top 52
noncomputable abbrev z1v:Stmt:=top 53
noncomputable abbrev z3b:Stmt:=top 54
noncomputable abbrev z2w:Stmt:=top 55
noncomputable abbrev z2x:Stmt:=top 56
noncomputable abbrev z3a:Stmt:=top 64
noncomputable abbrev z2W:Stmt:=top 65
noncomputable abbrev z2X:Stmt:=top 66
noncomputable abbrev z2z:Stmt:=top 67
noncomputable abbrev z2V:Stmt:=top 68
noncomputable abbrev z2u:Stmt:=top 69
noncomputable abbrev z4M:Stmt:=top 78
noncomputable abbrev y3L:Stmt:=top 79
noncomputable abbrev z5T:Stmt:=top 80
noncomputable abbrev z5S:Stmt:=top 81
noncomputable abbrev z3Y:Stmt:=top 82
noncomputable abbrev z2U:Stmt:=top 84
noncomputable abbrev z2L:Stmt:=top 86
noncomputable abbrev z2d:Stmt:=top 88
noncomputable abbrev z4P:Stmt:=top 89
noncomputable abbrev z4O:Stmt:=top 90
noncomputable abbrev z3h:Stmt:=top 91
noncomputable abbrev z4Q:Stmt:=top 92
noncomputable abbrev z3f:Stmt:=top 93
noncomputable abbrev z2a:Stmt:=top 94
noncomputable abbrev z3d:Stmt:=top 95
noncomputable abbrev z3c:Stmt:=top 96
noncomputable abbrev z4N:Stmt:=top 97
noncomputable abbrev z3e:Stmt:=top 98
noncomputable abbrev z3g:Stmt:=top 99
noncomputable abbrev z2c:Stmt:=top 100
noncomputable abbrev z2b:Stmt:=top 101
noncomputable abbrev s_law:Stmt:=top 102
noncomputable abbrev z0u:Stmt:=z2j (top 70) 0
noncomputable abbrev z0Z:Stmt:=z2j (top 70) 1
noncomputable abbrev z0c:Stmt:=z2j (top 70) 2
noncomputable abbrev z0p:Stmt:=z2j (top 70) 3
noncomputable abbrev z1K:Stmt:=z2j (top 70) 4
noncomputable abbrev z1E:Stmt:=z2j (top 70) 5
noncomputable abbrev z1w:Stmt:=z2j (top 77) 0
noncomputable abbrev z3j:Stmt:=z2j (top 77) 1
noncomputable abbrev z2M:Stmt:=z2j (top 77) 2
theorem z3K:FnScope ["one", "other", "rest"] ["one", "other"] (z0G z5U):=⟨rfl,rfl,rfl,by decide +kernel,rfl,by decide +kernel,by decide +kernel⟩
theorem z1Y:FnScope ["numbers", "whole", "number"] ["numbers"] (z0G z2Z):=⟨rfl,rfl,rfl,by decide +kernel,rfl,by decide +kernel,by decide +kernel⟩
theorem z1o:FnScope ["number", "small", "part"] ["number"] (z0G z2y):=⟨rfl,rfl,rfl,by decide +kernel,rfl,by decide +kernel,by decide +kernel⟩
theorem z3I:FnScope ["rows", "period", "first", "length"] ["rows"] (z0G z5N):=⟨rfl,rfl,rfl,by decide +kernel,rfl,by decide +kernel,by decide +kernel⟩
theorem z8q:FnScope ["period", "first", "length"] ["period", "first", "length"] (z0G z3i):=⟨rfl,rfl,rfl,by decide +kernel,rfl,by decide +kernel,by decide +kernel⟩
theorem z4u:FnScope ["plan", "turn", "period", "first", "length"] ["plan", "turn"] (z0G y0G):=⟨rfl,rfl,rfl,by decide +kernel,rfl,by decide +kernel,by decide +kernel⟩
theorem z7Q:FnScope ["plan"] ["plan"] (z0G z2v):=⟨rfl,rfl,rfl,by decide +kernel,rfl,by decide +kernel,by decide +kernel⟩
theorem z3J:FnScope ["waking", "part", "period", "length", "common"] ["waking", "part"] (z0G z5Q):=⟨rfl,rfl,rfl,by decide +kernel,rfl,by decide +kernel,by decide +kernel⟩
theorem z1d:FnScope ["plan", "part", "paper", "by", "number", "below"] ["plan", "part", "paper"] (z0G z3Z):=⟨rfl,rfl,rfl,by decide +kernel,rfl,by decide +kernel,by decide +kernel⟩
theorem z5K:FnScope ["part", "by", "number"] ["part", "by", "number"] (z0G z2J):=⟨rfl,rfl,rfl,by decide +kernel,rfl,by decide +kernel,by decide +kernel⟩
theorem y2E:FnScope ["plan", "paper"] ["plan", "paper"] (z0G z5R):=⟨rfl,rfl,rfl,by decide +kernel,rfl,by decide +kernel,by decide +kernel⟩
theorem z1X:FnScope ["paper", "names", "below"] ["paper"] (z0G z2Y):=⟨rfl,rfl,rfl,by decide +kernel,rfl,by decide +kernel,by decide +kernel⟩
theorem y0E:FnScope ["plan", "whole", "turn"] ["plan"] (z0G y3K):=⟨rfl,rfl,rfl,by decide +kernel,rfl,by decide +kernel,by decide +kernel⟩
theorem z6H:FnScope ["plan"] ["plan"] (z0G z2e):=⟨rfl,rfl,rfl,by decide +kernel,rfl,by decide +kernel,by decide +kernel⟩
theorem z0j:FnScope ["plan", "part", "near", "k", "met", "by", "papers"] ["plan", "part", "near"] (z0G z1u):=⟨rfl,rfl,rfl,by decide +kernel,rfl,by decide +kernel,by decide +kernel⟩
theorem y5J:FnScope ["waking", "part"] ["waking", "part"] (z0G y0F):=⟨rfl,rfl,rfl,by decide +kernel,rfl,by decide +kernel,by decide +kernel⟩
theorem y2C:FnScope ["waking", "part"] ["waking", "part"] (z0G z5O):=⟨rfl,rfl,rfl,by decide +kernel,rfl,by decide +kernel,by decide +kernel⟩
theorem z1j:FnScope ["one", "other", "common", "first"] ["one", "other"] (z0G z1t):=⟨rfl,rfl,rfl,by decide +kernel,rfl,by decide +kernel,by decide +kernel⟩
theorem z5J:FnScope ["one", "other", "plan", "waking"] ["one", "other"] (z0G z7T):=⟨rfl,rfl,rfl,by decide +kernel,rfl,by decide +kernel,by decide +kernel⟩
theorem y2D:FnScope ["one", "other", "k"] ["one", "other", "k"] (z0G z5P):=⟨rfl,rfl,rfl,by decide +kernel,rfl,by decide +kernel,by decide +kernel⟩
theorem z5L:FnScope ["one", "other"] ["one", "other"] (z0G z2K):=⟨rfl,rfl,rfl,by decide +kernel,rfl,by decide +kernel,by decide +kernel⟩
theorem z4o:FnScope ["one", "other"] ["one", "other"] (z0G z1v):=⟨rfl,rfl,rfl,by decide +kernel,rfl,by decide +kernel,by decide +kernel⟩
theorem z8o:FnScope ["one", "other", "paper"] ["one", "other", "paper"] (z0G z3b):=⟨rfl,rfl,rfl,by decide +kernel,rfl,by decide +kernel,by decide +kernel⟩
theorem z7R:FnScope ["one", "other", "paper"] ["one", "other", "paper"] (z0G z2w):=⟨rfl,rfl,rfl,by decide +kernel,rfl,by decide +kernel,by decide +kernel⟩
theorem z3v:FnScope ["one", "other", "k", "pair"] ["one", "other", "k"] (z0G z2x):=⟨rfl,rfl,rfl,by decide +kernel,rfl,by decide +kernel,by decide +kernel⟩
theorem z4g:FnScope ["text", "words"] ["text"] (z0G z3a):=⟨rfl,rfl,rfl,by decide +kernel,rfl,by decide +kernel,by decide +kernel⟩
theorem z3T:FnScope ["word", "numbers"] ["word"] (z0G z2W):=⟨rfl,rfl,rfl,by decide +kernel,rfl,by decide +kernel,by decide +kernel⟩
theorem z6F:FnScope ["text"] ["text"] (z0G z2X):=⟨rfl,rfl,rfl,by decide +kernel,rfl,by decide +kernel,by decide +kernel⟩
theorem z7S:FnScope ["text", "most"] ["text", "most"] (z0G z2z):=⟨rfl,rfl,rfl,by decide +kernel,rfl,by decide +kernel,by decide +kernel⟩
theorem z1W:FnScope ["paper", "number", "papers"] ["paper"] (z0G z2V):=⟨rfl,rfl,rfl,by decide +kernel,rfl,by decide +kernel,by decide +kernel⟩
theorem z2R:FnScope ["text", "reader", "paper"] ["text"] (z0G z2u):=⟨rfl,rfl,rfl,by decide +kernel,rfl,by decide +kernel,by decide +kernel⟩
theorem z1s:FnScope ["row", "form", "words", "place", "word"] ["row"] (z0G z4M):=⟨rfl,rfl,rfl,by decide +kernel,rfl,by decide +kernel,by decide +kernel⟩
theorem y6v:FnScope ["place", "word"] ["place", "word"] (z0G y3L):=⟨rfl,rfl,rfl,by decide +kernel,rfl,by decide +kernel,by decide +kernel⟩
theorem y2G:FnScope ["word"] ["word"] (z0G z5T):=⟨rfl,rfl,rfl,by decide +kernel,rfl,by decide +kernel,by decide +kernel⟩
theorem y2F:FnScope ["word"] ["word"] (z0G z5S):=⟨rfl,rfl,rfl,by decide +kernel,rfl,by decide +kernel,by decide +kernel⟩
theorem z8n:FnScope ["words"] ["words"] (z0G z3Y):=⟨rfl,rfl,rfl,by decide +kernel,rfl,by decide +kernel,by decide +kernel⟩
theorem z1I:FnScope ["one", "other", "paper", "shift", "wait", "text"] ["one", "other"] (z0G z2U):=⟨rfl,rfl,rfl,by decide +kernel,rfl,by decide +kernel,by decide +kernel⟩
theorem z2s:FnScope ["one", "other", "paper", "wait"] ["one", "other", "paper"] (z0G z2L):=⟨rfl,rfl,rfl,by decide +kernel,rfl,by decide +kernel,by decide +kernel⟩
theorem z6G:FnScope ["script", "k"] ["script", "k"] (z0G z2d):=⟨rfl,rfl,rfl,by decide +kernel,rfl,by decide +kernel,by decide +kernel⟩
theorem z1J:FnScope ["script", "at", "whole", "plan", "k", "parts", "cell", "period", "length"] ["script", "at", "whole"] (z0G z4P):=⟨rfl,rfl,rfl,by decide +kernel,rfl,by decide +kernel,by decide +kernel⟩
theorem y0C:FnScope ["plan"] ["plan"] (z0G z4O):=⟨rfl,rfl,rfl,by decide +kernel,rfl,by decide +kernel,by decide +kernel⟩
theorem z8p:FnScope ["plan", "turn"] ["plan", "turn"] (z0G z3h):=⟨rfl,rfl,rfl,by decide +kernel,rfl,by decide +kernel,by decide +kernel⟩
theorem y0D:FnScope ["one", "other", "shift", "turn"] ["one", "other", "shift", "turn"] (z0G z4Q):=⟨rfl,rfl,rfl,by decide +kernel,rfl,by decide +kernel,by decide +kernel⟩
theorem z2q:FnScope ["one", "other", "whole", "table", "shift"] ["one", "other", "whole"] (z0G z3f):=⟨rfl,rfl,rfl,by decide +kernel,rfl,by decide +kernel,by decide +kernel⟩
theorem z3U:FnScope ["one", "other"] ["one", "other"] (z0G z2a):=⟨rfl,rfl,rfl,by decide +kernel,rfl,by decide +kernel,by decide +kernel⟩
theorem z2D:FnScope ["one", "other", "whole", "tables", "mine", "yours"] ["one", "other", "whole"] (z0G z3d):=⟨rfl,rfl,rfl,by decide +kernel,rfl,by decide +kernel,by decide +kernel⟩
theorem z2C:FnScope ["tables", "whole", "step", "rest", "paper", "by", "k"] ["tables", "whole", "step", "rest", "paper"] (z0G z3c):=⟨rfl,rfl,rfl,by decide +kernel,rfl,by decide +kernel,by decide +kernel⟩
theorem z2S:FnScope ["one", "other", "paper", "mine", "yours"] ["one", "other", "paper"] (z0G z4N):=⟨rfl,rfl,rfl,by decide +kernel,rfl,by decide +kernel,by decide +kernel⟩
theorem z2p:FnScope ["tables", "whole", "step", "rest", "cell", "by", "k"] ["tables", "whole", "step", "rest", "cell"] (z0G z3e):=⟨rfl,rfl,rfl,by decide +kernel,rfl,by decide +kernel,by decide +kernel⟩
theorem z0r:FnScope ["tables", "whole", "step", "rest", "cells", "cell", "by", "size", "parts", "k", "own"] ["tables", "whole", "step", "rest", "cells"] (z0G z3g):=⟨rfl,rfl,rfl,by decide +kernel,rfl,by decide +kernel,by decide +kernel⟩
theorem z1a:FnScope ["paper", "cell", "at", "parts"] ["paper", "cell"] (z0G z2c):=⟨rfl,rfl,rfl,by decide +kernel,rfl,by decide +kernel,by decide +kernel⟩
theorem z1Z:FnScope ["desk", "tables", "whole", "one", "other", "paper", "told", "due"] ["desk", "tables", "whole", "one", "other", "paper"] (z0G z2b):=⟨rfl,rfl,rfl,by decide +kernel,rfl,by decide +kernel,by decide +kernel⟩
theorem z2r:FnScope ["script", "whole", "one", "other", "desk", "tables", "answer", "cells", "papers", "paper", "changed"] ["script"] (z0G s_law):=⟨rfl,rfl,rfl,by decide +kernel,rfl,by decide +kernel,by decide +kernel⟩
theorem z2T:FnScope ["self", "text"] ["self", "text"] (z0G z0u):=⟨rfl,rfl,rfl,by decide +kernel,rfl,by decide +kernel,by decide +kernel⟩
theorem z0o:FnScope ["self", "above", "by"] ["self", "above"] (z0G z0Z):=⟨rfl,rfl,rfl,by decide +kernel,rfl,by decide +kernel,by decide +kernel⟩
theorem z1A:FnScope ["self", "above", "papers"] ["self", "above"] (z0G z0c):=⟨rfl,rfl,rfl,by decide +kernel,rfl,by decide +kernel,by decide +kernel⟩
theorem z1B:FnScope ["self", "begin"] ["self"] (z0G z0p):=⟨rfl,rfl,rfl,by decide +kernel,rfl,by decide +kernel,by decide +kernel⟩
theorem z3Q:FnScope ["self", "signs"] ["self", "signs"] (z0G z1K):=⟨rfl,rfl,rfl,by decide +kernel,rfl,by decide +kernel,by decide +kernel⟩
theorem z2t:FnScope ["self", "signs"] ["self", "signs"] (z0G z1E):=⟨rfl,rfl,rfl,by decide +kernel,rfl,by decide +kernel,by decide +kernel⟩
theorem z4p:FnScope ["self", "text"] ["self"] (z0G z1w):=⟨rfl,rfl,rfl,by decide +kernel,rfl,by decide +kernel,by decide +kernel⟩
theorem z1e:FnScope ["self", "row", "words", "paper", "one", "other"] ["self", "row"] (z0G z3j):=⟨rfl,rfl,rfl,by decide +kernel,rfl,by decide +kernel,by decide +kernel⟩
theorem z5M:FnScope ["self", "name"] ["self", "name"] (z0G z2M):=⟨rfl,rfl,rfl,by decide +kernel,rfl,by decide +kernel,by decide +kernel⟩
section
variable {P:Program} {w:World} {K:PySem.W.Frag} {mg:Str->Option Value} {base:Heap}
noncomputable def z1p:Sp:=fun vs H Q _=>∃a b:Int,vs=[.int a,.int b]/\0<=a/\0<=b/\Q (.int (gcdI a b)) H
theorem y4P (T:TF K mg "divisor" z5U):Has P w K mg base 1 "divisor" ["one", "other"] z1p:=by
 refine T.has z3K (fun _ _ _ _ _ _=>L2.bnd2 fun _ _=>rfl) (fun vs H Q E h=>?_) (fun f cdv A outer s H vs Q E hr h=>?_)
 ·refine L2.put_away fun G'175 h'175=>?_
  obtain⟨a,b,rfl,_⟩:=h
  refine h'175 ?_
  rfl
 refine L2.put_away fun G'177 h'177=>?_
 obtain⟨a,b,rfl,ha,hb,q⟩:=h
 refine h'177 ?_
 refine⟨_,(z0B (z3w PassesOwn.never (z0L op_ne (pv 1) z0E (z0T _)) (z0B (z0P (i:=2) z3K.nd rfl (Or.inl rfl) (pe_op z0f (pv 0) (pv 1))) (z0B (z0P (i:=0) z3K.nd rfl (Or.inl rfl) (pv 1)) (z0D (z0P (i:=1) z3K.nd rfl (Or.inl rfl) (pv 2)))))) (z0D (z0I (pv 0)))),?_⟩
 walk_at "wp"
 obtain⟨W,hW⟩:∃W:Nat->St->Hp->Prop,W=fun m σ H'=>∃(x y:Int) (r:Option V),σ=[some (.int x),some (.int y),r]/\H'=H/\0<=x/\0<=y/\gcdI x y=gcdI a b/\m=y.toNat:=⟨_,rfl⟩
 refine⟨W,⟨b.toNat,by rw[hW];exact⟨a,b,none,rfl,rfl,ha,hb,rfl,rfl⟩⟩,fun m σ H' h=>?_⟩
 rw[hW] at h
 refine L2.put_away fun G'183 h'183=>?_
 obtain⟨x,y,r,rfl,rfl,hx,hy,e,rfl⟩:=h
 refine h'183 ?_
 walk_at "wp"
 refine⟨fun c=>?_,fun c=>?_⟩
 ·have m1:=Int.emod_nonneg x c
  have m2:=Int.emod_lt_of_pos x (show 0<y by omega)
  refine⟨_,fun _ _ h=>h,?_⟩
  walk_at "wp"
  refine⟨by omega,(x%y).toNat,by omega,?_⟩
  rw[hW]
  exact⟨y,x%y,_,rfl,rfl,hy,m1,by rw[z4C,e],rfl⟩
 ·have c':y=0:=by omega
  subst c'
  rw[z5w hx] at e
  rw[e]
  exact q
theorem y5P {x:Int} {n k:Nat} (h0:0<=x) (h:x<=(2^n)^k):x.natAbs<2^(n*k+1):=by
 rw[←Int.pow_mul] at h
 have e:((2^(n*k):Nat):Int)=2^(n*k):=by rw[Int.natCast_pow];rfl
 rw[←e] at h
 rw[Nat.pow_succ]
 have:0<2^(n*k):=Nat.pow_pos (by decide)
 omega
noncomputable def z2I (K:PySem.W.Frag):Sp:=fun vs H Q _=>∃(L:Addr) (zs:List Int),vs=[.ref L]/\SqL K H L (zs.map V.int)/\zs.length<=200/\(∀z∈zs,1<=z/\z<=2^1000)/\Q (.int (lcms zs)) H
theorem y5o {zs:List Int} {z:Int} (hl:zs.length<=200) (h:∀z∈zs,1<=z/\z<=2^1000) (z0:0<=z) (z1:z<=2^1000):IntMulOk (lcms zs) z:=by
 have p1:=z2i (xs:=zs) fun x hx=>(h x hx).1
 have p2:=y7P (B:=2^1000) (by decide) h
 exact mok (1000*zs.length+1) 1001 (y5P (by omega) p2) (by omega) (by omega)
theorem z7v (T:TF K mg "least_round" z2Z) (G_divisor:Has P w K mg base 1 "divisor" ["one", "other"] z1p):Has P w K mg base 2 "least_round" ["numbers"] (z2I K):=by
 refine T.has z1Y (fun _ _ _ _ _ _=>L2.bnd1 fun _=>rfl) (fun vs H Q E h=>?_) (fun f cdv A outer s H vs Q E hr h=>?_)
 ·refine L2.put_away fun G'213 h'213=>?_
  obtain⟨a,b,rfl,_⟩:=h
  refine h'213 ?_
  rfl
 refine L2.put_away fun G'215 h'215=>?_
 obtain⟨L,zs,rfl,hS,hl,hz,q⟩:=h
 refine h'215 ?_
 refine⟨_,(z0B (z0P (i:=1) z1Y.nd rfl (Or.inl rfl) z0E) (z0B (z1S PassesOwn.never rfl (z0q (pv 0)) (z0S (i:=2) z1Y.nd rfl (Or.inl rfl)) (z0D (z0P (i:=1) z1Y.nd rfl (Or.inl rfl) (pe_op z1l (pv 1) (pe_op z0l (pv 2) (z0J (G_divisor.mono (by first|decide|omega)) hr (z0A (pv 1) (z0A (pv 2) z0C)))))))) (z0D (z0I (pv 1))))),?_⟩
 walk_at "wp"
 refine⟨⟨_,hS⟩,?_⟩
 obtain⟨W,hW⟩:∃W:Nat->St->Hp->Prop,W=fun i σ H'=>∃o,σ=[some (.ref L),some (.int (lcms (zs.take i))),o]/\H'=H:=⟨_,rfl⟩
 refine z1R (xs:=zs.map V.int) W ?_ (fun j σ H2 _ z=>?_) (fun j x σ H2 hx z=>?_) (fun σ H2 z=>?_)
 ·rw[hW]
  exact⟨_,rfl,rfl⟩
 ·rw[hW] at z
  refine L2.put_away fun G'224 h'224=>?_
  obtain⟨_,_,rfl⟩:=z
  refine h'224 ?_
  exact hS
 ·rw[hW] at z
  refine L2.put_away fun G'227 h'227=>?_
  obtain⟨o,rfl,rfl⟩:=z
  refine h'227 ?_
  rw[List.getElem?_map] at hx
  refine L2.put_away fun G'229 h'229=>?_
  obtain⟨x,hy,rfl⟩:=Option.map_eq_some_iff.mp hx
  refine h'229 ?_
  have hx1:=hz x (List.mem_of_getElem? hy)
  have ht:∀z∈zs.take j,1<=z/\z<=2^1000:=fun z hz'=>hz z (List.mem_of_mem_take hz')
  have p1:=z2i (xs:=zs.take j) fun x hx=>(ht x hx).1
  have lt:(zs.take j).length<=200:=by rw[List.length_take];omega
  have gp:=z0m (a:=lcms (zs.take j)) (b:=x) (by omega)
  have gl:gcdI (lcms (zs.take j)) x<=x:=by rw[z4D];exact z0n _ (by omega)
  walk_at "wp"
  refine⟨_,_,rfl,by omega,by omega,?_⟩
  walk_at "wp"
  refine⟨divA 1001 gp (by omega) (by decide),y5o lt ht (Int.ediv_nonneg (by omega) (by omega)) (Int.le_trans (Int.ediv_le_self _ (by omega)) hx1.2),?_⟩
  rw[hW]
  refine⟨some (.int x),?_,rfl⟩
  rw[List.take_add_one,hy]
  show _=[_,some (V.int (lcms (zs.take j++[x]))),_]
  rw[y3n]
  rfl
 ·rw[hW] at z
  refine L2.put_away fun G'247 h'247=>?_
  obtain⟨o,rfl,rfl⟩:=z
  refine h'247 ?_
  rw[List.length_map,List.take_length]
  walk_at "wp"
  exact q
noncomputable def z3u:Sp:=fun vs H Q _=>∃n:Int,vs=[.int n]/\2<=n/\n<2^60/\∀d H',IsPart n d->Same H H'->Q (.int d) H'
theorem y5C {q n:Int} (h0:0<=q) (h:q*q<=n) (hn:n<2^60):q<2^30:=by
 by_cases c:q<2^30
 ·exact c
 ·exfalso
  have:=Int.mul_le_mul (show (2:Int)^30<=q by omega) (show (2:Int)^30<=q by omega) (by decide) h0
  omega
theorem sq_ge {q:Int} (h0:1<=q):q<=q*q:=by
 have:=Int.mul_le_mul_of_nonneg_left h0 (show 0<=q by omega)
 omega
theorem z9M (T:TF K mg "least_part" z2y):Has P w K mg base 1 "least_part" ["number"] z3u:=by
 refine T.has z1o (fun _ _ _ _ _ _=>L2.bnd1 fun _=>rfl) (fun vs H Q E h=>?_) (fun f cdv A outer s H vs Q E hr h=>?_)
 ·refine L2.put_away fun G'264 h'264=>?_
  obtain⟨a,rfl,_⟩:=h
  refine h'264 ?_
  rfl
 refine L2.put_away fun G'266 h'266=>?_
 obtain⟨n,rfl,h2,h60,q⟩:=h
 refine h'266 ?_
 refine⟨_,(z0B (z1S PassesOwn.never rfl (y6R (z1y (z0A z0E (z0A z0E z0C)))) (z0S (i:=1) z1o.nd rfl (Or.inl rfl)) (z0D (ps_if (z0L op_eq (pe_op z0f (pv 0) (pv 1)) z0E (z0T _)) (z0D (z0I (pv 1))) z0K))) (z0B (z0P (i:=2) z1o.nd rfl (Or.inl rfl) z0E) (z0B (z3w PassesOwn.never (z0L op_le (pe_op z1l (pv 2) (pv 2)) (pv 0) (z0T _)) (z0B (ps_if (z0L op_eq (pe_op z0f (pv 0) (pv 2)) z0E (z0T _)) (z0D (z0I (pv 2))) z0K) (z0B (ps_if (z0L op_eq (pe_op z0f (pv 0) (pe_op z1M (pv 2) z0E)) z0E (z0T _)) (z0D (z0I (pe_op z1M (pv 2) z0E))) z0K) (z0D (y8B (i:=2) z1o.nd rfl (Or.inl rfl) z0E y8Q))))) (z0D (z0I (pv 0)))))),?_⟩
 walk_at "wp"
 intro p hp
 have g:Same H (upd H p (.tup [.int 2,.int 3])):=z0H hp _
 refine⟨⟨_,SqT.of z0F⟩,?_⟩
 obtain⟨W,hW⟩:∃W:Nat->St->Hp->Prop,W=fun i σ H'=>∃o,σ=[some (.int n),o,none]/\H'=upd H p (.tup [.int 2,.int 3])/\(1<=i->n%2≠0)/\(2<=i->n%3≠0):=⟨_,rfl⟩
 refine y6A (xs:=[.int 2,.int 3]) W (by rw[hW];exact⟨none,rfl,rfl,by omega,by omega⟩) (fun i σ H' _ h=>?_) (fun i x σ H' hx h=>?_) (fun σ H' h=>?_)
 ·rw[hW] at h
  refine L2.put_away fun G'275 h'275=>?_
  obtain⟨_,_,rfl,_⟩:=h
  refine h'275 ?_
  exact SqT.of z0F
 ·rw[hW] at h
  refine L2.put_away fun G'278 h'278=>?_
  obtain⟨o,rfl,rfl,k2,k3⟩:=h
  refine h'278 ?_
  match i,hx with
  | 0,hx=>
   cases hx
   walk_at "wp"
   refine⟨by decide,fun c=>q 2 _ ⟨by decide,Int.dvd_of_emod_eq_zero c,fun d d1 d2=>by omega⟩ g,fun c=>?_⟩
   rw[hW]
   exact⟨_,rfl,rfl,fun _=>c,by omega⟩
  | 1,hx=>
   cases hx
   walk_at "wp"
   refine⟨by decide,fun c=>q 3 _ ⟨by decide,Int.dvd_of_emod_eq_zero c,fun d d1 d2=>?_⟩ g,fun c=>?_⟩
   ·have:d=2:=by omega
    subst this
    exact z0k (k2 (by omega))
   ·rw[hW]
    exact⟨_,rfl,rfl,fun _=>k2 (by omega),fun _=>c⟩
  | i+2,hx=>simp at hx
 ·rw[hW] at h
  refine L2.put_away fun G'297 h'297=>?_
  obtain⟨o,rfl,rfl,k2,k3⟩:=h
  refine h'297 ?_
  have k2:=k2 (by decide)
  have k3:=k3 (by decide)
  walk_at "wp"
  obtain⟨Z,hZ⟩:∃Z:Nat->St->Hp->Prop,Z=fun m σ H'=>∃(q:Int),σ=[some (.int n),o,some (.int q)]/\H'=upd H p (.tup [.int 2,.int 3])/\NoPart n q/\q%6=5/\5<=q/\q<2^31/\m=(n+6-q).toNat:=⟨_,rfl⟩
  refine⟨Z,⟨(n+6-5).toNat,by rw[hZ];exact⟨5,rfl,rfl,NoPart.five k2 k3,by decide,by decide,by decide,rfl⟩⟩,fun m σ H' h=>?_⟩
  rw[hZ] at h
  refine L2.put_away fun G'304 h'304=>?_
  obtain⟨t,rfl,rfl,np,t6,t5,t31,rfl⟩:=h
  refine h'304 ?_
  walk_at "wp"
  refine⟨mokS (by omega) (by omega),fun c=>?_,fun c=>?_⟩
  ·have tl:=y5C (by omega) c h60
   have tg:=sq_ge (show 1<=t by omega)
   refine⟨_,fun _ _ h=>h,?_⟩
   walk_at "wp"
   refine⟨by omega,fun c1=>q t _ ⟨by omega,Int.dvd_of_emod_eq_zero c1,np⟩ g,fun c1=>⟨by omega,fun c2=>q (t+2) _ ⟨by omega,Int.dvd_of_emod_eq_zero c2,np.two_on k2 t6 c1⟩ g,fun c2=>?_⟩⟩
   refine⟨(n+6-(t+6)).toNat,by omega,?_⟩
   rw[hZ]
   exact⟨t+6,rfl,rfl,np.six k2 k3 t6 c1 c2,by omega,by omega,by omega,rfl⟩
  ·exact q n _ (y0V h2 np (by omega) (by omega)) g
noncomputable def awk (w:T3) (t:Int):Bool:=decide ((t-w.2.1)%w.1<w.2.2)
noncomputable def z1D (ws:List T3) (t:Int):Bool:=ws.any fun w=>awk w t
noncomputable def y1O (K:PySem.W.Frag):Sp:=fun vs H Q _=>∃(a:Addr) (t:Int) (xs:List V) (ws:List T3),vs=[.ref a,.int t]/\SqL K H a xs/\Pl H xs ws/\(∀u∈ws,1<=u.1)/\Q (.bl (z1D ws t)) H
theorem y6I {α:Type} {f:α->Bool} {l:List α} {i:Nat} {x:α} (e:l[i]?=some x):(l.take (i+1)).any f=((l.take i).any f || f x):=by
 rw[List.take_add_one,e,List.any_append]
 simp
theorem y6H {α:Type} {f:α->Bool} {l:List α} {i:Nat} {x:α} (e:l[i]?=some x) (h:f x=true):l.any f=true:=List.any_eq_true.mpr ⟨x,List.mem_of_getElem? e,h⟩
theorem y7X (T:TF K mg "awake" y0G):Has P w K mg base 1 "awake" ["plan", "turn"] (y1O K):=by
 refine T.has z4u (fun _ _ _ _ _ _=>L2.bnd2 fun _ _=>rfl) (fun vs H Q E h=>?_) (fun f cdv A outer s H vs Q E hr h=>?_)
 ·refine L2.put_away fun G'326 h'326=>?_
  obtain⟨a,t,xs,ws,rfl,_⟩:=h
  refine h'326 ?_
  rfl
 refine L2.put_away fun G'328 h'328=>?_
 obtain⟨a,t,xs,ws,rfl,hS,hP,hw,q⟩:=h
 refine h'328 ?_
 refine⟨_,(z0B (z1S PassesOwn.never rfl (z0q (pv 0)) (z9A rfl (z0y (z0S (i:=2) z4u.nd rfl (Or.inl rfl)) (z0y (z0S (i:=3) z4u.nd rfl (Or.inl rfl)) (z0y (z0S (i:=4) z4u.nd rfl (Or.inl rfl)) z5a)))) (z0D (ps_if (z0L op_lt (pe_op z0f (pe_op z2k (pv 1) (pv 3)) (pv 2)) (pv 4) (z0T _)) (z0D (z0I pe_bl)) z0K))) (z0D (z0I pe_bl))),?_⟩
 walk_at "wp"
 refine⟨⟨_,hS⟩,?_⟩
 obtain⟨W,hW⟩:∃W:Nat->St->Hp->Prop,W=fun i σ H'=>∃o1 o2 o3:Option V,σ=[some (.ref a),some (.int t),o1,o2,o3]/\H'=H/\(ws.take i).any (fun w=>awk w t)=false:=⟨_,rfl⟩
 refine z1R (xs:=xs) W ?_ (fun i σ H' _ z=>?_) (fun i x σ H' hx z=>?_) (fun σ H' z=>?_)
 ·rw[hW]
  exact⟨none,none,none,rfl,rfl,rfl⟩
 ·rw[hW] at z
  refine L2.put_away fun G'337 h'337=>?_
  obtain⟨_,_,_,_,rfl,_⟩:=z
  refine h'337 ?_
  exact hS
 ·rw[hW] at z
  refine L2.put_away fun G'340 h'340=>?_
  obtain⟨o1,o2,o3,rfl,rfl,ha⟩:=z
  refine h'340 ?_
  refine L2.put_away fun G'341 h'341=>?_
  obtain⟨p,u,e1,rfl,e3⟩:=hP.at hx
  refine h'341 ?_
  refine⟨p,_,rfl,SqT.of e3,rfl,?_⟩
  have u1:=hw u (List.mem_of_getElem? e1)
  walk_at "wp"
  refine⟨by omega,fun c=>?_,fun c=>?_⟩
  ·have e:z1D ws t=true:=y6H e1 (decide_eq_true c)
   rw[e] at q
   exact q
  ·rw[hW]
   exact⟨_,_,_,rfl,rfl,by rw[y6I e1,ha];exact decide_eq_false c⟩
 ·rw[hW] at z
  refine L2.put_away fun G'352 h'352=>?_
  obtain⟨o1,o2,o3,rfl,rfl,ha⟩:=z
  refine h'352 ?_
  rw[hP.1,List.take_length] at ha
  walk_at "wp"
  have e:z1D ws t=false:=ha
  rw[e] at q
  exact q
noncomputable def z3r (K:PySem.W.Frag):Sp:=fun vs H Q _=>∃(a:Addr) (xs:List V) (ws:List T3),vs=[.ref a]/\SqL K H a xs/\Pl H xs ws/\(∀u∈ws,1<=u.1/\u.1<=2^1000)/\ws.length<=200/\∀H',Same H H'->Q (.int (lcms (ws.map (·.1)))) H'
theorem z9J (T:TF K mg "plan_round" z2v) (G_least_round:Has P w K mg base 2 "least_round" ["numbers"] (z2I K)):Has P w K mg base 3 "plan_round" ["plan"] (z3r K):=by
 refine T.has z7Q (fun _ _ _ _ _ _=>L2.bnd1 fun _=>rfl) (fun vs H Q E h=>?_) (fun f cdv A outer s H vs Q E hr h=>?_)
 ·refine L2.put_away fun G'362 h'362=>?_
  obtain⟨a,xs,ws,rfl,_⟩:=h
  refine h'362 ?_
  rfl
 refine L2.put_away fun G'364 h'364=>?_
 obtain⟨a,xs,ws,rfl,hS,hP,hw,hlen,q⟩:=h
 refine h'364 ?_
 refine⟨_,(z0D (z0I (z0J (G_least_round.mono (by first|decide|omega)) hr (z0A (z1F (CompSc.none (own:=["period", "first", "length"]) (by decide +kernel) (by decide +kernel) rfl (by decide +kernel)) rfl (z0q (pv 0)) (fun _ _ _=>(show PG _ _ (gTup K 3 (gCons (gName 0) (gCons (gName 1) (gCons (gName 2) gNil)))) from z9A (n:=3) rfl (z0y (z0S (i:=0) (show (["period", "first", "length"]:List Str).Nodup from by decide +kernel) rfl (Or.inl rfl) (Or.inr rfl)) (z0y (z0S (i:=1) (show (["period", "first", "length"]:List Str).Nodup from by decide +kernel) rfl (Or.inl rfl) (Or.inr rfl)) (z0y (z0S (i:=2) (show (["period", "first", "length"]:List Str).Nodup from by decide +kernel) rfl (Or.inl rfl) (Or.inr rfl)) z5a))))) (fun _ _ _=>z0v) (fun _ _ _=>(pv 0))) z0C)))),?_⟩
 walk_at "wp"
 refine⟨⟨_,hS⟩,?_⟩
 obtain⟨Sv,hSv⟩:∃Sv:St->Prop,Sv=fun σ=>∃o1 o2 o3,σ=[o1,o2,o3]:=⟨_,rfl⟩
 obtain⟨Pv,hPv⟩:∃Pv:Addr->Nat->List V->Hp->Prop,Pv=fun D i ys H2=>H D=none/\Same H H2/\ys=((ws.take i).map (·.1)).map V.int:=⟨_,rfl⟩
 refine z0z (xs:=xs) Sv Pv (by rw[hSv];exact⟨none,none,none,rfl⟩) (fun D hD=>?_) (fun D i ys H2 hD h=>?_) (fun D i x ys σ H2 hx hi hs hD hy h=>?_) (fun D ys H2 hD h=>?_)
 ·rw[hPv]
  exact⟨hD,z0H hD _,rfl⟩
 ·rw[hPv] at h
  exact h.2.1.seq hS
 ·rw[hSv] at hs
  rw[hPv] at h
  refine L2.put_away fun G'377 h'377=>?_
  obtain⟨o1,o2,o3,rfl⟩:=hs
  refine h'377 ?_
  refine L2.put_away fun G'378 h'378=>?_
  obtain⟨nD,g,rfl⟩:=h
  refine h'378 ?_
  refine L2.put_away fun G'379 h'379=>?_
  obtain⟨p,u,e1,rfl,e3⟩:=hP.at hx
  refine h'379 ?_
  rw[hP.1] at hi
  refine⟨p,_,rfl,SqT.of (g _ _ e3),rfl,?_⟩
  walk_at "wp"
  refine CompP.mk hD hy (by rw[sizeLine_eq];omega) (by rw[hSv];exact⟨_,_,_,rfl⟩) (by
   rw[hPv]
   refine⟨nD,g.write nD _,?_⟩
   rw[List.take_add_one,e1]
   simp)
 ·rw[hPv] at h
  refine L2.put_away fun G'389 h'389=>?_
  obtain⟨nD,g,rfl⟩:=h
  refine h'389 ?_
  rw[hP.1,List.take_length] at hD
  walk_at "wp"
  refine⟨D,ws.map (·.1),rfl,SqL.of hD,by simpa using hlen,fun z hz=>?_,q _ g⟩
  refine L2.put_away fun G'393 h'393=>?_
  obtain⟨u,hu,rfl⟩:=List.mem_map.mp hz
  refine h'393 ?_
  exact hw u hu
theorem y0s {ws:List T3} {L:Int} (h:∀u∈ws,u.1∣L) (t:Int):z1D ws (t+L)=z1D ws t:=by
 unfold z1D
 refine Bool.eq_iff_iff.mpr ?_
 rw[List.any_eq_true,List.any_eq_true]
 have e:∀u∈ws,awk u (t+L)=awk u t:=fun u hu=>by
  obtain⟨k,hk⟩:=h u hu
  have e1:t+L-u.2.1=(t-u.2.1)+u.1*k:=by omega
  unfold awk
  rw[e1,Int.add_mul_emod_self_left]
 exact⟨fun⟨u,hu,z⟩=>⟨u,hu,by rw[e u hu] at z;exact z⟩,fun⟨u,hu,z⟩=>⟨u,hu,by rw[e u hu];exact z⟩⟩
noncomputable def holeN (ws:List T3) (n:Nat):Option Int:=((List.range n).find? fun i:Nat=>!z1D ws (i:Int)).map fun i:Nat=>(i:Int)
theorem y2O {ws:List T3} {n i:Nat} (hi:i<n) (h:z1D ws (i:Int)=false) (hb:∀j:Nat,j<i->z1D ws (j:Int)=true):holeN ws n=some (i:Int):=by
 unfold holeN
 rw[List.find?_range_eq_some.mpr ⟨by simp [h],List.mem_range.mpr hi,fun j hj=>by simp [hb j hj]⟩]
 rfl
theorem y2P {ws:List T3} {n:Nat} (h:∀i:Nat,i<n->z1D ws (i:Int)=true):holeN ws n=none:=by
 unfold holeN
 rw[List.find?_range_eq_none.mpr fun i hi=>by simp [h i hi]]
 rfl
theorem z4W {ws:List T3} {n:Nat}:(∃i:Nat,holeN ws n=some (i:Int)/\i<n/\z1D ws (i:Int)=false/\∀j:Nat,j<i->z1D ws (j:Int)=true)∨(holeN ws n=none/\∀i:Nat,i<n->z1D ws (i:Int)=true):=by
 cases e:(List.range n).find? fun i:Nat=>!z1D ws (i:Int) with
 | none=>
  right
  refine⟨by unfold holeN;rw[e];rfl,fun i hi=>?_⟩
  have:=List.find?_range_eq_none.mp e i hi
  simpa using this
 | some i=>
  left
  refine L2.put_away fun G'426 h'426=>?_
  obtain⟨h1,h2,h3⟩:=List.find?_range_eq_some.mp e
  refine h'426 ?_
  refine⟨i,by unfold holeN;rw[e];rfl,List.mem_range.mp h2,by simpa using h1,fun j hj=>by simpa using h3 j hj⟩
noncomputable def z9y (K:PySem.W.Frag):Sp:=fun vs H Q _=>∃(a:Addr) (xs:List V) (ws:List T3),vs=[.ref a]/\SqL K H a xs/\Pl H xs ws/\(∀u∈ws,1<=u.1/\u.1<=2^1000)/\ws.length<=200/\lcms (ws.map (·.1))<=5000/\∀H',Same H H'->Q (oV (holeN ws (lcms (ws.map (·.1))).toNat)) H'
theorem y8T (T:TF K mg "hole" y3K) (m_range:mg "range" = none) (c_LONGEST_ROUND:CI mg "LONGEST_ROUND" 5000) (G_plan_round:Has P w K mg base 3 "plan_round" ["plan"] (z3r K)) (G_awake:Has P w K mg base 1 "awake" ["plan", "turn"] (y1O K)):Has P w K mg base 4 "hole" ["plan"] (z9y K):=by
 refine T.has y0E (fun _ _ _ _ _ _=>L2.bnd1 fun _=>rfl) (fun vs H Q E h=>?_) (fun f cdv A outer s H vs Q E hr h=>?_)
 ·refine L2.put_away fun G'444 h'444=>?_
  obtain⟨a,xs,ws,rfl,_⟩:=h
  refine h'444 ?_
  rfl
 refine L2.put_away fun G'446 h'446=>?_
 obtain⟨a,xs,ws,rfl,hS,hP,hw,hlen,hL,q⟩:=h
 refine h'446 ?_
 refine⟨_,(z0B (z0P (i:=1) y0E.nd rfl (Or.inl rfl) (z0J (G_plan_round.mono (by first|decide|omega)) hr (z0A (pv 0) z0C))) (z0B (ps_if (z0L op_gt (pv 1) (pe_ci rfl c_LONGEST_ROUND) (z0T _)) (z0D z0x) z0K) (z0B (z1S PassesOwn.never rfl (z1f rfl m_range (z0A (pv 1) z0C)) (z0S (i:=2) y0E.nd rfl (Or.inl rfl)) (z0D (ps_if (z2F (z1C (z0J (G_awake.mono (by first|decide|omega)) hr (z0A (pv 0) (z0A (pv 2) z0C))) (fun _=>rfl))) (z0D (z0I (pv 2))) z0K))) (z0D (z0I z6j))))),?_⟩
 walk_at "wp"
 refine⟨a,xs,ws,rfl,hS,hP,hw,hlen,fun H1 g1=>?_⟩
 have L1:=z2i (xs:=ws.map (·.1)) fun z hz=>by
  refine L2.put_away fun G'451 h'451=>?_
  obtain⟨u,hu,rfl⟩:=List.mem_map.mp hz
  refine h'451 ?_
  exact (hw u hu).1
 generalize lcms (ws.map (·.1))=L at hL L1 q
 walk_at "wp"
 refine⟨fun c=>by omega,fun _=>⟨_,rfl,by omega,by omega,?_⟩⟩
 obtain⟨W,hW⟩:∃W:Nat->St->Hp->Prop,W=fun i σ H'=>∃o:Option V,σ=[some (.ref a),some (.int L),o]/\H'=H1/\∀j:Nat,j<i->z1D ws (j:Int)=true:=⟨_,rfl⟩
 refine z1r W ?_ (fun i σ H' hi z=>?_) (fun σ H' z=>?_)
 ·rw[hW]
  exact⟨none,rfl,rfl,fun j hj=>absurd hj (Nat.not_lt_zero _)⟩
 ·rw[hW] at z
  refine L2.put_away fun G'461 h'461=>?_
  obtain⟨o,rfl,rfl,hj⟩:=z
  refine h'461 ?_
  have e0:(0:Int)+(i:Int)=i:=by omega
  walk_at "wp"
  rw[e0]
  refine⟨_,_,xs,ws,rfl,g1.seq hS,hP.same g1,fun u hu=>(hw u hu).1,?_⟩
  cases c:z1D ws (i:Int) with
  | true=>
   walk_at "wp"
   rw[hW]
   refine⟨_,rfl,rfl,fun j hj2=>?_⟩
   rcases Nat.lt_succ_iff_lt_or_eq.mp hj2 with z|z
   ·exact hj j z
   ·rw[z];exact c
  | false=>
   walk_at "wp"
   have q1:=q H' g1
   rw[y2O hi c hj] at q1
   exact q1
 ·rw[hW] at z
  refine L2.put_away fun G'480 h'480=>?_
  obtain⟨o,rfl,rfl,hj⟩:=z
  refine h'480 ?_
  walk_at "wp"
  have q1:=q H' g1
  rw[y2P hj] at q1
  exact q1
noncomputable def tupP (s r:Int):HO:=.tup [.int s,.int r]
noncomputable def z4L (K:PySem.W.Frag):Sp:=fun vs H Q _=>∃(p p2:Addr) (u:T3) (s r:Int),vs=[.ref p,.ref p2]/\H p=some (tupW u)/\SqT K H p2 [.int s,.int r]/\1<=u.1/\1<=s/\Q (.bl (liesB u s r)) H
theorem y4L (T:TF K mg "lies_in" z5Q) (G_divisor:Has P w K mg base 1 "divisor" ["one", "other"] z1p):Has P w K mg base 2 "lies_in" ["waking", "part"] (z4L K):=by
 refine T.has z3J (fun _ _ _ _ _ _=>L2.bnd2 fun _ _=>rfl) (fun vs H Q E h=>?_) (fun f cdv A outer s H vs Q E hr h=>?_)
 ·refine L2.put_away fun G'490 h'490=>?_
  obtain⟨p,p2,u,s,r,rfl,_⟩:=h
  refine h'490 ?_
  rfl
 refine L2.put_away fun G'492 h'492=>?_
 obtain⟨p,p2,u,st,r,rfl,hp,hp2,u1,s1,q⟩:=h
 refine h'492 ?_
 refine⟨_,(z0B (z0P (i:=2) z3J.nd rfl (Or.inl rfl) (pe_ix z0R (pv 0) z0E (fun _ _=>rfl))) (z0B (z0P (i:=3) z3J.nd rfl (Or.inl rfl) (pe_ix z0R (pv 0) z0E (fun _ _=>rfl))) (z0B (z0P (i:=4) z3J.nd rfl (Or.inl rfl) (z0J (G_divisor.mono (by first|decide|omega)) hr (z0A (pe_ix z0R (pv 1) z0E (fun _ _=>rfl)) (z0A (pv 2) z0C)))) (z0D (z0I (z2h op_ge (pe_op z0f (pe_op z2k (pe_op z2k (pe_ix z0R (pv 1) z0E (fun _ _=>rfl)) (pe_ix z0R (pv 0) z0E (fun _ _=>rfl))) (pv 3)) (pv 4)) (pe_op z2k (pv 2) (pv 3)) (z0T _))))))),?_⟩
 have hT:SqT K H p [.int u.1,.int u.2.1,.int u.2.2]:=SqT.of hp
 have hT2:SqT K H p2 [.int st,.int r]:=hp2
 have gp:=z0m (a:=st) (b:=u.1) (by omega)
 walk_at "wp"
 refine⟨_,_,_,.int u.1,rfl,rfl,hT,rfl,?_⟩
 refine⟨_,_,_,.int u.2.2,rfl,rfl,hT,rfl,?_⟩
 refine⟨_,_,_,.int st,rfl,rfl,hT2,rfl,?_⟩
 walk_at "wp"
 refine⟨_,_,rfl,by omega,by omega,?_⟩
 refine⟨_,_,_,.int r,rfl,rfl,hT2,rfl,?_⟩
 refine⟨_,_,_,.int u.2.1,rfl,rfl,hT,rfl,?_⟩
 walk_at "wp"
 refine⟨gp,?_⟩
 exact q
theorem modB (x:Int) {m:Int} (h:0<m):0<=x%m/\x%m<m:=⟨Int.emod_nonneg _ (by omega),Int.emod_lt_of_pos _ h⟩
theorem z8C {Pz:Int->Prop} {zs:List Int} {i:Nat} (h:∀z∈zs,Pz z) (hi:i<zs.length):Pz (zs.getD i 0):=by
 rw[List.getD_eq_getElem?_getD,List.getElem?_eq_getElem hi]
 exact h _ (List.getElem_mem hi)
noncomputable def y3B (K:PySem.W.Frag):Sp:=fun vs H Q _=>∃(p p2:Addr) (u v:T3),vs=[.ref p,.ref p2]/\SqT K H p [.int u.1,.int u.2.1,.int u.2.2]/\SqT K H p2 [.int v.1,.int v.2.1,.int v.2.2]/\1<=u.1/\1<=v.1/\∀(t:Addr) (H':Hp),Same H H'->H t=none->H' t=some (tupW (sh2 u v))->Q (.ref t) H'
theorem z5r (T:TF K mg "shifts_of_two" z1t) (m_min:mg "min" = none) (G_divisor:Has P w K mg base 1 "divisor" ["one", "other"] z1p):Has P w K mg base 2 "shifts_of_two" ["one", "other"] (y3B K):=by
 refine T.has z1j (fun _ _ _ _ _ _=>L2.bnd2 fun _ _=>rfl) (fun vs H Q E h=>?_) (fun f cdv A outer s H vs Q E hr h=>?_)
 ·refine L2.put_away fun G'532 h'532=>?_
  obtain⟨p,p2,u,v,rfl,_⟩:=h
  refine h'532 ?_
  rfl
 refine L2.put_away fun G'534 h'534=>?_
 obtain⟨p,p2,u,v,rfl,hT,hT2,u1,v1,q⟩:=h
 refine h'534 ?_
 refine⟨_,(z0B (z0P (i:=2) z1j.nd rfl (Or.inl rfl) (z0J (G_divisor.mono (by first|decide|omega)) hr (z0A (pe_ix z0R (pv 0) z0E (fun _ _=>rfl)) (z0A (pe_ix z0R (pv 1) z0E (fun _ _=>rfl)) z0C)))) (z0B (z0P (i:=3) z1j.nd rfl (Or.inl rfl) (pe_op z0f (pe_op z2k (pe_op z2k (pe_ix z0R (pv 0) z0E (fun _ _=>rfl)) (pe_ix z0R (pv 1) z0E (fun _ _=>rfl))) (pe_op z2k (pe_ix z0R (pv 1) z0E (fun _ _=>rfl)) z0E)) (pv 2))) (z0D (z0I (z1y (z0A (pv 2) (z0A (pv 3) (z0A (z0M (y4r rfl) rfl m_min (by decide +kernel) (z0A (pv 2) (z0A (pe_op z2k (pe_op z1M (pe_ix z0R (pv 0) z0E (fun _ _=>rfl)) (pe_ix z0R (pv 1) z0E (fun _ _=>rfl))) z0E) z0C))) z0C)))))))),?_⟩
 have gp:=z0m (a:=u.1) (b:=v.1) (by omega)
 walk_at "wp"
 refine⟨_,_,_,.int u.1,rfl,rfl,hT,rfl,?_⟩
 refine⟨_,_,_,.int v.1,rfl,rfl,hT2,rfl,?_⟩
 refine⟨_,_,rfl,by omega,by omega,?_⟩
 refine⟨_,_,_,.int u.2.1,rfl,rfl,hT,rfl,?_⟩
 refine⟨_,_,_,.int v.2.1,rfl,rfl,hT2,rfl,?_⟩
 walk_at "wp"
 refine⟨_,_,_,.int v.2.2,rfl,rfl,hT2,rfl,?_⟩
 walk_at "wp"
 refine⟨gp,?_⟩
 refine⟨_,_,_,.int u.2.2,rfl,rfl,hT,rfl,?_⟩
 refine⟨_,_,_,.int v.2.2,rfl,rfl,hT2,rfl,?_⟩
 walk_at "wp"
 refine⟨_,_,rfl,?_⟩
 walk_at "wp"
 intro t nt
 exact q t _ (z0H nt _) nt z0F
noncomputable def shs (ws vs:List T3):List T3:=ws.flatMap fun u=>vs.map (sh2 u)
theorem y1R {ws vs:List T3} {i:Nat} {u:T3} (e:ws[i]?=some u):shs (ws.take (i+1)) vs=shs (ws.take i) vs++vs.map (sh2 u):=by
 unfold shs
 rw[List.take_add_one,e,List.flatMap_append]
 simp
theorem z2Q:∀ws vs:List T3,(shs ws vs).length=ws.length*vs.length
 | [],vs=>by simp [shs]
 | u::ws,vs=>by
  have:=z2Q ws vs
  unfold shs at *
  rw[List.flatMap_cons,List.length_append,this,List.length_map,List.length_cons,Nat.succ_mul]
  omega
theorem z7Z {ws vs:List T3} {x:T3}:x∈shs ws vs ↔ ∃u∈ws,∃v∈vs,sh2 u v=x:=by
 unfold shs
 simp only [List.mem_flatMap,List.mem_map]
theorem y3H {ws vs:List T3} (hw:∀u∈ws,Wk u) (hv:∀v∈vs,Wk v):∀x∈shs ws vs,Wk x:=fun x hx=>by
 refine L2.put_away fun G'571 h'571=>?_
 obtain⟨u,hu,v,hv2,rfl⟩:=z7Z.mp hx
 refine h'571 ?_
 exact y7v (hw u hu) (hv v hv2)
noncomputable def z3q (K:PySem.W.Frag):Sp:=fun vs H Q _=>∃(a b:Addr) (xs ys:List V) (ws us:List T3),vs=[.ref a,.ref b]/\SqL K H a xs/\Pl H xs ws/\SqL K H b ys/\Pl H ys us/\(∀u∈ws,1<=u.1)/\(∀u∈us,1<=u.1)/\ws.length<=100/\us.length<=100/\
 ∀(D:Addr) (zs:List V) (H':Hp),Same H H'->H D=none->H' D=some (.lst zs)->Pl H' zs (shs ws us)->Q (.ref D) H'
theorem y6G {K:PySem.W.Frag} {a b:Addr} {p:Addr} {u:T3} {ys:List V} {us:List T3} {nm:Str} {fr:List Nat} {σ:St} {H:Hp} {Q:VK} (hS:SqL K H b ys) (hP:Pl H ys us) (hu:∀v∈us,1<=v.1) (hl:us.length<=100) (hp:H p=some (tupW u)) (u1:1<=u.1) (hst:st0 [nm] fr σ=[none,some (.ref p)])
  (hq:∀(D:Addr) (zs:List V) (H':Hp),Same H H'->H D=none->H' D=some (.lst zs)->Pl H' zs (us.map (sh2 u))->Q (.ref D) H') :
  CompW (Itl K b) (gName 0) tTrue (tCall (y3B K) [] E0 (tCons (tVar 1) (tCons (tVar 0) tNil))) [nm] fr σ H Q:=by
 obtain⟨Sv,hSv⟩:∃Sv:St->Prop,Sv=fun σ=>∃o,σ=[o,some (.ref p)]:=⟨_,rfl⟩
 obtain⟨Pv,hPv⟩:∃Pv:Addr->Nat->List V->Hp->Prop,Pv=fun D i ys H2=>H D=none/\Same H H2/\Pl H2 ys ((us.take i).map (sh2 u)):=⟨_,rfl⟩
 refine z0z (xs:=ys) Sv Pv (by rw[hSv,hst];exact⟨none,rfl⟩) (fun D hD=>?_) (fun D i ys H2 hD h=>?_) (fun D i x ys σ H2 hx hi hs hD hy h=>?_) (fun D ys H2 hD h=>?_)
 ·rw[hPv]
  exact⟨hD,z0H hD _,.nil⟩
 ·rw[hPv] at h
  exact h.2.1.seq hS
 ·rw[hSv] at hs
  rw[hPv] at h
  obtain⟨o,rfl⟩:=hs
  refine L2.put_away fun G'588 h'588=>?_
  obtain⟨nD,g,hQ⟩:=h
  refine h'588 ?_
  refine L2.put_away fun G'589 h'589=>?_
  obtain⟨p2,v,e1,rfl,e3⟩:=hP.at hx
  refine h'589 ?_
  have v1:=hu v (List.mem_of_getElem? e1)
  rw[hP.1] at hi
  walk_at "wp"
  refine⟨p,p2,u,v,rfl,SqT.of (g _ _ hp),SqT.of (g _ _ e3),u1,v1,fun t H3 g3 nt ht=>?_⟩
  have hD3:=g3 _ _ hD
  refine CompP.mk hD3 hy (by rw[sizeLine_eq];omega) (by rw[hSv];exact⟨_,rfl⟩) (by
   rw[hPv]
   refine⟨nD,(g.trans g3).write nD _,?_⟩
   rw[List.take_add_one,e1,List.map_append]
   exact ((hQ.same g3).snoc ht).upd hD3)
 ·rw[hPv] at h
  refine L2.put_away fun G'601 h'601=>?_
  obtain⟨nD,g,hQ⟩:=h
  refine h'601 ?_
  rw[hP.1,List.take_length] at hQ
  exact hq D ys H2 g nD hD hQ
theorem y5v (T:TF K mg "shifts" z7T) (G_shifts_of_two:Has P w K mg base 2 "shifts_of_two" ["one", "other"] (y3B K)):Has P w K mg base 3 "shifts" ["one", "other"] (z3q K):=by
 refine T.has z5J (fun _ _ _ _ _ _=>L2.bnd2 fun _ _=>rfl) (fun vs H Q E h=>?_) (fun f cdv A outer s H vs Q E hr h=>?_)
 ·refine L2.put_away fun G'606 h'606=>?_
  obtain⟨a,b,xs,ys,ws,us,rfl,_⟩:=h
  refine h'606 ?_
  rfl
 refine L2.put_away fun G'608 h'608=>?_
 obtain⟨a,b,xs,ys,ws,us,rfl,hS,hP,hS2,hP2,hw,hu,lw,lu,q⟩:=h
 refine h'608 ?_
 refine⟨_,(z0B (z0P (i:=2) z5J.nd rfl (Or.inl rfl) (z1T z0C)) (z0B (z1S PassesOwn.never rfl (z0q (pv 0)) (z0S (i:=3) z5J.nd rfl (Or.inr rfl)) (z0D (z1k (pe_bm PySem.F.plainAttrs_list PySem.F.slot_list_extend PySem.F.type_list_extend z9D (pv 2) (z0A (z1F (CompSc.capt (own:=["beside"]) (capt:=["waking"]) (fr:=[3]) rfl ⟨rfl,rfl,rfl,rfl,rfl,trivial⟩ (by decide +kernel) (by decide +kernel) rfl (by decide +kernel)) rfl (z0q (pv 1)) (fun _ _ _=>(z0S (i:=0) (show (["beside", "waking"]:List Str).Nodup from by decide +kernel) rfl (Or.inl rfl) (Or.inr rfl))) (fun _ _ _=>z0v) (fun _ _ _=>(z0J (G_shifts_of_two.mono (by first|decide|omega)) hr (z0A (pv 1) (z0A (pv 0) z0C))))) z0C))))) (z0D (z0I (pv 2))))),?_⟩
 walk_at "wp"
 intro L hL
 have g0:=z0H hL (.lst [])
 refine⟨⟨_,g0.seq hS⟩,?_⟩
 obtain⟨W,hW⟩:∃W:Nat->St->Hp->Prop,W=fun i σ H'=>∃(o:Option V) (zs:List V),σ=[some (.ref a),some (.ref b),some (.ref L),o]/\Same H H'/\H' L=some (.lst zs)/\Pl H' zs (shs (ws.take i) us):=⟨_,rfl⟩
 refine z1R (xs:=xs) W ?_ (fun i σ H' _ z=>?_) (fun i x σ H' hx z=>?_) (fun σ H' z=>?_)
 ·rw[hW]
  exact⟨none,[],rfl,g0,z0F,.nil⟩
 ·rw[hW] at z
  refine L2.put_away fun G'619 h'619=>?_
  obtain⟨_,_,_,g,_⟩:=z
  refine h'619 ?_
  exact g.seq hS
 ·rw[hW] at z
  refine L2.put_away fun G'622 h'622=>?_
  obtain⟨o,zs,rfl,g,hL2,hZ⟩:=z
  refine h'622 ?_
  refine L2.put_away fun G'623 h'623=>?_
  obtain⟨p,u,e1,rfl,e3⟩:=hP.at hx
  refine h'623 ?_
  have u1:=hw u (List.mem_of_getElem? e1)
  have hi:=(List.getElem?_eq_some_iff.mp e1).1
  walk_at "wp"
  refine⟨.inl ⟨rfl,_,SqL.of hL2⟩,⟨_,g.seq hS2⟩,?_⟩
  refine y6G (a:=a) (g.seq hS2) (hP2.same g) hu lu (g _ _ e3) u1 rfl fun D ds H2 g2 nD hD hQ=>?_
  have lz:=hZ.1
  have ld:=hQ.1
  rw[z2Q] at lz
  rw[List.length_map] at ld
  have lt:(ws.take i).length<=100:=by rw[List.length_take];omega
  have lm:=Nat.mul_le_mul lt lu
  refine⟨L,D,zs,ds,rfl,rfl,g2 _ _ hL2,hD,by rw[sizeLine_eq];omega,?_⟩
  rw[hW]
  refine⟨_,_,rfl,(g.trans g2).write hL _,z0F,?_⟩
  rw[y1R e1]
  exact ((hZ.same g2).append hQ).upd (g2 _ _ hL2)
 ·rw[hW] at z
  refine L2.put_away fun G'641 h'641=>?_
  obtain⟨o,zs,rfl,g,hL2,hZ⟩:=z
  refine h'641 ?_
  rw[hP.1,List.take_length] at hZ
  walk_at "wp"
  exact q L zs _ g hL hL2 hZ
noncomputable def z4K (K:PySem.W.Frag):Sp:=fun vs H Q _=>∃(p:Addr) (s r b n:Int),vs=[.ref p,.int b,.int n]/\SqT K H p [.int s,.int r]/\0<=b/\b<2^60/\0<=n/\n<2^60/\∀D:Addr,H D=none->Q (.ref D) (upd H D (tupP (s*b) (r+s*n)))
theorem z6J (T:TF K mg "part_of_part" z2J):Has P w K mg base 1 "part_of_part" ["part", "by", "number"] (z4K K):=by
 refine T.has z5K (fun _ _ _ _ _ _=>L2.bnd3 fun _ _ _=>rfl) (fun vs H Q E h=>?_) (fun f cdv A outer s H vs Q E hr h=>?_)
 ·refine L2.put_away fun G'649 h'649=>?_
  obtain⟨p,s,r,b,n,rfl,_⟩:=h
  refine h'649 ?_
  rfl
 refine L2.put_away fun G'651 h'651=>?_
 obtain⟨p,st,r,b,n,rfl,hp,b0,b1,n0,n1,q⟩:=h
 refine h'651 ?_
 refine⟨_,(z0D (z0I (z1y (z0A (pe_op z1l (pe_ix z0R (pv 0) z0E (fun _ _=>rfl)) (pv 1)) (z0A (pe_op z1M (pe_ix z0R (pv 0) z0E (fun _ _=>rfl)) (pe_op z1l (pe_ix z0R (pv 0) z0E (fun _ _=>rfl)) (pv 2))) z0C))))),?_⟩
 walk_at "wp"
 refine⟨_,_,_,.int st,rfl,rfl,hp,rfl,?_⟩
 walk_at "wp"
 refine⟨mokS (by omega) (by omega),?_⟩
 refine⟨_,_,_,.int r,rfl,rfl,hp,rfl,?_⟩
 refine⟨_,_,_,.int st,rfl,rfl,hp,rfl,?_⟩
 walk_at "wp"
 exact⟨mokS (by omega) (by omega),fun D hD=>q D hD⟩
noncomputable def z4b (K:PySem.W.Frag) (d:Nat):Sp:=fun vs H Q _=>∃(a pt:Addr) (v:V) (xs:List V) (ws:List T3) (s r:Int) (p:Pap),vs=[.ref a,.ref pt,v]/\SqL K H a xs/\Pl H xs ws/\(∀u∈ws,1<=u.1)/\SqT K H pt [.int s,.int r]/\1<=s/\PapIn K anyL H v p/\p.dep<d/\∀H',Same H H'->Q (.bl (z0Y ws s r p)) H'
theorem y0d (T:TF K mg "right_for" z3Z) (m_len:mg "len" = none) (m_enumerate:mg "enumerate" = none) (G_lies_in:Has P w K mg base 2 "lies_in" ["waking", "part"] (z4L K)) (G_part_of_part:Has P w K mg base 1 "part_of_part" ["part", "by", "number"] (z4K K)) :
  ∀d:Nat,Has P w K mg base (d+3) "right_for" ["plan", "part", "paper"] (z4b K d):=by
 intro d
 induction d with
 | zero=>
  refine T.has z1d (fun _ _ _ _ _ _=>L2.bnd3 fun _ _ _=>rfl) (fun vs H Q E h=>?_) (fun f cdv A outer s H vs Q E hr h=>?_)
  ·refine L2.put_away fun G'668 h'668=>?_
   obtain⟨_,_,_,_,_,_,_,_,_,_,_,_,_,_,_,h,_⟩:=h
   refine h'668 ?_
   exact absurd h (Nat.not_lt_zero _)
  ·refine L2.put_away fun G'670 h'670=>?_
   obtain⟨_,_,_,_,_,_,_,_,_,_,_,_,_,_,_,h,_⟩:=h
   refine h'670 ?_
   exact absurd h (Nat.not_lt_zero _)
 | succ d ih=>
 have G_right_for:=ih
 refine T.has z1d (fun _ _ _ _ _ _=>L2.bnd3 fun _ _ _=>rfl) (fun vs H Q E h=>?_) (fun f cdv A outer s H vs Q E hr h=>?_)
 ·refine L2.put_away fun G'675 h'675=>?_
  obtain⟨a,pt,v,xs,ws,s,r,p,rfl,_⟩:=h
  refine h'675 ?_
  rfl
 refine L2.put_away fun G'677 h'677=>?_
 obtain⟨a,pt,v,xs,ws,st,r,p,rfl,hS,hP,hw,hpt,s1,hv,hd,q⟩:=h
 refine h'677 ?_
 refine⟨_,(z0B (ps_if (z0L op_eq (pe_ix z0R (pv 2) z0E (fun _ _=>rfl)) z0N (z0T _)) (z0D (z0I (z5e (z4v op_le op_lt z0E (pe_ix z0R (pv 2) z0E (fun _ _=>rfl)) (z0M z0Q rfl m_len PySem.boot_len (z0A (pv 0) z0C))) (z6i (z0J (G_lies_in.mono (by first|decide|omega)) hr (z0A (pe_ix z0b (pv 0) (pe_ix z0R (pv 2) z0E (fun _ _=>rfl)) (fun _ _=>rfl)) (z0A (pv 1) z0C))))))) z0K) (z0B (z0P (i:=3) z1d.nd rfl (Or.inl rfl) (pe_ix z0R (pv 2) z0E (fun _ _=>rfl))) (z0B (ps_if (PW.pt (pw_or (z0L op_lt (pv 3) z0E (z0T _)) (z6g (z0L op_ne (z0M z0Q rfl m_len PySem.boot_len (z0A (pe_ix z0R (pv 2) z0E (fun _ _=>rfl)) z0C)) (pv 3) (z0T _))))) (z0D (z0I pe_bl)) z0K) (z0B (z1S PassesOwn.never rfl (y7B rfl m_enumerate (pe_ix z0R (pv 2) z0E (fun _ _=>rfl))) (z9A rfl (z0y (z0S (i:=4) z1d.nd rfl (Or.inl rfl)) (z0y (z0S (i:=5) z1d.nd rfl (Or.inl rfl)) z5a))) (z0D (ps_if (z2F (z1C (z0J (G_right_for.mono (by first|decide|omega)) hr (z0A (pv 0) (z0A (z0J (G_part_of_part.mono (by first|decide|omega)) hr (z0A (pv 1) (z0A (pv 3) (z0A (pv 4) z0C)))) (z0A (pv 5) z0C)))) (fun _=>rfl))) (z0D (z0I pe_bl)) z0K))) (z0D (z0I pe_bl)))))),?_⟩
 cases hv with
 | @inn b k hb=>
  have hT:SqT K H b [.str "in",.int k]:=SqT.of hb
  walk_at "wp"
  refine⟨_,_,_,.str "in",rfl,rfl,hT,rfl,rfl,?_⟩
  walk_at "wp"
  refine⟨_,_,_,.int k,rfl,rfl,hT,rfl,?_⟩
  walk_at "wp"
  have q1:=q H (Same.refl H)
  unfold z0Y at q1
  refine⟨fun c1=>?_,fun c1=>?_⟩
  ·refine⟨_,_,rfl,.inl hS,?_⟩
   rw[hP.1]
   walk_at "wp"
   refine⟨fun c2=>?_,fun c2=>?_⟩
   ·refine⟨_,_,_,.int k,rfl,rfl,hT,rfl,?_⟩
    refine L2.put_away fun G'695 h'695=>?_
    obtain⟨b2,u,e1,e2,e3,e4⟩:=hP.ix c1 c2
    refine h'695 ?_
    refine z0W hS e1 ⟨b2,pt,u,st,r,rfl,e4,hpt,hw u e3,s1,?_⟩
    have eg:ws.getD k.toNat (1,0,1)=u:=by rw[List.getD_eq_getElem?_getD,e2];rfl
    rw[decide_eq_true c1,decide_eq_true c2,eg] at q1
    simpa using q1
   ·rw[decide_eq_false c2] at q1
    simpa using q1
  ·rw[decide_eq_false c1] at q1
   simpa using q1
 | @par b l bb ys ps hb hl _ lz hs=>
  have hT:SqT K H b [.str "parted",.int bb,.ref l]:=SqT.of hb
  simp only [Pap.dep] at hd
  walk_at "wp"
  refine⟨_,_,_,.str "parted",rfl,rfl,hT,rfl,rfl,?_⟩
  walk_at "wp"
  refine⟨fun c=>absurd c (by decide),fun _=>?_⟩
  refine⟨_,_,_,.int bb,rfl,rfl,hT,rfl,?_⟩
  walk_at "wp"
  have hlen:=hs.len
  refine⟨fun c1=>?_,fun c1=>?_⟩
  ·have q1:=q H (Same.refl H)
   unfold z0Y at q1
   rw[decide_eq_false (show ¬2<=bb by omega),Bool.false_and] at q1
   exact q1
  ·refine⟨_,_,_,.ref l,rfl,rfl,hT,rfl,?_⟩
   refine⟨_,_,rfl,.inl (SqL.of hl),?_⟩
   walk_at "wp"
   refine⟨fun c2=>?_,fun c2=>?_⟩
   ·have q1:=q H (Same.refl H)
    unfold z0Y at q1
    rw[decide_eq_true (show 2<=bb by omega),decide_eq_false (show ¬(ps.length:Int)=bb by rw[←hlen];exact c2)] at q1
    simpa using q1
   ·have c2':(ys.length:Int)=bb:=by omega
    refine⟨_,_,_,.ref l,rfl,rfl,hT,rfl,?_⟩
    walk_at "wp"
    refine⟨_,_,rfl,SqL.of hl,?_⟩
    obtain⟨W,hW⟩:∃W:Nat->St->Hp->Prop,W=fun i σ H'=>∃o1 o2:Option V,σ=[some (.ref a),some (.ref pt),some (.ref b),some (.int bb),o1,o2]/\Same H H'/\z0h ws st r bb 0 (ps.take i)=true:=⟨_,rfl⟩
    refine y4U (xs:=ys) W ?_ (fun i σ H' z=>?_) (fun i x T2 σ H' hx nT z=>?_) (fun σ H' z=>?_)
    ·rw[hW]
     exact⟨none,none,rfl,Same.refl _,by simp [z0h]⟩
    ·rw[hW] at z
     refine L2.put_away fun G'736 h'736=>?_
     obtain⟨_,_,_,g,_⟩:=z
     refine h'736 ?_
     exact SqL.of (g _ _ hl)
    ·rw[hW] at z
     refine L2.put_away fun G'739 h'739=>?_
     obtain⟨o1,o2,rfl,g,hr2⟩:=z
     refine h'739 ?_
     refine L2.put_away fun G'740 h'740=>?_
     obtain⟨p,e1,hp⟩:=hs.at hx
     refine h'740 ?_
     have hi:=(List.getElem?_eq_some_iff.mp hx).1
     have g1:=g.trans (z0H nT (.tup [.int i,x]))
     refine⟨T2,_,rfl,SqT.of z0F,rfl,?_⟩
     walk_at "wp"
     refine⟨pt,st,r,bb,_,rfl,Same.seqT g1 hpt,by omega,by omega,by omega,by omega,fun D hD=>?_⟩
     have g2:=g1.trans (z0H hD (tupP (st*bb) (r+st*i)))
     have sp:1<=st*bb:=by
      have:=Int.mul_le_mul s1 (show 1<=bb by omega) (by decide) (by omega)
      omega
     refine⟨a,D,x,xs,ws,st*bb,r+st*i,p,rfl,g2.seq hS,hP.same g2,hw,SqT.of z0F,sp,hp.mono g2,?_,fun H3 g3=>?_⟩
     ·have:=Pap.dep_mem (List.mem_of_getElem? e1)
      omega
     have gg:=g2.trans g3
     cases c:z0Y ws (st*bb) (r+st*i) p with
     | true=>
      walk_at "wp"
      rw[hW]
      refine⟨_,_,rfl,gg,?_⟩
      rw[z2E e1,hr2,Nat.zero_add,c]
      rfl
     | false=>
      walk_at "wp"
      have q1:=q H3 gg
      unfold z0Y at q1
      rw[z2f e1 (by rw[Nat.zero_add];exact c),Bool.and_false,Bool.and_false] at q1
      exact q1
    ·rw[hW] at z
     refine L2.put_away fun G'768 h'768=>?_
     obtain⟨o1,o2,rfl,g,hr2⟩:=z
     refine h'768 ?_
     rw[hlen,List.take_length] at hr2
     walk_at "wp"
     have q1:=q H' g
     unfold z0Y at q1
     rw[decide_eq_true (show 2<=bb by omega),decide_eq_true (show (ps.length:Int)=bb by omega),hr2] at q1
     exact q1
noncomputable def y3C (K:PySem.W.Frag) (d:Nat):Sp:=fun vs H Q _=>∃(a:Addr) (v:V) (xs:List V) (ws:List T3) (p:Pap),vs=[.ref a,v]/\SqL K H a xs/\Pl H xs ws/\(∀u∈ws,1<=u.1)/\PapIn K anyL H v p/\p.dep<d/\∀H',Same H H'->Q (.bl (z0Y ws 1 0 p)) H'
theorem y4M {d:Nat} (T:TF K mg "lets_by" z5R) (C_ALL_TURNS:CT K mg "ALL_TURNS" [1,0]) (G_right_for:Has P w K mg base (d+3) "right_for" ["plan", "part", "paper"] (z4b K d)):Has P w K mg base (d+4) "lets_by" ["plan", "paper"] (y3C K d):=by
 refine L2.put_away fun G'778 h'778=>?_
 obtain⟨a_ALL_TURNS,e_ALL_TURNS,hAT⟩:=C_ALL_TURNS
 refine h'778 ?_
 refine T.has y2E (fun _ _ _ _ _ _=>L2.bnd2 fun _ _=>rfl) (fun vs H Q E h=>?_) (fun f cdv A outer s H vs Q E hr h=>?_)
 ·refine L2.put_away fun G'780 h'780=>?_
  obtain⟨a,v,xs,ws,p,rfl,_⟩:=h
  refine h'780 ?_
  rfl
 refine L2.put_away fun G'782 h'782=>?_
 obtain⟨a,v,xs,ws,p,rfl,hS,hP,hw,hv,hd,q⟩:=h
 refine h'782 ?_
 refine⟨_,(z0D (z0I (z0J (G_right_for.mono (by first|decide|omega)) hr (z0A (pv 0) (z0A (z5c (v:=.ref a_ALL_TURNS) rfl e_ALL_TURNS rfl) (z0A (pv 1) z0C)))))),?_⟩
 walk_at "wp"
 exact⟨a,a_ALL_TURNS,v,xs,ws,1,0,p,rfl,hS,hP,hw,hAT H,by decide,hv,hd,q⟩
noncomputable def z4d (K:PySem.W.Frag) (d:Nat):Sp:=fun vs H Q _=>∃(a b:Addr) (v:V) (xs ys:List V) (ws us:List T3) (p:Pap),vs=[.ref a,.ref b,v]/\SqL K H a xs/\Pl H xs ws/\SqL K H b ys/\Pl H ys us/\(∀u∈ws,Wk u)/\(∀u∈us,Wk u)/\ws.length<=100/\us.length<=100/\PapIn K anyL H v p/\p.dep<d/\∀H',Same H H'->Q (.bl (z0Y (shs ws us) 1 0 p)) H'
theorem y0g {d:Nat} (T:TF K mg "lets_meet" z3b) (G_shifts:Has P w K mg base 3 "shifts" ["one", "other"] (z3q K)) (G_lets_by:Has P w K mg base (d+4) "lets_by" ["plan", "paper"] (y3C K d)):Has P w K mg base (d+5) "lets_meet" ["one", "other", "paper"] (z4d K d):=by
 refine T.has z8o (fun _ _ _ _ _ _=>L2.bnd3 fun _ _ _=>rfl) (fun vs H Q E h=>?_) (fun f cdv A outer s H vs Q E hr h=>?_)
 ·refine L2.put_away fun G'790 h'790=>?_
  obtain⟨a,b,v,xs,ys,ws,us,p,rfl,_⟩:=h
  refine h'790 ?_
  rfl
 refine L2.put_away fun G'792 h'792=>?_
 obtain⟨a,b,v,xs,ys,ws,us,p,rfl,hS,hP,hS2,hP2,hw,hu,lw,lu,hv,hd,q⟩:=h
 refine h'792 ?_
 refine⟨_,(z0D (z0I (z0J (G_lets_by.mono (by first|decide|omega)) hr (z0A (z0J (G_shifts.mono (by first|decide|omega)) hr (z0A (pv 0) (z0A (pv 1) z0C))) (z0A (pv 2) z0C))))),?_⟩
 walk_at "wp"
 refine⟨a,b,xs,ys,ws,us,rfl,hS,hP,hS2,hP2,fun u h=>(hw u h).1,fun u h=>(hu u h).1,lw,lu,fun D zs H1 g1 nD hD hZ=>?_⟩
 exact⟨D,v,zs,_,p,rfl,SqL.of hD,hZ,fun u h=>(y3H hw hu u h).1,hv.mono g1,hd,fun H' g'=>q H' (g1.trans g')⟩
noncomputable def y1F (K:PySem.W.Frag):Sp:=fun vs H Q _=>∃(p p2:Addr) (u:T3) (s r:Int),vs=[.ref p,.ref p2]/\H p=some (tupW u)/\SqT K H p2 [.int s,.int r]/\1<=u.1/\1<=s/\Q (.bl (z3z u s r)) H
theorem y7V (T:TF K mg "meets" y0F) (G_divisor:Has P w K mg base 1 "divisor" ["one", "other"] z1p):Has P w K mg base 2 "meets" ["waking", "part"] (y1F K):=by
 refine T.has y5J (fun _ _ _ _ _ _=>L2.bnd2 fun _ _=>rfl) (fun vs H Q E h=>?_) (fun f cdv A outer s H vs Q E hr h=>?_)
 ·refine L2.put_away fun G'801 h'801=>?_
  obtain⟨p,p2,u,s,r,rfl,_⟩:=h
  refine h'801 ?_
  rfl
 refine L2.put_away fun G'803 h'803=>?_
 obtain⟨p,p2,u,st,r,rfl,hp,hp2,u1,s1,q⟩:=h
 refine h'803 ?_
 refine⟨_,(z0D (z0I (z2h op_lt (pe_op z0f (pe_op z2k (pe_ix z0R (pv 1) z0E (fun _ _=>rfl)) (pe_ix z0R (pv 0) z0E (fun _ _=>rfl))) (z0J (G_divisor.mono (by first|decide|omega)) hr (z0A (pe_ix z0R (pv 1) z0E (fun _ _=>rfl)) (z0A (pe_ix z0R (pv 0) z0E (fun _ _=>rfl)) z0C)))) (pe_ix z0R (pv 0) z0E (fun _ _=>rfl)) (z0T _)))),?_⟩
 have hT:SqT K H p [.int u.1,.int u.2.1,.int u.2.2]:=SqT.of hp
 have gp:=z0m (a:=st) (b:=u.1) (by omega)
 walk_at "wp"
 refine⟨_,_,_,.int r,rfl,rfl,hp2,rfl,?_⟩
 refine⟨_,_,_,.int u.2.1,rfl,rfl,hT,rfl,?_⟩
 walk_at "wp"
 refine⟨_,_,_,.int st,rfl,rfl,hp2,rfl,?_⟩
 refine⟨_,_,_,.int u.1,rfl,rfl,hT,rfl,?_⟩
 refine⟨_,_,rfl,by omega,by omega,?_⟩
 walk_at "wp"
 refine⟨gp,?_⟩
 refine⟨_,_,_,.int u.2.2,rfl,rfl,hT,rfl,?_⟩
 walk_at "wp"
 exact q
noncomputable def z6T (K:PySem.W.Frag):Sp:=fun vs H Q _=>∃(p p2:Addr) (u:T3) (s r:Int),vs=[.ref p,.ref p2]/\H p=some (tupW u)/\SqT K H p2 [.int s,.int r]/\1<=u.1/\u.1<=5000/\1<=s/\2<=u.1/gcdI s u.1/\∀d H',IsPart (u.1/gcdI s u.1) d->Same H H'->Q (.int d) H'
theorem y4J (T:TF K mg "parting" z5O) (G_divisor:Has P w K mg base 1 "divisor" ["one", "other"] z1p) (G_least_part:Has P w K mg base 1 "least_part" ["number"] z3u):Has P w K mg base 2 "parting" ["waking", "part"] (z6T K):=by
 refine T.has y2C (fun _ _ _ _ _ _=>L2.bnd2 fun _ _=>rfl) (fun vs H Q E h=>?_) (fun f cdv A outer s H vs Q E hr h=>?_)
 ·refine L2.put_away fun G'822 h'822=>?_
  obtain⟨p,p2,u,s,r,rfl,_⟩:=h
  refine h'822 ?_
  rfl
 refine L2.put_away fun G'824 h'824=>?_
 obtain⟨p,p2,u,st,r,rfl,hp,hp2,u1,u2,s1,n2,q⟩:=h
 refine h'824 ?_
 refine⟨_,(z0D (z0I (z0J (G_least_part.mono (by first|decide|omega)) hr (z0A (pe_op z0l (pe_ix z0R (pv 0) z0E (fun _ _=>rfl)) (z0J (G_divisor.mono (by first|decide|omega)) hr (z0A (pe_ix z0R (pv 1) z0E (fun _ _=>rfl)) (z0A (pe_ix z0R (pv 0) z0E (fun _ _=>rfl)) z0C)))) z0C)))),?_⟩
 have hT:SqT K H p [.int u.1,.int u.2.1,.int u.2.2]:=SqT.of hp
 have gp:=z0m (a:=st) (b:=u.1) (by omega)
 have gr:gcdI st u.1<=u.1:=by rw[z4D];exact z0n _ (by omega)
 have dl:u.1/gcdI st u.1<=u.1:=Int.ediv_le_self _ (by omega)
 walk_at "wp"
 refine⟨_,_,_,.int u.1,rfl,rfl,hT,rfl,?_⟩
 refine⟨_,_,_,.int st,rfl,rfl,hp2,rfl,?_⟩
 refine⟨_,_,_,.int u.1,rfl,rfl,hT,rfl,?_⟩
 refine⟨_,_,rfl,by omega,by omega,?_⟩
 walk_at "wp"
 refine⟨divA 20 (by omega) (by omega) (by decide),?_⟩
 exact⟨_,rfl,n2,by omega,q⟩
theorem y7j {K:PySem.W.Frag} {n:Addr} {cs:List Int} {tt:TT} {own:List Str} {fr:List Nat} {σ:St} {H:Hp} {Q:VK} {rest:St} (f:Int->Bool) (hst:st0 own fr σ=none::rest) (hS:SqL K H n (cs.map V.int)) (hl:cs.length<=1000)
  (htt:∀(c:Int) (H2:Hp) (R:Bool->Hp->Prop),c∈cs->Same H H2->R (f c) H2->tt (some (.int c)::rest) H2 R)
  (hq:∀(D:Addr) (H':Hp),Same H H'->H D=none->H' D=some (IL (cs.filter f))->Q (.ref D) H') :
  CompW (Itl K n) (gName 0) tt (tVar 0) own fr σ H Q:=by
 obtain⟨Sv,hSv⟩:∃Sv:St->Prop,Sv=fun σ=>∃o1,σ=o1::rest:=⟨_,rfl⟩
 obtain⟨Pv,hPv⟩:∃Pv:Addr->Nat->List V->Hp->Prop,Pv=fun D i ys H2=>H D=none/\Same H H2/\ys=((cs.take i).filter f).map V.int:=⟨_,rfl⟩
 refine z0z (xs:=cs.map V.int) Sv Pv (by rw[hSv,hst];exact⟨none,rfl⟩) (fun D hD=>?_) (fun D i ys H2 hD h=>?_) (fun D i x ys σ H2 hx hi hs hD hy h=>?_) (fun D ys H2 hD h=>?_)
 ·rw[hPv]
  exact⟨hD,z0H hD _,rfl⟩
 ·rw[hPv] at h
  exact h.2.1.seq hS
 ·rw[hSv] at hs
  rw[hPv] at h
  obtain⟨o1,rfl⟩:=hs
  refine L2.put_away fun G'852 h'852=>?_
  obtain⟨nD,g,rfl⟩:=h
  refine h'852 ?_
  rw[List.getElem?_map] at hx
  refine L2.put_away fun G'854 h'854=>?_
  obtain⟨c,hc,rfl⟩:=Option.map_eq_some_iff.mp hx
  refine h'854 ?_
  rw[List.length_map] at hi
  walk_at "wp"
  refine htt c H2 _ (List.mem_of_getElem? hc) g ?_
  cases e:f c with
  | true=>
   refine⟨fun _=>?_,fun c=>absurd rfl c⟩
   refine CompP.mk hD hy (by rw[sizeLine_eq];omega) (by rw[hSv];exact⟨_,rfl⟩) (by
    rw[hPv]
    refine⟨nD,g.write nD _,?_⟩
    rw[List.take_add_one,hc,List.filter_append]
    simp [e])
  | false=>
   refine⟨fun c=>(nomatch c),fun _=>?_⟩
   refine⟨by rw[hSv];exact⟨_,rfl⟩,_,hD,by omega,?_⟩
   rw[hPv]
   refine⟨nD,g,?_⟩
   rw[List.take_add_one,hc,List.filter_append]
   simp [e]
 ·rw[hPv] at h
  refine L2.put_away fun G'874 h'874=>?_
  obtain⟨nD,g,rfl⟩:=h
  refine h'874 ?_
  rw[List.length_map,List.take_length] at hD
  exact hq D H2 g nD hD
theorem z8J {d:Nat}:∀ {ps:List Pap},(∀p∈ps,p.dep<=d)->Pap.deps ps<=d
 | [],_=>Nat.zero_le _
 | q::ps,h=>by
  have h1:=h q (by simp)
  have h2:=z8J (ps:=ps) fun p hp=>h p (by simp [hp])
  simp only [Pap.deps]
  omega
noncomputable def PTop (K:PySem.W.Frag) (H H':Hp) (v:V) (p:Pap):Prop:=(∃(a:Addr) (k:Int),p=.inn k/\v=.ref a/\H' a=some (.tup [.str "in",.int k]))∨∃(a l:Addr) (b:Int) (ys:List V) (ps:List Pap),p=.par b ps/\v=.ref a/\H' a=some (.tup [.str "parted",.int b,.ref l])/\H' l=some (.lst ys)/\H l=none/\ys.length<2^60/\PapsIn K (fun x=>H x=none/\x≠l) H' ys ps
theorem PTop.pap {K:PySem.W.Frag} {H H':Hp} {v:V} {p:Pap} (h:PTop K H H' v p):PapIn K (fun l=>H l=none) H' v p:=by
 rcases h with⟨a,k,rfl,rfl,h⟩|⟨a,l,b,ys,ps,rfl,rfl,h1,h2,h3,h4,h5⟩
 ·exact .inn h
 ·exact .par h1 h2 h3 h4 (h5.imp fun x hx=>hx.1)
theorem PTop.older {K:PySem.W.Frag} {H0 H H':Hp} {v:V} {p:Pap} (g:Same H0 H) (h:PTop K H H' v p):PTop K H0 H' v p:=by
 have f:∀l,H l=none->H0 l=none:=fun l hl=>by
  cases e:H0 l with
  | none=>rfl
  | some o=>
   rw[g _ _ e] at hl
   cases hl
 rcases h with h|⟨a,l,b,ys,ps,e1,e2,h1,h2,h3,h4,h5⟩
 ·exact .inl h
 ·exact .inr ⟨a,l,b,ys,ps,e1,e2,h1,h2,f l h3,h4,h5.imp fun x hx=>⟨f x hx.1,hx.2⟩⟩
noncomputable abbrev wAt (ws:List T3) (k:Int):T3:=ws.getD k.toNat (1,0,1)
theorem z7b:∀(ps:List Pap) (p:Pap),Pap.kns (ps++[p])=Pap.kns ps+p.kn
 | [],p=>by simp [Pap.kns]
 | q::ps,p=>by
  show q.kn+Pap.kns (ps++[p])=q.kn+Pap.kns ps+p.kn
  rw[z7b ps p]
  omega
inductive PopR (ws:List T3):Int->Int->List Int->Pap->Prop
 | inn {s r:Int} {ks ms:List Int} {k:Int} {i:Nat}:ks.filter (fun k=>z3z (wAt ws k) s r)=ms->ms[i]?=some k->(∀j∈ms.take i,liesB (wAt ws j) s r=false)->liesB (wAt ws k) s r=true->PopR ws s r ks (.inn k)
 | par {s r:Int} {ks ms:List Int} {m0 b:Int} {ps:List Pap}:ks.filter (fun k=>z3z (wAt ws k) s r)=ms->(∀j∈ms,liesB (wAt ws j) s r=false)->ms[0]?=some m0->IsPart ((wAt ws m0).1/gcdI s (wAt ws m0).1) b->(ps.length:Int)=b->(∀(i:Nat) (p:Pap),ps[i]?=some p->PopR ws (s*b) (r+s*(i:Int)) ms p)->PopR ws s r ks (.par b ps)
theorem PopR.uniq {ws:List T3} {s r:Int} {ks:List Int} {p:Pap} (h:PopR ws s r ks p):∀ {q:Pap},PopR ws s r ks q->p=q:=by
 induction h with
 | @inn s r ks ms k i e1 e2 e3 e4=>
  intro q g
  cases g with
  | @inn _ _ _ ms' k' i' f1 f2 f3 f4=>
   rw[e1] at f1
   subst f1
   have lt:∀ {a b:Nat} {x y:Int},ms[a]?=some x->liesB (wAt ws x) s r=true->(∀j∈ms.take b,liesB (wAt ws j) s r=false)->¬a<b:=fun {a b x y} h1 h2 h3 hl=>by
    have m:x∈ms.take b:=List.mem_of_getElem? (i:=a) (by rw[List.getElem?_take_of_lt hl];exact h1)
    rw[h3 x m] at h2
    cases h2
   have ei:i=i':=Nat.le_antisymm (Nat.not_lt.mp (lt (y:=0) f2 f4 e3)) (Nat.not_lt.mp (lt (y:=0) e2 e4 f3))
   subst ei
   rw[e2] at f2
   cases f2
   rfl
  | @par _ _ _ ms' m0 b ps f1 f2 _ _ _ _=>
   rw[e1] at f1
   subst f1
   rw[f2 k (List.mem_of_getElem? e2)] at e4
   cases e4
 | @par s r ks ms m0 b ps e1 e2 e3 e4 e5 e6 ih=>
  intro q g
  cases g with
  | @inn _ _ _ ms' k' i' f1 f2 f3 f4=>
   rw[e1] at f1
   subst f1
   rw[e2 k' (List.mem_of_getElem? f2)] at f4
   cases f4
  | @par _ _ _ ms' m0' b' ps' f1 f2 f3 f4 f5 f6=>
   rw[e1] at f1
   subst f1
   rw[e3] at f3
   cases f3
   have eb:b=b':=e4.uniq f4
   subst eb
   have ep:ps=ps':=by
    apply List.ext_getElem?
    intro i
    cases c:ps[i]? with
    | none=>
     rw[List.getElem?_eq_none_iff] at c
     exact (List.getElem?_eq_none_iff.mpr (by omega)).symm
    | some p=>
     have hi:=(List.getElem?_eq_some_iff.mp c).1
     have c2:=List.getElem?_eq_getElem (l:=ps') (i:=i) (by omega)
     rw[c2,ih i p c (f6 i _ c2)]
   rw[ep]
noncomputable def y6O (K:PySem.W.Frag) (d:Nat):Sp:=fun vs H Q _=>∃(a pt n:Addr) (xs:List V) (ws:List T3) (s r L:Int) (ks:List Int),vs=[.ref a,.ref pt,.ref n]/\SqL K H a xs/\Pl H xs ws/\(∀u∈ws,Wk u)/\(∀u∈ws,u.1∣L)/\1<=L/\L<=5000/\SqT K H pt [.int s,.int r]/\1<=s/\s∣L/\L<s*2^d/\SqL K H n (ks.map V.int)/\ks.length<=1000/\(∀k∈ks,0<=k/\k<ws.length)/\Cov (ks.map (wAt ws)) s r/\
 ∀(v:V) (p:Pap) (H':Hp),Same H H'->PTop K H H' v p->p.dep<=d->z0Y ws s r p=true->PopR ws s r ks p->((p.kn:Int)+1)*s<=2*L->Q v H'
theorem z5s (T:TF K mg "paper_of_part" z1u) (m_range:mg "range" = none) (G_meets:Has P w K mg base 2 "meets" ["waking", "part"] (y1F K)) (G_lies_in:Has P w K mg base 2 "lies_in" ["waking", "part"] (z4L K)) (G_parting:Has P w K mg base 2 "parting" ["waking", "part"] (z6T K)) (G_part_of_part:Has P w K mg base 1 "part_of_part" ["part", "by", "number"] (z4K K)) :
  ∀d:Nat,Has P w K mg base (d+3) "paper_of_part" ["plan", "part", "near"] (y6O K d):=by
 intro d
 induction d with
 | zero=>
  have no:∀ {s L:Int},1<=L->s∣L->L<s*2^0->False:=fun {s L} l1 h1 h2=>by
   have:=Int.le_of_dvd (show 0<L by omega) h1
   omega
  refine T.has z0j (fun _ _ _ _ _ _=>L2.bnd3 fun _ _ _=>rfl) (fun vs H Q E h=>?_) (fun f cdv A outer s H vs Q E hr h=>?_)
  ·refine L2.put_away fun G'972 h'972=>?_
   obtain⟨_,_,_,_,_,_,_,_,_,_,_,_,_,_,l1,_,_,_,h1,h2,_⟩:=h
   refine h'972 ?_
   exact (no l1 h1 h2).elim
  ·refine L2.put_away fun G'974 h'974=>?_
   obtain⟨_,_,_,_,_,_,_,_,_,_,_,_,_,_,l1,_,_,_,h1,h2,_⟩:=h
   refine h'974 ?_
   exact (no l1 h1 h2).elim
 | succ d ih=>
 have G_paper_of_part:=ih
 refine T.has z0j (fun _ _ _ _ _ _=>L2.bnd3 fun _ _ _=>rfl) (fun vs H Q E h=>?_) (fun f cdv A outer s H vs Q E hr h=>?_)
 ·refine L2.put_away fun G'979 h'979=>?_
  obtain⟨a,pt,n,xs,ws,s,r,L,ks,rfl,_⟩:=h
  refine h'979 ?_
  rfl
 refine L2.put_away fun G'981 h'981=>?_
 obtain⟨a,pt,n,xs,ws,st,r,L,ks,rfl,hS,hP,hw,hwL,L1,L5,hpt,s0,sL,sd,hn,nl,hk,cov,q⟩:=h
 refine h'981 ?_
 refine⟨_,(z0B (z0P (i:=4) z0j.nd rfl (Or.inr rfl) (z1F (CompSc.capt (own:=["k"]) (capt:=["plan", "part"]) (fr:=[0,1]) rfl ⟨rfl,rfl,rfl,rfl,rfl,⟨rfl,rfl,rfl,rfl,rfl,trivial⟩⟩ (by decide +kernel) (by decide +kernel) rfl (by decide +kernel)) rfl (z0q (pv 2)) (fun _ _ _=>(z0S (i:=0) (show (["k", "plan", "part"]:List Str).Nodup from by decide +kernel) rfl (Or.inl rfl) (Or.inr rfl))) (fun _ _ _=>y3T (z1C (z0J (G_meets.mono (by first|decide|omega)) hr (z0A (pe_ix (z4B (K:=K) rfl) (pv 1) (pv 0) (fun _ _=>rfl)) (z0A (pv 2) z0C))) (fun _=>rfl))) (fun _ _ _=>(pv 0)))) (z0B (z1S PassesOwn.never rfl (z0q (pv 4)) (z0S (i:=3) z0j.nd rfl (Or.inl rfl)) (z0D (ps_if (z1C (z0J (G_lies_in.mono (by first|decide|omega)) hr (z0A (pe_ix z0b (pv 0) (pv 3) (fun _ _=>rfl)) (z0A (pv 1) z0C))) (fun _=>rfl)) (z0D (z0I (z1y (z0A z0N (z0A (pv 3) z0C))))) z0K))) (z0B (z0P (i:=5) z0j.nd rfl (Or.inr rfl) (z0J (G_parting.mono (by first|decide|omega)) hr (z0A (pe_ix z0b (pv 0) (pe_ix z0b (pv 4) z0E (fun _ _=>rfl)) (fun _ _=>rfl)) (z0A (pv 1) z0C)))) (z0B (z4S (i:=6) z0j.nd rfl (Or.inl rfl) (CompSc.capt (own:=["number"]) (capt:=["plan", "part", "met", "by"]) (fr:=[0,1,4,5]) rfl ⟨rfl,rfl,rfl,rfl,rfl,⟨rfl,rfl,rfl,rfl,rfl,⟨rfl,rfl,rfl,rfl,rfl,⟨rfl,rfl,rfl,rfl,rfl,trivial⟩⟩⟩⟩ (by decide +kernel) (by decide +kernel) rfl (by decide +kernel)) rfl (z1f rfl m_range (z0A (pv 5) z0C)) (fun _ _ _=>(z0S (i:=0) (show (["number", "plan", "part", "met", "by"]:List Str).Nodup from by decide +kernel) rfl (Or.inl rfl) (Or.inr rfl))) (fun _ _ _=>z0v) (fun _ _ _=>(z0J (G_paper_of_part.mono (by first|decide|omega)) hr (z0A (pv 1) (z0A (z0J (G_part_of_part.mono (by first|decide|omega)) hr (z0A (pv 2) (z0A (pv 4) (z0A (pv 0) z0C)))) (z0A (pv 3) z0C)))))) (z0D (z0I (z1y (z0A z0N (z0A (pv 5) (z0A (pv 6) z0C)))))))))),?_⟩
 walk_at "wp"
 refine⟨⟨_,hn⟩,?_⟩
 have wk:∀k∈ks,Wk (wAt ws k):=fun k hk2=>by
  obtain⟨k0,k1⟩:=hk k hk2
  have:k.toNat<ws.length:=by omega
  show Wk (ws.getD k.toNat (1,0,1))
  rw[List.getD_eq_getElem?_getD,List.getElem?_eq_getElem this]
  exact hw _ (List.getElem_mem this)
 refine y7j (rest:=[some (.ref a),some (.ref pt)]) (fun k=>z3z (wAt ws k) st r) rfl hn nl (fun c H2 R hc g hR=>?_) fun D H1 g1 nD hD=>?_
 ·refine L2.put_away fun G'992 h'992=>?_
  obtain⟨p,u,e1,e2,mu,e3⟩:=(hP.same g).ix (hk c hc).1 (hk c hc).2
  refine h'992 ?_
  have eu:wAt ws c=u:=by
   show ws.getD c.toNat (1,0,1)=u
   rw[List.getD_eq_getElem?_getD,e2]
   rfl
  walk_at "wp"
  refine z0W (g.seq hS) e1 ?_
  refine⟨p,pt,u,st,r,rfl,e3,Same.seqT g hpt,(hw u mu).1,s0,?_⟩
  refine⟨_,rfl,?_⟩
  rw[←eu]
  exact hR
 generalize hms:ks.filter (fun k=>z3z (wAt ws k) st r)=ms at hD
 have msub:∀k∈ms,k∈ks/\z3z (wAt ws k) st r=true:=fun k h=>by
  rw[←hms] at h
  exact List.mem_filter.mp h
 have ml:ms.length<=1000:=by rw[←hms];exact Nat.le_trans (List.length_filter_le _ _) nl
 have mcov:Cov (ms.map (wAt ws)) st r:=by
  have c:=Cov.met (fun u hu=>by obtain⟨k,hk2,rfl⟩:=List.mem_map.mp hu;exact wk k hk2) s0 cov
  rw[List.filter_map] at c
  rw[←hms]
  exact c
 have hS1:=g1.seq hS
 have hP1:=hP.same g1
 have hpt1:=Same.seqT g1 hpt
 walk_at "wp"
 refine⟨⟨_,SqL.of hD⟩,?_⟩
 obtain⟨W,hW⟩:∃W:Nat->St->Hp->Prop,W=fun i σ H'=>∃o:Option V,σ=[some (.ref a),some (.ref pt),some (.ref n),o,some (.ref D),none,none]/\H'=H1/\∀k∈ms.take i,liesB (wAt ws k) st r=false:=⟨_,rfl⟩
 refine z1R (xs:=ms.map V.int) W ?_ (fun i σ H' _ z=>?_) (fun i x σ H' hx z=>?_) (fun σ H' z=>?_)
 ·rw[hW]
  exact⟨_,rfl,rfl,fun k h=>by simp at h⟩
 ·rw[hW] at z
  refine L2.put_away fun G'1023 h'1023=>?_
  obtain⟨_,_,rfl,_⟩:=z
  refine h'1023 ?_
  exact SqL.of hD
 ·rw[hW] at z
  refine L2.put_away fun G'1026 h'1026=>?_
  obtain⟨o,rfl,rfl,hz⟩:=z
  refine h'1026 ?_
  rw[List.getElem?_map] at hx
  refine L2.put_away fun G'1028 h'1028=>?_
  obtain⟨k,hk2,rfl⟩:=Option.map_eq_some_iff.mp hx
  refine h'1028 ?_
  obtain⟨mk,mm⟩:=msub k (List.mem_of_getElem? hk2)
  obtain⟨k0,k1⟩:=hk k mk
  refine L2.put_away fun G'1031 h'1031=>?_
  obtain⟨p,u,e1,e2,mu,e3⟩:=hP1.ix k0 k1
  refine h'1031 ?_
  have eu:wAt ws k=u:=by
   show ws.getD k.toNat (1,0,1)=u
   rw[List.getD_eq_getElem?_getD,e2]
   rfl
  walk_at "wp"
  refine z0W hS1 e1 ?_
  refine⟨p,pt,u,st,r,rfl,e3,hpt1,(hw u mu).1,s0,?_⟩
  refine⟨_,rfl,fun c=>?_,fun c=>?_⟩
  ·intro q1 nq
   refine q (.ref q1) (.inn k) _ (g1.trans (z0H nq _)) (.inl ⟨q1,k,rfl,rfl,z0F⟩) (Nat.zero_le _) ?_ (.inn hms hk2 hz (by rw[eu];exact c)) (by have:=Int.le_of_dvd (show 0<L by omega) sL;show (1+1)*st<=2*L;omega)
   unfold z0Y
   rw[decide_eq_true k0,decide_eq_true k1]
   show (true && (true && liesB (wAt ws k) st r))=true
   rw[eu,c]
   rfl
  ·rw[hW]
   refine⟨_,rfl,rfl,fun j hj=>?_⟩
   rw[List.take_add_one,hk2] at hj
   rcases List.mem_append.mp hj with z|z
   ·exact hz j z
   ·have:j=k:=by simpa using z
    rw[this,eu]
    simpa using c
 ·rw[hW] at z
  refine L2.put_away fun G'1056 h'1056=>?_
  obtain⟨o,rfl,rfl,hz⟩:=z
  refine h'1056 ?_
  rw[List.length_map,List.take_length] at hz
  have mne:ms≠[]:=fun e=>Cov.some mcov (by rw[e];rfl)
  refine L2.put_away fun G'1059 h'1059=>?_
  obtain⟨m0,mt,em⟩:=List.exists_cons_of_ne_nil mne
  refine h'1059 ?_
  have m0m:m0∈ms:=by rw[em];simp
  obtain⟨mk,mm⟩:=msub m0 m0m
  obtain⟨k0,k1⟩:=hk m0 mk
  refine L2.put_away fun G'1063 h'1063=>?_
  obtain⟨p,u,e1,e2,mu,e3⟩:=hP1.ix k0 k1
  refine h'1063 ?_
  have eu:wAt ws m0=u:=by
   show ws.getD m0.toNat (1,0,1)=u
   rw[List.getD_eq_getElem?_getD,e2]
   rfl
  have two:=y5W (hw u mu) s0 (eu▸mm) (eu▸hz m0 m0m)
  have uL:=Int.le_of_dvd (show 0<L by omega) (hwL u mu)
  have u1:=(hw u mu).1
  walk_at "wp"
  refine z0W (SqL.of hD) (v:=.int m0) (by rw[em];exact z4H (zs:=m0::mt) (i:=0) (by decide) (by simp only [List.length_cons];omega)) ?_
  refine z0W hS1 e1 ?_
  refine⟨p,pt,u,st,r,rfl,e3,hpt1,u1,by omega,s0,two,fun b H3 hb g3=>?_⟩
  have b2:=hb.two
  have g0:1<=gcdI st u.1:=z2o (u:=(st,0,0)) (v:=u) s0
  have bl:b<=5000:=by
   have h1:=Int.le_of_dvd (show 0<u.1/gcdI st u.1 by omega) hb.dvd
   have h2:u.1/gcdI st u.1<=u.1:=Int.ediv_le_self _ (by omega)
   omega
  have sbL:st*b∣L:=y5X s0 u1 sL (hwL u mu) hb.dvd
  have sb1:1<=st*b:=by
   have:=Int.mul_pos (show 0<st by omega) (show 0<b by omega)
   omega
  have sbd:L<st*b*2^d:=by
   have e:st*2^(d+1)=st*2*2^d:=by rw[Int.pow_succ,Int.mul_comm (2^d) 2,Int.mul_assoc]
   have h1:=Int.mul_le_mul_of_nonneg_left b2 (show 0<=st by omega)
   have h2:=Int.mul_le_mul_of_nonneg_right h1 (show 0<=(2:Int)^d from Int.le_of_lt (Int.pow_pos (by decide)))
   rw[e] at sd
   omega
  have g13:=g1.trans g3
  walk_at "wp"
  refine⟨_,rfl,by omega,by omega,?_⟩
  obtain⟨Sv,hSv⟩:∃Sv:St->Prop,Sv=fun σ=>∃o1,σ=[o1,some (.ref a),some (.ref pt),some (.ref D),some (.int b)]:=⟨_,rfl⟩
  obtain⟨Pv,hPv⟩:∃Pv:Addr->Nat->List V->Hp->Prop,Pv=fun B i ys H2=>H3 B=none/\Same H3 H2/\∃ps,PapsIn K (fun l=>H l=none/\l≠B) H2 ys ps/\ps.length=i/\(∀p∈ps,p.dep<=d)/\z0h ws st r b 0 ps=true/\(∀(i:Nat) (p:Pap),ps[i]?=some p->PopR ws (st*b) (r+st*(i:Int)) ms p)/\((Pap.kns ps:Int)+ps.length)*(st*b)<=2*L*ps.length:=⟨_,rfl⟩
  refine z3n Sv Pv (by rw[hSv];exact⟨none,rfl⟩) (fun B hB=>?_) (fun B j ys σ H2 hj hs hB hy h=>?_) (fun B ys H2 hB h=>?_)
  ·rw[hPv]
   exact⟨hB,z0H hB _,[],.nil,rfl,(fun p hp=>nomatch hp),by unfold z0h;rfl,(fun i p h=>by simp at h),by simp [Pap.kns]⟩
  ·rw[hSv] at hs
   rw[hPv] at h
   obtain⟨o1,rfl⟩:=hs
   refine L2.put_away fun G'1102 h'1102=>?_
   obtain⟨nB,g4,ps,hps,pl,pd,rb,pop,knb⟩:=h
   refine h'1102 ?_
   have g14:=g13.trans g4
   have e0:(0:Int)+(j:Int)=j:=by omega
   walk_at "wp"
   rw[e0]
   refine⟨pt,st,r,b,_,rfl,Same.seqT g14 hpt,by omega,by omega,by omega,by omega,fun P1 nP1=>?_⟩
   have g5:=z0H nP1 (tupP (st*b) (r+st*(j:Int)))
   have g15:=g14.trans g5
   refine⟨a,P1,D,xs,ws,st*b,r+st*(j:Int),L,ms,rfl,g15.seq hS,hP.same g15,hw,hwL,L1,L5,SqT.of z0F,sb1,sbL,sbd,SqL.of (g5 _ _ (g4 _ _ (g3 _ _ hD))),ml,fun k h=>hk k (msub k h).1,mcov.parted b j,fun v p1 H5 g6 hp1 d1 r1 po1 kn1=>?_⟩
   have hB5:=g6 _ _ (g5 _ _ hB)
   have g56:=g5.trans g6
   refine CompP.mk hB5 hy (by rw[sizeLine_eq];omega) (by rw[hSv];exact⟨_,rfl⟩) (by
    rw[hPv]
    refine⟨nB,(g4.trans g56).write nB _,ps++[p1],?_,by simp [pl],fun p hp=>?_,z8t rb (by rw[pl];exact r1),fun i p hp=>?_,?_⟩
    ·refine PapsIn.write hB5 (fun l h=>h.2) ((hps.mono g56).snoc (hp1.pap.imp fun l hl=>⟨?_,fun e=>?_⟩))
     ·cases e:H l with
      | none=>rfl
      | some o=>
       rw[g15 _ _ e] at hl
       cases hl
     ·rw[e,g5 _ _ hB] at hl
      cases hl
    ·rcases List.mem_append.mp hp with z|z
     ·exact pd p z
     ·rw[List.mem_singleton.mp z]
      exact d1
    ·by_cases hi:i<ps.length
     ·rw[List.getElem?_append_left hi] at hp
      exact pop i p hp
     ·rw[List.getElem?_append_right (by omega)] at hp
      have e0:i-ps.length=0:=by
       cases e:i-ps.length with
       | zero=>rfl
       | succ n=>rw[e] at hp;simp at hp
      rw[e0] at hp
      cases hp
      have ei:(i:Int)=(j:Int):=by omega
      rw[ei]
      exact po1
    ·have ek:Pap.kns (ps++[p1])=Pap.kns ps+p1.kn:=z7b ps p1
     rw[ek,List.length_append]
     have e1:(((Pap.kns ps+p1.kn:Nat):Int)+((ps.length + [p1].length:Nat):Int))*(st*b)=((Pap.kns ps:Int)+ps.length)*(st*b)+((p1.kn:Int)+1)*(st*b):=by
      rw[←Int.add_mul]
      congr 1
      simp
      omega
     have e2:2*L*((ps.length + [p1].length:Nat):Int)=2*L*ps.length+2*L:=by
      rw[show ((ps.length + [p1].length:Nat):Int)=(ps.length:Int)+1 by simp,Int.mul_add,Int.mul_one]
     rw[e1,e2]
     omega)
  ·rw[hPv] at h
   refine L2.put_away fun G'1153 h'1153=>?_
   obtain⟨nB,g4,ps,hps,pl,pd,rb,pop,knb⟩:=h
   refine h'1153 ?_
   walk_at "wp"
   intro q1 nq
   have gq:=z0H nq (.tup [V.str "parted",.int b,.ref B])
   have nB':H B=none:=by
    cases e:H B with
    | none=>rfl
    | some o=>
     rw[g13 _ _ e] at nB
     cases nB
   have lys:=hps.len
   refine q (.ref q1) (.par b ps) _ ((g13.trans g4).trans gq) (.inr ⟨q1,B,b,ys,ps,rfl,rfl,z0F,gq _ _ hB,nB',by omega,hps.mono gq⟩) ?_ ?_ (.par hms hz (by rw[em];rfl) (by rw[eu];exact hb) (by omega) pop) ?_
   ·have:=z8J pd
    show Pap.deps ps+1<=d+1
    omega
   ·unfold z0Y
    rw[decide_eq_true b2,decide_eq_true (show (ps.length:Int)=b by omega),rb]
    rfl
   ·have lb:(ps.length:Int)=b:=by omega
    rw[lb] at knb
    have h1:(((Pap.kns ps:Int)+b)*st)*b<=(2*L)*b:=by rw[Int.mul_assoc];exact knb
    have h2:=Int.le_of_mul_le_mul_right h1 (show 0<b by omega)
    have h3:((((Pap.par b ps).kn:Nat):Int)+1)*st<=((Pap.kns ps:Int)+b)*st:=Int.mul_le_mul_of_nonneg_right (by show ((Pap.kns ps+1:Nat):Int)+1<=_;omega) (by omega)
    omega
theorem y6h {ws:List T3} {u:T3} (h:u∈ws):u∈(upto ws.length).map (wAt ws):=by
 refine L2.put_away fun G'1178 h'1178=>?_
 obtain⟨i,hi,e⟩:=List.getElem_of_mem h
 refine h'1178 ?_
 refine List.mem_map.mpr ⟨(i:Int),List.mem_map.mpr ⟨i,List.mem_range.mpr hi,rfl⟩,?_⟩
 show ws.getD ((i:Int)).toNat (1,0,1)=u
 rw[Int.toNat_natCast,List.getD_eq_getElem?_getD,List.getElem?_eq_getElem hi,e]
 rfl
theorem y7f {ws:List T3} (hw:∀u∈ws,1<=u.1) (h:holeN ws (lcms (ws.map (·.1))).toNat=none):Cov ((upto ws.length).map (wAt ws)) 1 0:=fun x=>by
 have L1:=z2i (xs:=ws.map (·.1)) fun z hz=>by
  refine L2.put_away fun G'1185 h'1185=>?_
  obtain⟨u,hu,rfl⟩:=List.mem_map.mp hz
  refine h'1185 ?_
  exact hw u hu
 have dv:∀u∈ws,u.1∣lcms (ws.map (·.1)):=fun u hu=>z8H (fun z hz=>by
  refine L2.put_away fun G'1188 h'1188=>?_
  obtain⟨u,hu,rfl⟩:=List.mem_map.mp hz
  refine h'1188 ?_
  exact hw u hu) u.1 (List.mem_map.mpr ⟨u,hu,rfl⟩)
 generalize lcms (ws.map (·.1))=L at *
 have m:=modB3 x L1
 obtain⟨k,hk⟩:=z1z x L
 rcases z4W (ws:=ws) (n:=L.toNat) with⟨i,e,_⟩|⟨_,all⟩
 ·rw[h] at e
  cases e
 ·have a:=all (x%L).toNat (by omega)
  have e1:(((x%L).toNat:Nat):Int)=x%L:=by omega
  have e2:0+1*x=x%L+L*k:=by omega
  rw[e1,←y0s (L:=L*k) (fun u hu=>Int.dvd_trans (dv u hu) ⟨k,rfl⟩)] at a
  unfold z1D at a
  refine L2.put_away fun G'1201 h'1201=>?_
  obtain⟨u,mu,hu⟩:=List.any_eq_true.mp a
  refine h'1201 ?_
  refine⟨u,y6h mu,?_⟩
  rw[e2]
  have hu':(x%L+L*k-u.2.1)%u.1<u.2.2:=of_decide_eq_true hu
  exact hu'
noncomputable def y1M (K:PySem.W.Frag):Sp:=fun vs H Q _=>∃(a:Addr) (xs:List V) (ws:List T3),vs=[.ref a]/\SqL K H a xs/\Pl H xs ws/\(∀u∈ws,Wk u)/\ws.length<=200/\lcms (ws.map (·.1))<=5000/\
 (holeN ws (lcms (ws.map (·.1))).toNat≠none->∀H',Same H H'->Q .non H')/\(holeN ws (lcms (ws.map (·.1))).toNat=none->∀(v:V) (p:Pap) (H':Hp),Same H H'->PTop K H H' v p->p.dep<=13->z0Y ws 1 0 p=true->PopR ws 1 0 (upto ws.length) p->(p.kn:Int)+1<=2*lcms (ws.map (·.1))->Q v H')
theorem z8B (T:TF K mg "cover_paper" z2e) (m_len:mg "len" = none) (m_range:mg "range" = none) (m_list:mg "list" = none) (C_ALL_TURNS:CT K mg "ALL_TURNS" [1,0]) (G_hole:Has P w K mg base 4 "hole" ["plan"] (z9y K)) (G_paper_of_part:Has P w K mg base 16 "paper_of_part" ["plan", "part", "near"] (y6O K 13)):Has P w K mg base 17 "cover_paper" ["plan"] (y1M K):=by
 refine L2.put_away fun G'1209 h'1209=>?_
 obtain⟨a_ALL_TURNS,e_ALL_TURNS,hAT⟩:=C_ALL_TURNS
 refine h'1209 ?_
 refine T.has z6H (fun _ _ _ _ _ _=>L2.bnd1 fun _=>rfl) (fun vs H Q E h=>?_) (fun f cdv A outer s H vs Q E hr h=>?_)
 ·refine L2.put_away fun G'1211 h'1211=>?_
  obtain⟨a,xs,ws,rfl,_⟩:=h
  refine h'1211 ?_
  rfl
 refine L2.put_away fun G'1213 h'1213=>?_
 obtain⟨a,xs,ws,rfl,hS,hP,hw,hl,hL,q1,q2⟩:=h
 refine h'1213 ?_
 refine⟨_,(z0B (ps_if (z0L y7L (z0J (G_hole.mono (by first|decide|omega)) hr (z0A (pv 0) z0C)) z6j (z0T _)) (z0D (z0I z6j)) z0K) (z0D (z0I (z0J (G_paper_of_part.mono (by first|decide|omega)) hr (z0A (pv 0) (z0A (z5c (v:=.ref a_ALL_TURNS) rfl e_ALL_TURNS rfl) (z0A (z1Q (z8N rfl) rfl m_list (by decide +kernel) (z0A (y3Z rfl m_range (z0A (z0M z0Q rfl m_len PySem.boot_len (z0A (pv 0) z0C)) z0C)) z0C)) z0C))))))),?_⟩
 have w1:∀u∈ws,1<=u.1:=fun u h=>(hw u h).1
 have mp:∀z∈ws.map (·.1),1<=z:=fun z hz=>by
  refine L2.put_away fun G'1217 h'1217=>?_
  obtain⟨u,hu,rfl⟩:=List.mem_map.mp hz
  refine h'1217 ?_
  exact w1 u hu
 have L1:=z2i mp
 have dv:∀u∈ws,u.1∣lcms (ws.map (·.1)):=fun u hu=>z8H mp u.1 (List.mem_map.mpr ⟨u,hu,rfl⟩)
 have w2:∀u∈ws,1<=u.1/\u.1<=2^1000:=fun u hu=>⟨w1 u hu,by
  have h1:=Int.le_of_dvd (by omega) (dv u hu)
  exact Int.le_trans (Int.le_trans h1 hL) (by decide)⟩
 walk_at "wp"
 refine⟨a,xs,ws,rfl,hS,hP,w2,hl,hL,fun H1 g1=>?_⟩
 cases e:holeN ws (lcms (ws.map (·.1))).toNat with
 | some x=>
  walk_at "wp"
  exact q1 (by rw[e];exact fun z=>nomatch z) H1 g1
 | none=>
  walk_at "wp"
  refine⟨_,_,rfl,.inl (g1.seq hS),_,rfl,fun p1 z1=>?_⟩
  have g2:=z0H z1 (.rng 0 (xs.length:Int))
  refine⟨p1,_,rfl,z0F,by omega,by rw[hP.1];omega,fun l z2=>?_⟩
  have z2':=z2
  rw[hP.1] at g2 z2' ⊢
  rw[Int.toNat_natCast]
  have g3:=z0H z2' (IL (upto ws.length))
  have g4:=(g1.trans g2).trans g3
  refine⟨a,a_ALL_TURNS,l,xs,ws,1,0,lcms (ws.map (·.1)),upto ws.length,rfl,g4.seq hS,hP.same g4,hw,dv,L1,hL,hAT _,by decide,⟨_,(Int.one_mul _).symm⟩,by omega,SqL.of z0F,by unfold upto;simp;omega,fun k hk=>?_,y7f w1 e,fun v p H' g5 hp hd hr2 po kb=>?_⟩
  ·refine L2.put_away fun G'1241 h'1241=>?_
   obtain⟨i,hi,rfl⟩:=List.mem_map.mp hk
   refine h'1241 ?_
   have:=List.mem_range.mp hi
   omega
  ·exact q2 e v p H' (g4.trans g5) (hp.older g4) hd hr2 po (by rw[Int.mul_one] at kb;exact kb)
noncomputable def z8f (K:PySem.W.Frag):Sp:=fun vs H Q _=>∃(a b:Addr) (xs ys:List V) (ws us:List T3),vs=[.ref a,.ref b]/\SqL K H a xs/\Pl H xs ws/\SqL K H b ys/\Pl H ys us/\(∀u∈ws,Wk u)/\(∀u∈us,Wk u)/\(∀u∈ws,u.1<=2^1000)/\ws.length<=14/\us.length<=14/\lcms ((shs ws us).map (·.1))<=5000/\
 ∀H',Same H H'->Q (oV (holeN (shs ws us) (lcms ((shs ws us).map (·.1))).toNat)) H'
theorem y6s {ws us:List T3} {B:Int} (hw:∀u∈ws,Wk u) (hB:∀u∈ws,u.1<=B):∀x∈shs ws us,1<=x.1/\x.1<=B:=fun x hx=>by
 refine L2.put_away fun G'1249 h'1249=>?_
 obtain⟨u,mu,v,mv,rfl⟩:=z7Z.mp hx
 refine h'1249 ?_
 have h1:=z2o (v:=v) (hw u mu).1
 have h2:gcdI u.1 v.1<=u.1:=z0n _ (by have:=(hw u mu).1;omega)
 exact⟨h1,Int.le_trans h2 (hB u mu)⟩
theorem z6K (T:TF K mg "lonely_shift" z2K) (G_shifts:Has P w K mg base 3 "shifts" ["one", "other"] (z3q K)) (G_hole:Has P w K mg base 4 "hole" ["plan"] (z9y K)):Has P w K mg base 5 "lonely_shift" ["one", "other"] (z8f K):=by
 refine T.has z5L (fun _ _ _ _ _ _=>L2.bnd2 fun _ _=>rfl) (fun vs H Q E h=>?_) (fun f cdv A outer s H vs Q E hr h=>?_)
 ·refine L2.put_away fun G'1255 h'1255=>?_
  obtain⟨a,b,xs,ys,ws,us,rfl,_⟩:=h
  refine h'1255 ?_
  rfl
 refine L2.put_away fun G'1257 h'1257=>?_
 obtain⟨a,b,xs,ys,ws,us,rfl,hS,hP,hS2,hP2,hw,hu,wB,lw,lu,hL,q⟩:=h
 refine h'1257 ?_
 refine⟨_,(z0D (z0I (z0J (G_hole.mono (by first|decide|omega)) hr (z0A (z0J (G_shifts.mono (by first|decide|omega)) hr (z0A (pv 0) (z0A (pv 1) z0C))) z0C)))),?_⟩
 walk_at "wp"
 refine⟨a,b,xs,ys,ws,us,rfl,hS,hP,hS2,hP2,fun u h=>(hw u h).1,fun u h=>(hu u h).1,by omega,by omega,fun D zs H1 g1 nD hD hZ=>?_⟩
 have lm:=Nat.mul_le_mul lw lu
 exact⟨D,zs,_,rfl,SqL.of hD,hZ,y6s hw wB,by rw[z2Q];omega,hL,fun H' g'=>q H' (g1.trans g')⟩
noncomputable def z6V (K:PySem.W.Frag):Sp:=fun vs H Q _=>∃(a b:Addr) (xs ys:List V) (ws us:List T3),vs=[.ref a,.ref b]/\SqL K H a xs/\Pl H xs ws/\SqL K H b ys/\Pl H ys us/\(∀u∈ws,Wk u)/\(∀u∈us,Wk u)/\ws.length<=14/\us.length<=14/\lcms ((shs ws us).map (·.1))<=5000/\
 (holeN (shs ws us) (lcms ((shs ws us).map (·.1))).toNat≠none->∀H',Same H H'->Q .non H')/\(holeN (shs ws us) (lcms ((shs ws us).map (·.1))).toNat=none->∀(v:V) (p:Pap) (H':Hp),Same H H'->PTop K H H' v p->p.dep<=13->z0Y (shs ws us) 1 0 p=true->PopR (shs ws us) 1 0 (upto (shs ws us).length) p->(p.kn:Int)+1<=2*lcms ((shs ws us).map (·.1))->Q v H')
theorem z5t (T:TF K mg "meeting_paper" z1v) (G_shifts:Has P w K mg base 3 "shifts" ["one", "other"] (z3q K)) (G_cover_paper:Has P w K mg base 17 "cover_paper" ["plan"] (y1M K)):Has P w K mg base 18 "meeting_paper" ["one", "other"] (z6V K):=by
 refine T.has z4o (fun _ _ _ _ _ _=>L2.bnd2 fun _ _=>rfl) (fun vs H Q E h=>?_) (fun f cdv A outer s H vs Q E hr h=>?_)
 ·refine L2.put_away fun G'1268 h'1268=>?_
  obtain⟨a,b,xs,ys,ws,us,rfl,_⟩:=h
  refine h'1268 ?_
  rfl
 refine L2.put_away fun G'1270 h'1270=>?_
 obtain⟨a,b,xs,ys,ws,us,rfl,hS,hP,hS2,hP2,hw,hu,lw,lu,hL,q1,q2⟩:=h
 refine h'1270 ?_
 refine⟨_,(z0D (z0I (z0J (G_cover_paper.mono (by first|decide|omega)) hr (z0A (z0J (G_shifts.mono (by first|decide|omega)) hr (z0A (pv 0) (z0A (pv 1) z0C))) z0C)))),?_⟩
 walk_at "wp"
 refine⟨a,b,xs,ys,ws,us,rfl,hS,hP,hS2,hP2,fun u h=>(hw u h).1,fun u h=>(hu u h).1,by omega,by omega,fun D zs H1 g1 nD hD hZ=>?_⟩
 have lm:=Nat.mul_le_mul lw lu
 exact⟨D,zs,_,rfl,SqL.of hD,hZ,y3H hw hu,by rw[z2Q];omega,hL,fun hn H' g'=>q1 hn H' (g1.trans g'),fun hn v p H' g' hp hd hr2 po kb=>q2 hn v p H' (g1.trans g') (hp.older g1) hd hr2 po kb⟩
noncomputable def y1E (K:PySem.W.Frag) (d:Nat):Sp:=fun vs H Q _=>∃(v:V) (p:Pap),vs=[v]/\PapIn K anyL H v p/\p.dep<d/\p.kn<=2^20/\∀(D:Addr) (H':Hp),Same H H'->H D=none->H' D=some (IL p.nm)->Q (.ref D) H'
theorem z7s (T:TF K mg "paper_names" z2Y):∀d:Nat,Has P w K mg base (d+1) "paper_names" ["paper"] (y1E K d):=by
 intro d
 induction d with
 | zero=>
  refine T.has z1X (fun _ _ _ _ _ _=>L2.bnd1 fun _=>rfl) (fun vs H Q E h=>?_) (fun f cdv A outer s H vs Q E hr h=>?_)
  ·refine L2.put_away fun G'1283 h'1283=>?_
   obtain⟨_,_,_,_,h,_⟩:=h
   refine h'1283 ?_
   exact absurd h (Nat.not_lt_zero _)
  ·refine L2.put_away fun G'1285 h'1285=>?_
   obtain⟨_,_,_,_,h,_⟩:=h
   refine h'1285 ?_
   exact absurd h (Nat.not_lt_zero _)
 | succ d ih=>
 have G_paper_names:=ih
 refine T.has z1X (fun _ _ _ _ _ _=>L2.bnd1 fun _=>rfl) (fun vs H Q E h=>?_) (fun f cdv A outer s H vs Q E hr h=>?_)
 ·refine L2.put_away fun G'1290 h'1290=>?_
  obtain⟨v,p,rfl,_⟩:=h
  refine h'1290 ?_
  rfl
 refine L2.put_away fun G'1292 h'1292=>?_
 obtain⟨v,p,rfl,hv,hd,hk,q⟩:=h
 refine h'1292 ?_
 refine⟨_,(z0B (ps_if (z0L op_eq (pe_ix z0R (pv 0) z0E (fun _ _=>rfl)) z0N (z0T _)) (z0D (z0I (z1T (z0A (pe_ix z0R (pv 0) z0E (fun _ _=>rfl)) z0C)))) z0K) (z0B (z0P (i:=1) z1X.nd rfl (Or.inl rfl) (z1T z0C)) (z0B (z1S PassesOwn.never rfl (z0q (pe_ix z0R (pv 0) z0E (fun _ _=>rfl))) (z0S (i:=2) z1X.nd rfl (Or.inl rfl)) (z0D (z1k (pe_bm PySem.F.plainAttrs_list PySem.F.slot_list_extend PySem.F.type_list_extend z9D (pv 1) (z0A (z0J (G_paper_names.mono (by first|decide|omega)) hr (z0A (pv 2) z0C)) z0C))))) (z0D (z0I (pv 1)))))),?_⟩
 cases hv with
 | @inn b k hb=>
  have hT:SqT K H b [.str "in",.int k]:=SqT.of hb
  walk_at "wp"
  refine⟨_,_,_,.str "in",rfl,rfl,hT,rfl,rfl,?_⟩
  walk_at "wp"
  refine⟨_,_,_,.int k,rfl,rfl,hT,rfl,fun D hD=>?_⟩
  exact q D _ (z0H hD _) hD z0F
 | @par b l bb ys ps hb hl _ lz hs=>
  have hT:SqT K H b [.str "parted",.int bb,.ref l]:=SqT.of hb
  simp only [Pap.dep] at hd
  simp only [Pap.kn] at hk
  have hlen:=hs.len
  walk_at "wp"
  refine⟨_,_,_,.str "parted",rfl,rfl,hT,rfl,rfl,?_⟩
  walk_at "wp"
  refine⟨fun c=>absurd c (by decide),fun _ D hD=>?_⟩
  have g0:=z0H hD (.lst [])
  refine⟨_,_,_,.ref l,rfl,rfl,Same.seqT g0 hT,rfl,?_⟩
  refine⟨_,rfl,⟨_,SqL.of (g0 _ _ hl)⟩,?_⟩
  obtain⟨W,hW⟩:∃W:Nat->St->Hp->Prop,W=fun i σ H'=>∃o:Option V,σ=[some (.ref b),some (.ref D),o]/\Same H H'/\H' D=some (IL (Pap.nms (ps.take i))):=⟨_,rfl⟩
  refine z1R (xs:=ys) W ?_ (fun i σ H' _ z=>?_) (fun i x σ H' hx z=>?_) (fun σ H' z=>?_)
  ·rw[hW]
   exact⟨none,rfl,g0,z0F⟩
  ·rw[hW] at z
   refine L2.put_away fun G'1319 h'1319=>?_
   obtain⟨_,_,g,_⟩:=z
   refine h'1319 ?_
   exact SqL.of (g _ _ hl)
  ·rw[hW] at z
   refine L2.put_away fun G'1322 h'1322=>?_
   obtain⟨o,rfl,g,hD2⟩:=z
   refine h'1322 ?_
   refine L2.put_away fun G'1323 h'1323=>?_
   obtain⟨p,e1,hp⟩:=hs.at hx
   refine h'1323 ?_
   have m1:=Pap.dep_mem (List.mem_of_getElem? e1)
   have m2:=Pap.kn_mem (List.mem_of_getElem? e1)
   walk_at "wp"
   refine⟨.inl ⟨rfl,_,SqL.of hD2⟩,x,p,rfl,hp.mono g,by omega,by omega,fun E2 H3 g3 nE hE=>?_⟩
   have hD3:=g3 _ _ hD2
   have l1:=Pap.nms_len (ps.take i)
   have l2:=p.nm_len
   have l3:=Pap.kns_take e1
   have l4:Pap.kns (ps.take (i+1))<=Pap.kns ps:=by
    have:=Pap.kns_append (ps.take (i+1)) (ps.drop (i+1))
    rw[List.take_append_drop] at this
    omega
   refine⟨_,_,_,_,rfl,rfl,hD3,hE,by rw[List.length_map,List.length_map,sizeLine_eq];omega,?_⟩
   rw[hW]
   refine⟨_,rfl,(g.trans g3).write hD _,?_⟩
   rw[z0F,Pap.nms_take e1]
   simp
  ·rw[hW] at z
   refine L2.put_away fun G'1342 h'1342=>?_
   obtain⟨o,rfl,g,hD2⟩:=z
   refine h'1342 ?_
   rw[hlen,List.take_length] at hD2
   walk_at "wp"
   exact q D H' g hD hD2
noncomputable def prd (ws us:List T3) (k:Int):Int:=lcms [(ws.getD (k/(us.length:Int)).toNat (1,0,1)).1,(us.getD (k%(us.length:Int)).toNat (1,0,1)).1]
noncomputable def IsMx (f:Int->Int) (ns:List Int) (M:Int):Prop:=(∃k∈ns,M=f k)/\∀k∈ns,f k<=M
theorem IsMx.uniq {f:Int->Int} {ns:List Int} {M N:Int} (h:IsMx f ns M) (k:IsMx f ns N):M=N:=by
 refine L2.put_away fun G'1351 h'1351=>?_
 obtain⟨⟨a,ha,rfl⟩,h2⟩:=h
 refine h'1351 ?_
 refine L2.put_away fun G'1352 h'1352=>?_
 obtain⟨⟨b,hb,rfl⟩,k2⟩:=k
 refine h'1352 ?_
 have:=h2 b hb
 have:=k2 a ha
 omega
mutual
theorem z5W {ws:List T3}:∀ {s r:Int} {p:Pap},z0Y ws s r p=true->(∀k∈p.nm,0<=k/\k<ws.length)/\p.nm≠[]
 | s,r,.inn k,h=>by
  simp only [z0Y,Bool.and_eq_true,decide_eq_true_eq] at h
  refine⟨fun j hj=>?_,by simp [Pap.nm]⟩
  rw[show j=k from List.mem_singleton.mp hj]
  exact⟨h.1,h.2.1⟩
 | s,r,.par b ps,h=>by
  simp only [z0Y,Bool.and_eq_true,decide_eq_true_eq] at h
  exact z6d h.2.2 (fun e=>by rw[e] at h;simp at h;omega)
theorem z6d {ws:List T3}:∀ {s r b:Int} {c:Nat} {ps:List Pap},z0h ws s r b c ps=true->ps≠[]->(∀k∈Pap.nms ps,0<=k/\k<ws.length)/\Pap.nms ps≠[]
 | s,r,b,c,[],h,ne=>absurd rfl ne
 | s,r,b,c,p::ps,h,ne=>by
  simp only [z0h,Bool.and_eq_true] at h
  have h1:=z5W h.1
  refine⟨fun k hk=>?_,by simp [Pap.nms,h1.2]⟩
  rcases List.mem_append.mp hk with z|z
  ·exact h1.1 k z
  ·by_cases e:ps=[]
   ·rw[e] at z
    exact nomatch z
   ·exact (z6d h.2 e).1 k z
end
noncomputable def z6U (K:PySem.W.Frag):Sp:=fun vs H Q _=>∃(v:V) (b:Addr) (ys:List V) (k:Int),vs=[v,.ref b,.int k]/\SqL K H b ys/\0<ys.length/\ys.length<=1000/\∀D,H D=none->Q (.ref D) (upd H D (.tup [.int (k/ys.length),.int (k%ys.length)]))
theorem y4K (T:TF K mg "pair_of" z5P) (m_len:mg "len" = none):Has P w K mg base 1 "pair_of" ["one", "other", "k"] (z6U K):=by
 refine T.has y2D (fun _ _ _ _ _ _=>L2.bnd3 fun _ _ _=>rfl) (fun vs H Q E h=>?_) (fun f cdv A outer s H vs Q E hr h=>?_)
 ·refine L2.put_away fun G'1382 h'1382=>?_
  obtain⟨v,b,ys,k,rfl,_⟩:=h
  refine h'1382 ?_
  rfl
 refine L2.put_away fun G'1384 h'1384=>?_
 obtain⟨v,b,ys,k,rfl,hS,l0,l1,q⟩:=h
 refine h'1384 ?_
 refine⟨_,(z0D (z0I (z1y (z0A (pe_op z0l (pv 2) (z0M z0Q rfl m_len PySem.boot_len (z0A (pv 1) z0C))) (z0A (pe_op z0f (pv 2) (z0M z0Q rfl m_len PySem.boot_len (z0A (pv 1) z0C))) z0C))))),?_⟩
 walk_at "wp"
 refine⟨_,_,rfl,.inl hS,divA 20 (by omega) (by omega) (by decide),_,_,rfl,.inl hS,by omega,q⟩
noncomputable def z3t (K:PySem.W.Frag):Sp:=fun vs H Q _=>∃(a b:Addr) (xs ys:List V) (ws us:List T3) (k:Int),vs=[.ref a,.ref b,.int k]/\SqL K H a xs/\Pl H xs ws/\SqL K H b ys/\Pl H ys us/\(∀u∈ws,1<=u.1/\u.1<=2^1000)/\(∀u∈us,1<=u.1/\u.1<=2^1000)/\us.length<=1000/\0<=k/\k<ws.length*us.length/\∀H',Same H H'->Q (.int (prd ws us k)) H'
theorem z9K (T:TF K mg "pair_round" z2x) (G_pair_of:Has P w K mg base 1 "pair_of" ["one", "other", "k"] (z6U K)) (G_least_round:Has P w K mg base 2 "least_round" ["numbers"] (z2I K)):Has P w K mg base 3 "pair_round" ["one", "other", "k"] (z3t K):=by
 refine T.has z3v (fun _ _ _ _ _ _=>L2.bnd3 fun _ _ _=>rfl) (fun vs H Q E h=>?_) (fun f cdv A outer s H vs Q E hr h=>?_)
 ·refine L2.put_away fun G'1391 h'1391=>?_
  obtain⟨a,b,xs,ys,ws,us,k,rfl,_⟩:=h
  refine h'1391 ?_
  rfl
 refine L2.put_away fun G'1393 h'1393=>?_
 obtain⟨a,b,xs,ys,ws,us,k,rfl,hS,hP,hS2,hP2,hw,hu,lu,k0,k1,q⟩:=h
 refine h'1393 ?_
 refine⟨_,(z0B (z0P (i:=3) z3v.nd rfl (Or.inl rfl) (z0J (G_pair_of.mono (by first|decide|omega)) hr (z0A (pv 0) (z0A (pv 1) (z0A (pv 2) z0C))))) (z0D (z0I (z0J (G_least_round.mono (by first|decide|omega)) hr (z0A (z1T (z0A (pe_ix z0R (pe_ix z0b (pv 0) (pe_ix z0R (pv 3) z0E (fun _ _=>rfl)) (fun _ _=>rfl)) z0E (fun _ _=>rfl)) (z0A (pe_ix z0R (pe_ix z0b (pv 1) (pe_ix z0R (pv 3) z0E (fun _ _=>rfl)) (fun _ _=>rfl)) z0E (fun _ _=>rfl)) z0C))) z0C))))),?_⟩
 have ul:0<us.length:=by
  rcases Nat.eq_zero_or_pos us.length with z|z
  ·rw[z] at k1
   simp at k1
   omega
  ·exact z
 walk_at "wp"
 have ly:=hP2.1
 refine⟨_,b,ys,k,rfl,hS2,by omega,by omega,fun D nD=>?_⟩
 rw[ly]
 have g1:=z0H nD (.tup [.int (k/us.length),.int (k%us.length)])
 have hD:=z0F (H:=H) (a:=D) (o:=.tup [.int (k/us.length),.int (k%us.length)])
 generalize upd H D (.tup [.int (k/us.length),.int (k%us.length)])=H1 at g1 hD ⊢
 have q0:0<=k/(us.length:Int):=Int.ediv_nonneg k0 (by omega)
 have q1:k/(us.length:Int)<ws.length:=Int.ediv_lt_of_lt_mul (by omega) k1
 have r0:=Int.emod_nonneg k (show (us.length:Int)≠0 by omega)
 have r1:=Int.emod_lt_of_pos k (show (0:Int)<us.length by omega)
 refine L2.put_away fun G'1412 h'1412=>?_
 obtain⟨p1,t1,e1,f1,m1,z1⟩:=(hP.same g1).ix q0 q1
 refine h'1412 ?_
 refine L2.put_away fun G'1413 h'1413=>?_
 obtain⟨p2,t2,e2,f2,m2,z2⟩:=(hP2.same g1).ix r0 r1
 refine h'1413 ?_
 refine⟨D,_,_,_,rfl,rfl,SqT.of hD,z0X (j:=0) rfl,z0W (g1.seq hS) e1 ⟨p1,_,_,_,rfl,rfl,SqT.of z1,z0X (j:=0) rfl,D,_,_,_,rfl,rfl,SqT.of hD,z0X (j:=1) rfl,z0W (g1.seq hS2) e2 ⟨p2,_,_,_,rfl,rfl,SqT.of z2,z0X (j:=0) rfl,fun L nL=>?_⟩⟩⟩
 refine⟨L,[t1.1,t2.1],rfl,SqL.of z0F,by simp,fun z hz=>?_,?_⟩
 ·simp only [List.mem_cons,List.not_mem_nil,or_false] at hz
  rcases hz with rfl|rfl
  ·exact hw t1 m1
  ·exact hu t2 m2
 ·have:=q _ (g1.trans (z0H nL (.lst [.int t1.1,.int t2.1])))
  unfold prd at this
  rw[List.getD_eq_getElem?_getD,f1,List.getD_eq_getElem?_getD,f2] at this
  exact this
noncomputable def z3s (K:PySem.W.Frag) (d:Nat):Sp:=fun vs H Q _=>∃(a b:Addr) (v:V) (xs ys:List V) (ws us:List T3) (p:Pap),vs=[.ref a,.ref b,v]/\SqL K H a xs/\Pl H xs ws/\SqL K H b ys/\Pl H ys us/\(∀u∈ws,Wk u/\u.1<=2^1000)/\(∀u∈us,Wk u/\u.1<=2^1000)/\ws.length<=100/\us.length<=100/\PapIn K anyL H v p/\p.dep<d/\p.kn<64/\z0Y (shs ws us) 1 0 p=true/\∀M H',Same H H'->IsMx (prd ws us) p.nm M->Q (.int M) H'
noncomputable def z6E (K:PySem.W.Frag) (C:Addr) (d:Nat):Sp:=fun vs H _ E=>∃(a b:Addr) (v:V) (xs ys:List V) (ws us:List T3) (p:Pap),vs=[.ref a,.ref b,v]/\SqL K H a xs/\Pl H xs ws/\SqL K H b ys/\Pl H ys us/\(∀u∈ws,Wk u)/\(∀u∈us,Wk u)/\ws.length<=100/\us.length<=100/\PapIn K anyL H v p/\p.dep<d/\z0Y (shs ws us) 1 0 p=false/\∀x H',Same H H'->H' x=none->E (.ref C) (some x) H'
theorem y0N:∀ {ps:List Pap} {k:Int},k∈Pap.nms ps ↔ ∃p∈ps,k∈p.nm
 | [],k=>by simp [Pap.nms]
 | p::ps,k=>by
  have:=y0N (ps:=ps) (k:=k)
  simp [Pap.nms,this]
theorem y8D {a b:Int} (ha:1<=a) (hb:1<=b):a/gcdI a b*b=lcms [a,b]:=by
 have e:lcms [a,b]=lcmI a b:=by
  unfold lcms
  simp only [List.foldl]
  have:lcmI 1 a=a:=by
   unfold lcmI
   rw[y5y,Int.ediv_one,Int.one_mul]
  rw[this]
 rw[e,←y5p,Int.mul_comm a b,Int.mul_ediv_assoc b (z0i a b),Int.mul_comm]
theorem y5s {f:Int->Int} {ps:List Pap} {Ms:List Int} {M:Int} (hl:Ms.length=ps.length) (h:∀(j:Nat) (m:Int) (p:Pap),Ms[j]?=some m->ps[j]?=some p->IsMx f p.nm m) (hM:M∈Ms) (hz:∀z∈Ms,z<=M):IsMx f (Pap.nms ps) M:=by
 refine⟨?_,fun k hk=>?_⟩
 ·obtain⟨j,hj⟩:=List.getElem?_of_mem hM
  have lj:=(List.getElem?_eq_some_iff.mp hj).1
  refine L2.put_away fun G'1577 h'1577=>?_
  obtain⟨⟨k,hk,e⟩,_⟩:=h j M _ hj (List.getElem?_eq_getElem (by omega:j<ps.length))
  refine h'1577 ?_
  exact⟨k,y0N.mpr ⟨_,List.getElem_mem _,hk⟩,e⟩
 ·refine L2.put_away fun G'1579 h'1579=>?_
  obtain⟨p,hp,hk2⟩:=y0N.mp hk
  refine h'1579 ?_
  obtain⟨j,hj⟩:=List.getElem?_of_mem hp
  have lj:=(List.getElem?_eq_some_iff.mp hj).1
  have e:Ms[j]?=some (Ms[j]'(by omega)):=List.getElem?_eq_getElem (by omega)
  exact Int.le_trans ((h j _ p e hj).2 k hk2) (hz _ (List.getElem_mem _))
noncomputable def HasL (P:Program) (w:World) (K:PySem.W.Frag) (mg:Str->Option Value) (base:Heap) (k:Nat) (x:Str) (ps:List Str) (sp:Sp):Prop:=
 ∃f fd,FnOk P w K mg base (CXx P w) k f fd ps sp/\(∀us:List Value,us.length=ps.length->bindArgs fd ⟨us,[]⟩=pure (ps.zip us))/\PySem.W.keepIn K (.ref f)=true/\mg x=some (.ref f)/\∃oc od osl,K.lookup f=some ⟨oc,od,.func fd,osl⟩
theorem y6j {x:Str} {st:Stmt} {N ps:List Str} {k:Nat} {sp:Sp} (T:TF K mg x st) (S:FnScope N ps (z0G st))
  (hb:∀(kV doc pm:Value) (an:Option Addr) (cdv ct:Value) (us:List Value),us.length=ps.length->bindArgs (PySem.W.fnOf x x (z2N st) (z1G st) (z0G st) .none kV doc pm an cdv ct) ⟨us,[]⟩=pure (ps.zip us))
  (len:∀vs H Q E,sp vs H Q E->vs.length=ps.length)
  (hbody:∀(f:Addr) (cdv:Value) (A:Around) (outer:List Env) (s:Shared) (H:Hp) (vs:List V) (Q:VK) (E:XK),Room k (A.deeper (PyProof.Rows.envOfC x (z0G st) s.heap.objs.size f cdv))->sp vs H Q E->
   ∃t,PSs (cxOf (CXx P w) P w K mg base N x (z0G st) f cdv A outer s H E) (z1G st) t/\t { nx:=fun _ H'=>Q .non H',rt:=Q } (L2.start N vs) H):HasL P w K mg base (k+1) x ps sp:=by
 refine L2.put_away fun G'1593 h'1593=>?_
 obtain⟨f,fd,F,m⟩:=T
 refine h'1593 ?_
 refine L2.put_away fun G'1594 h'1594=>?_
 obtain⟨oc,od,kV,doc,pm,an,cdv,ct,osl,rfl,lk,hcd⟩:=F.ex
 refine h'1594 ?_
 exact⟨f,_,fn_of lk hcd S len fun A outer s H vs Q E hr hsp=>hbody f cdv A outer s H vs Q E hr hsp,hb kV doc pm an cdv ct,F.kp,m,oc,od,osl,lk⟩
theorem y8S {k:Nat} {x:Str} {ps:List Str} {sp:Sp} (h:HasL P w K mg base k x ps sp):HasX P w K mg base k x ps sp:=
 let ⟨f,fd,F,hb,hk,hm,_⟩:=h
 ⟨f,fd,F,hb,hk,hm⟩
theorem y2Q {k:Nat} {x:Str} {ps:List Str} {sp sp':Sp} (h:HasL P w K mg base k x ps sp) (i:∀vs H Q E,sp' vs H Q E->sp vs H Q fun _ _ _=>False):Has P w K mg base k x ps sp':=by
 refine L2.put_away fun G'1600 h'1600=>?_
 obtain⟨f,fd,F,hb,hk,hm,hl⟩:=h
 refine h'1600 ?_
 refine⟨f,fd,⟨fun vs H Q E z=>F.len vs H Q _ (i vs H Q E z),fun A outer s H args us vs Q E hr e0 hbt hv z=>PySem.codeAny_mono (F.run A outer s H args us vs Q _ hr e0 hbt hv (i vs H Q E z)) fun r s' hq=>?_⟩,hb,hk,hm,hl⟩
 cases r with
 | error e=>
  refine L2.put_away fun G'1604 h'1604=>?_
  obtain⟨_,_,_,_,_,_,_,_,_,z⟩:=hq
  refine h'1604 ?_
  exact z.elim
 | ok fl=>cases fl <;> exact hq
noncomputable def y1B (K:PySem.W.Frag) (C:Addr) (d:Nat):Sp:=fun vs H Q E=>z3s K d vs H Q E∨z6E K C d vs H Q E
theorem z7r {d:Nat} {c_NoPaper:Addr} {bm:List Value} (T:TF K mg "paper_wait" z2w) (m_max:mg "max" = none) (m_set:mg "set" = none) (m_sorted:mg "sorted" = none) (O_NoPaper:OX K mg "NoPaper" c_NoPaper bm) (G_lets_meet:Has P w K mg base (d+5) "lets_meet" ["one", "other", "paper"] (z4d K d)) (G_paper_names:Has P w K mg base (d+1) "paper_names" ["paper"] (y1E K d)) (G_pair_round:Has P w K mg base 3 "pair_round" ["one", "other", "k"] (z3t K)):HasL P w K mg base (d+6) "paper_wait" ["one", "other", "paper"] (y1B K c_NoPaper d):=by
 refine y6j T z7R (fun _ _ _ _ _ _=>L2.bnd3 fun _ _ _=>rfl) (fun vs H Q E h=>?_) (fun f cdv A outer s H vs Q E hr h=>?_)
 ·rcases h with⟨a,b,v,xs,ys,ws,us,p,rfl,_⟩|⟨a,b,v,xs,ys,ws,us,p,rfl,_⟩ <;> rfl
 rcases h with h|h
 ·refine L2.put_away fun G'1614 h'1614=>?_
  obtain⟨a,b,v,xs,ys,ws,us,p,rfl,hS,hP,hS2,hP2,hw,hu,lw,lu,hv,hd,hk,hr2,q⟩:=h
  refine h'1614 ?_
  refine⟨_,(z0B (ps_if (z2F (z1C (z0J (G_lets_meet.mono (by first|decide|omega)) hr (z0A (pv 0) (z0A (pv 1) (z0A (pv 2) z0C)))) (fun _=>rfl))) (z0D (z2g O_NoPaper rfl z5A (z0A z0N z0C))) z0K) (z0D (z0I (z0M (z6B rfl) rfl m_max (by decide +kernel) (z0A (z1F (CompSc.capt (own:=["k"]) (capt:=["other", "one"]) (fr:=[1,0]) rfl ⟨rfl,rfl,rfl,rfl,rfl,⟨rfl,rfl,rfl,rfl,rfl,trivial⟩⟩ (by decide +kernel) (by decide +kernel) rfl (by decide +kernel)) rfl (z0q (z0M (z4l rfl) rfl m_sorted (by decide +kernel) (z0A (z1Q (z9V rfl) rfl m_set (by decide +kernel) (z0A (z0J (G_paper_names.mono (by first|decide|omega)) hr (z0A (pv 2) z0C)) z0C)) z0C))) (fun _ _ _=>(z0S (i:=0) (show (["k", "other", "one"]:List Str).Nodup from by decide +kernel) rfl (Or.inl rfl) (Or.inr rfl))) (fun _ _ _=>z0v) (fun _ _ _=>(z0J (G_pair_round.mono (by first|decide|omega)) hr (z0A (pv 2) (z0A (pv 1) (z0A (pv 0) z0C)))))) z0C))))),?_⟩
  walk_at "wp"
  refine⟨a,b,v,xs,ys,ws,us,p,rfl,hS,hP,hS2,hP2,fun u h=>(hw u h).1,fun u h=>(hu u h).1,lw,lu,hv,hd,fun H1 g1=>?_⟩
  rw[hr2]
  walk_at "wp"
  refine⟨v,p,rfl,hv.mono g1,hd,by omega,fun L H2 g2 nL hL=>?_⟩
  have nl:=p.nm_len
  have G2:=g1.trans g2
  refine⟨L,p.nm,rfl,SqL.of hL,by omega,fun S f1 n nS hn hf=>?_⟩
  generalize (cxOf (CXx P w) P w K mg base _ _ _ f cdv A outer s H E).prog=Pr
  generalize (cxOf (CXx P w) P w K mg base _ _ _ f cdv A outer s H E).w=Wo
  refine⟨S,f1,n,rfl,z0F,by omega,fun D ns nD hl hm _=>?_⟩
  have G3:=(G2.trans (z0H nS (setO Pr Wo S f1 n))).trans (z0H nD (.lst (ns.map V.int)))
  have hD:=z0F (H:=upd H2 S (setO Pr Wo S f1 n)) (a:=D) (o:=.lst (ns.map V.int))
  generalize upd (upd H2 S (setO Pr Wo S f1 n)) D (.lst (ns.map V.int))=H3 at G3 hD ⊢
  have rn:=z5W hr2
  rw[z2Q] at rn
  have hns:∀k,k∈ns ↔ k∈p.nm:=fun k=>(hm k).symm.trans (hf k)
  have nsl:ns.length<=64:=by omega
  refine⟨⟨_,SqL.of hD⟩,?_⟩
  obtain⟨Sv,hSv⟩:∃Sv:St->Prop,Sv=fun σ=>∃o1,σ=[o1,some (.ref b),some (.ref a)]:=⟨_,rfl⟩
  obtain⟨Pv,hPv⟩:∃Pv:Addr->Nat->List V->Hp->Prop,Pv=fun D2 i ys H4=>H3 D2=none/\Same H3 H4/\ys=((ns.take i).map (prd ws us)).map V.int:=⟨_,rfl⟩
  refine z0z (xs:=ns.map V.int) Sv Pv (by rw[hSv];exact⟨none,rfl⟩) (fun D2 hD2=>?_) (fun D2 i ys H4 hD2 h=>?_) (fun D2 i x ys σ H4 hx hi hs hD2 hy h=>?_) (fun D2 ys H4 hD2 h=>?_)
  ·rw[hPv]
   exact⟨hD2,z0H hD2 _,rfl⟩
  ·rw[hPv] at h
   exact SqL.of (h.2.1 _ _ hD)
  ·rw[hSv] at hs
   rw[hPv] at h
   obtain⟨o1,rfl⟩:=hs
   refine L2.put_away fun G'1645 h'1645=>?_
   obtain⟨nD2,g,rfl⟩:=h
   refine h'1645 ?_
   rw[List.getElem?_map] at hx
   refine L2.put_away fun G'1647 h'1647=>?_
   obtain⟨k,hn,rfl⟩:=Option.map_eq_some_iff.mp hx
   refine h'1647 ?_
   rw[List.length_map] at hi
   have kb:=rn.1 k ((hns k).mp (List.mem_of_getElem? hn))
   have G:=G3.trans g
   walk_at "wp"
   refine⟨a,b,xs,_,ws,us,k,rfl,G.seq hS,hP.same G,G.seq hS2,hP2.same G,fun u h=>⟨(hw u h).1.1,(hw u h).2⟩,fun u h=>⟨(hu u h).1.1,(hu u h).2⟩,by omega,kb.1,by rw[←Int.natCast_mul];exact kb.2,fun H5 g5=>?_⟩
   have hD3:=g5 _ _ hD2
   refine CompP.mk hD3 hy (by rw[sizeLine_eq];omega) (by rw[hSv];exact⟨_,rfl⟩) (by
    rw[hPv]
    refine⟨nD2,(g.trans g5).write nD2 _,?_⟩
    rw[List.take_add_one,hn]
    simp)
  ·rw[hPv] at h
   refine L2.put_away fun G'1660 h'1660=>?_
   obtain⟨nD2,g,rfl⟩:=h
   refine h'1660 ?_
   rw[List.length_map,List.take_length] at hD2
   have nne:ns≠[]:=fun e=>by
    obtain⟨k,hk⟩:=List.exists_mem_of_ne_nil _ rn.2
    have:=(hns k).mpr hk
    rw[e] at this
    exact nomatch this
   refine⟨D2,ns.map (prd ws us),rfl,SqL.of hD2,by simpa using nne,fun M hM1 hM2=>q M _ (G3.trans g) ⟨?_,fun k hk=>hM2 _ (List.mem_map.mpr ⟨k,(hns k).mpr hk,rfl⟩)⟩⟩
   refine L2.put_away fun G'1668 h'1668=>?_
   obtain⟨k,hk,rfl⟩:=List.mem_map.mp hM1
   refine h'1668 ?_
   exact⟨k,(hns k).mp hk,rfl⟩
 ·refine L2.put_away fun G'1670 h'1670=>?_
  obtain⟨a,b,v,xs,ys,ws,us,p,rfl,hS,hP,hS2,hP2,hw,hu,lw,lu,hv,hd,hr2,q⟩:=h
  refine h'1670 ?_
  refine⟨_,(z0B (ps_if (z2F (z1C (z0J (G_lets_meet.mono (by first|decide|omega)) hr (z0A (pv 0) (z0A (pv 1) (z0A (pv 2) z0C)))) (fun _=>rfl))) (z0D (z2g O_NoPaper rfl z5A (z0A z0N z0C))) z0K) (z0D (z0I (z0M (z6B rfl) rfl m_max (by decide +kernel) (z0A (z1F (CompSc.capt (own:=["k"]) (capt:=["other", "one"]) (fr:=[1,0]) rfl ⟨rfl,rfl,rfl,rfl,rfl,⟨rfl,rfl,rfl,rfl,rfl,trivial⟩⟩ (by decide +kernel) (by decide +kernel) rfl (by decide +kernel)) rfl (z0q (z0M (z4l rfl) rfl m_sorted (by decide +kernel) (z0A (z1Q (z9V rfl) rfl m_set (by decide +kernel) (z0A (z0J (G_paper_names.mono (by first|decide|omega)) hr (z0A (pv 2) z0C)) z0C)) z0C))) (fun _ _ _=>(z0S (i:=0) (show (["k", "other", "one"]:List Str).Nodup from by decide +kernel) rfl (Or.inl rfl) (Or.inr rfl))) (fun _ _ _=>z0v) (fun _ _ _=>(z0J (G_pair_round.mono (by first|decide|omega)) hr (z0A (pv 2) (z0A (pv 1) (z0A (pv 0) z0C)))))) z0C))))),?_⟩
  walk_at "wp"
  refine⟨a,b,v,xs,ys,ws,us,p,rfl,hS,hP,hS2,hP2,hw,hu,lw,lu,hv,hd,fun H1 g1=>?_⟩
  rw[hr2]
  walk_at "wp"
  exact⟨by decide,fun x hx=>q x H1 g1 hx⟩
theorem y3I {ws us:List T3} {m n:Int} (hw:∀u∈ws,u.1∣m) (hu:∀u∈us,u.1∣n):∀x∈shs ws us,x.1∣gcdI m n:=fun x hx=>by
 refine L2.put_away fun G'1680 h'1680=>?_
 obtain⟨u,mu,v,mv,rfl⟩:=z7Z.mp hx
 refine h'1680 ?_
 exact y6C (Int.dvd_trans (z0i _ _) (hw u mu)) (Int.dvd_trans (z0d _ _) (hu v mv))
theorem y1g {ws us:List T3} {m n:Int} (hw1:∀u∈ws,Wk u) (hw:∀u∈ws,u.1∣m) (hu:∀u∈us,u.1∣n) (m0:1<=m):1<=lcms ((shs ws us).map (·.1))/\lcms ((shs ws us).map (·.1))∣gcdI m n/\lcms ((shs ws us).map (·.1))<=m/\∀x∈shs ws us,x.1∣lcms ((shs ws us).map (·.1)):=by
 have h1:∀x∈(shs ws us).map (·.1),1<=x:=fun x hx=>by
  refine L2.put_away fun G'1684 h'1684=>?_
  obtain⟨y,hy,rfl⟩:=List.mem_map.mp hx
  refine h'1684 ?_
  refine L2.put_away fun G'1685 h'1685=>?_
  obtain⟨u,mu,v,mv,rfl⟩:=z7Z.mp hy
  refine h'1685 ?_
  exact z2o (hw1 u mu).1
 have h2:lcms ((shs ws us).map (·.1))∣gcdI m n:=(z3C h1).mpr fun x hx=>by
  refine L2.put_away fun G'1688 h'1688=>?_
  obtain⟨y,hy,rfl⟩:=List.mem_map.mp hx
  refine h'1688 ?_
  exact y3I hw hu y hy
 have gp:=z0m (a:=m) (b:=n) (by omega)
 have h3:=Int.le_of_dvd gp h2
 have h4:=z0n n (show 0<m by omega)
 exact⟨z2i h1,h2,by omega,fun x hx=>z8H h1 _ (List.mem_map_of_mem hx)⟩
noncomputable def z3H (K:PySem.W.Frag):Sp:=fun vs H Q _=>∃(a:Addr) (ns:List Int) (k:Int),vs=[.ref a,.int k]/\SqL K H a (ns.map V.int)/\0<=k/\Q (.int (ns.getD k.toNat 0)) H
theorem z7z (T:TF K mg "_law_cell_at" z2d) (m_len:mg "len" = none):Has P w K mg base 1 "_law_cell_at" ["script", "k"] (z3H K):=by
 refine T.has z6G (fun _ _ _ _ _ _=>L2.bnd2 fun _ _=>rfl) (fun vs H Q E h=>?_) (fun f cdv A outer s H vs Q E hr h=>?_)
 ·refine L2.put_away fun G'1698 h'1698=>?_
  obtain⟨a,ns,k,rfl,_⟩:=h
  refine h'1698 ?_
  rfl
 refine L2.put_away fun G'1700 h'1700=>?_
 obtain⟨a,ns,k,rfl,hS,hk,q⟩:=h
 refine h'1700 ?_
 refine⟨_,(z0B (ps_if (z0L op_lt (pv 1) (z0M z0Q rfl m_len PySem.boot_len (z0A (pv 0) z0C)) (z0T _)) (z0D (z0I (pe_ix z0b (pv 0) (pv 1) (fun _ _=>rfl)))) z0K) (z0D (z0I z0E))),?_⟩
 walk_at "wp"
 refine⟨a,_,rfl,.inl hS,?_⟩
 walk_at "wp"
 refine⟨fun c=>?_,fun c=>?_⟩
 ·rw[List.length_map] at c
  exact z0W hS (z4H hk c) q
 ·rw[List.length_map] at c
  have e:ns.getD k.toNat 0=0:=by
   rw[List.getD_eq_getElem?_getD,List.getElem?_eq_none (by omega)]
   rfl
  rw[e] at q
  exact q
noncomputable def dg (n:Int):List Nat:=(Str.ofString (toString n)).cps.toList
theorem z3m (n:Int):Str.ofString (toString n)=tx (dg n):=(z1c _).symm
structure DgOk (n:Int):Prop where
 all:PySem.NumText.AllDigits (dg n)
 ne:dg n≠[]
 val:((PySem.NumText.digitsVal (dg n):Nat):Int)=n
 zero:(dg n)[0]?=some 48->(dg n).length=1
 len:(dg n).length<=100
 sz:n.natAbs.log2<1920
theorem z0a (l:List Nat):(tx l).cps.toList=l:=by simp [tx]
theorem z0V (l:List Nat):(tx l).length=l.length:=by simp [tx,Str.length]
theorem dgOk {n:Int} (h0:0<=n) (h1:n<10^100):DgOk n:=by
 refine L2.put_away fun G'1783 h'1783=>?_
 obtain⟨l,e,a,b,c,d,f⟩:=y5Z h0
 refine h'1783 ?_
 have el:dg n=l:=by
  unfold dg
  rw[e,z0a]
 exact⟨el▸a,el▸b,el▸c,el▸d,by rw[el];exact f 99 h1,by
  by_cases z:n.natAbs=0
  ·rw[z];decide
  ·refine (Nat.log2_lt z).mpr (Nat.lt_of_lt_of_le (m:=10^100) (by omega) (by decide +kernel))⟩
theorem z2A {l:List Nat} (h:PySem.NumText.AllDigits l) {c:Nat} (hc:c<48∨57<c):c∉l:=fun m=>by
 have:=h c m
 omega
theorem colon:Str.ofString ":" = ⟨#[58]⟩:=by decide +kernel
theorem y1t:Str.ofString " " = ⟨#[32]⟩:=by decide +kernel
theorem z6P {l:List Nat} {ps:List (List Nat)} {c:Nat} (hc:c<256) (e:l=glu c ps) (ne:ps≠[]) (h:∀p∈ps,c∉p):Txt.split (tx l) ⟨#[c]⟩=ps.map tx:=by
 rw[y2x _ _ hc,z0a,e,y2y ne h]
noncomputable def y3i:List Nat:=(Str.ofString "never").cps.toList
theorem y5e:tx y3i=Str.ofString "never" :=z1c _
theorem z5u {c M:Nat}:∀ {ps:List (List Nat)},(∀p∈ps,p.length<=M)->(glu c ps).length<=ps.length*(M+1)
 | [],_=>Nat.zero_le _
 | [p],h=>by
  have:=h p (by simp)
  simp only [glu,List.length_singleton]
  omega
 | p::q::r,h=>by
  have ih:=z5u (c:=c) (ps:=q::r) fun x hx=>h x (by simp [hx])
  have:=h p (by simp)
  have e:(p::q::r).length*(M+1)=(M+1)+(q::r).length*(M+1):=by rw[List.length_cons,Nat.add_mul];omega
  rw[e]
  simp only [glu,List.length_append,List.length_cons] at ih ⊢
  omega
theorem z9E {sep:Str} {M:Nat}:∀ {ys:List Str} (k:Nat),(∀y∈ys,y.length+sep.length<=M)->ys.foldl (· + ·.length+sep.length) k<=k+ys.length*M
 | [],k,_=>by simp
 | y::ys,k,h=>by
  have ih:=z9E (ys:=ys) (k+y.length+sep.length) fun x hx=>h x (by simp [hx])
  have:=h y (by simp)
  rw[List.foldl_cons,List.length_cons,Nat.add_mul]
  omega
theorem y1k {c:Nat} {ps:List (List Nat)}:Builtin.Str.glued ⟨#[c]⟩ (ps.map tx)=tx (glu c ps):=by
 apply z5E
 rw[y4Q,z0a,List.map_map]
 congr 1
 exact (List.map_congr_left fun p _=>z0a p).trans (List.map_id _)
theorem y7R {c M:Nat} {ps:List (List Nat)} (h:∀p∈ps,p.length<=M) (l:ps.length*(M+1)<=16777216):(ps.map tx).toArray.foldl (· + ·.length+(⟨#[c]⟩:Str).length) 0<=sizeLine/\(Builtin.Str.glued ⟨#[c]⟩ (ps.map tx)).length<=sizeLine:=by
 rw[sizeLine_eq]
 constructor
 ·rw[List.foldl_toArray]
  have:=z9E (sep:=⟨#[c]⟩) (M:=M+1) (ys:=ps.map tx) 0 fun y hy=>by
   refine L2.put_away fun G'1830 h'1830=>?_
   obtain⟨p,hp,rfl⟩:=List.mem_map.mp hy
   refine h'1830 ?_
   rw[z0V]
   exact Nat.add_le_add_right (h p hp) 1
  rw[List.length_map] at this
  omega
 ·rw[y1k,z0V]
  exact Nat.le_trans (z5u h) l
theorem y3r {K:PySem.W.Frag} {c M:Nat} {ps:List (List Nat)} {H:Hp} {D:Addr} {Q:VK} {z:Str} (ez:z=⟨#[c]⟩) (hD:H D=some (.lst ((ps.map tx).map V.str))) (h:∀p∈ps,p.length<=M) (l:ps.length*(M+1)<=16777216) (q:Q (.str (tx (glu c ps))) H):∃sep a ys,V.str z=V.str sep/\[V.ref D]=[V.ref a]/\SqL K H a (List.map V.str ys)/\Array.foldl (fun x1 x2=>x1+x2.length+sep.length) 0 ys.toArray<=16777216/\(Builtin.Str.glued sep ys).length<=16777216/\Q (V.str (Builtin.Str.glued sep ys)) H:=by
 subst ez
 have jo:=y7R (c:=c) h l
 rw[sizeLine_eq] at jo
 exact⟨_,D,_,rfl,rfl,SqL.of hD,jo.1,jo.2,by rw[y1k];exact q⟩
theorem z5v {c:Nat} {Pz:Nat->Prop} (hc:Pz c):∀ {ps:List (List Nat)},(∀p∈ps,∀x∈p,Pz x)->∀x∈glu c ps,Pz x
 | [],_,x,hx=>nomatch hx
 | [p],h,x,hx=>h p (by simp) x hx
 | p::q::r,h,x,hx=>by
  rcases List.mem_append.mp (show x∈p++c::glu c (q::r) from hx) with z|z
  ·exact h p (by simp) x z
  ·rcases List.mem_cons.mp z with rfl|z
   ·exact hc
   ·exact z5v hc (fun y hy=>h y (by simp [hy])) x z
noncomputable def figB (c:Nat):Bool:=decide (48<=c/\c<=57)
noncomputable def figsB (l:List Nat):Bool:=decide (1<=l.length) && (decide (l.length<=100) && (!(decide (l[0]?=some 48) && decide (1<l.length)) && l.all figB))
theorem y6B {l:List Nat}:figsB l=true ↔ 1<=l.length/\l.length<=100/\¬(l[0]?=some 48/\1<l.length)/\∀c∈l,48<=c/\c<=57:=by
 unfold figsB figB
 simp only [Bool.and_eq_true,decide_eq_true_eq,Bool.not_eq_true',Bool.and_eq_false_iff,decide_eq_false_iff_not,List.all_eq_true]
 constructor
 ·rintro⟨a,b,c,d⟩
  exact⟨a,b,fun z=>c.elim (fun k=>k z.1) fun k=>k z.2,d⟩
 ·rintro⟨a,b,c,d⟩
  refine⟨a,b,?_,d⟩
  by_cases e:l[0]?=some 48
  ·exact .inr fun k=>c ⟨e,k⟩
  ·exact .inl e
noncomputable def isW (u:T3):Bool:=decide (1<=u.1/\(0<=u.2.1/\u.2.1<u.1)/\1<=u.2.2/\u.2.2<=u.1)
noncomputable def z4e:Sp:=fun vs H Q _=>∃u:T3,vs=[.int u.1,.int u.2.1,.int u.2.2]/\Q (.bl (isW u)) H
theorem y0n (T:TF K mg "is_waking" z3i):Has P w K mg base 1 "is_waking" ["period", "first", "length"] z4e:=by
 refine T.has z8q (fun _ _ _ _ _ _=>L2.bnd3 fun _ _ _=>rfl) (fun vs H Q E h=>?_) (fun f cdv A outer s H vs Q E hr h=>?_)
 ·refine L2.put_away fun G'1992 h'1992=>?_
  obtain⟨u,rfl,_⟩:=h
  refine h'1992 ?_
  rfl
 refine L2.put_away fun G'1994 h'1994=>?_
 obtain⟨u,rfl,q⟩:=h
 refine h'1994 ?_
 refine⟨_,(z0D (z0I (z5e (z2h op_ge (pv 0) z0E (z0T _)) (z5e (z4v op_le op_lt z0E (pv 1) (pv 0)) (z6i (z4v op_le op_le z0E (pv 2) (pv 0))))))),?_⟩
 unfold isW at q
 walk_at "wp"
 refine⟨fun c1=>⟨fun c2=>⟨fun c3=>⟨fun c4=>?_,fun c4=>?_⟩,fun c3=>?_⟩,fun c2=>?_⟩,fun c1=>?_⟩
 ·by_cases c5:u.2.2<=u.1
  ·rw[decide_eq_true ⟨c1,⟨c2,c3⟩,c4,c5⟩] at q
   rw[decide_eq_true c5]
   exact q
  ·rw[decide_eq_false fun z=>c5 z.2.2.2] at q
   rw[decide_eq_false c5]
   exact q
 ·rw[decide_eq_false fun z=>c4 z.2.2.1] at q
  exact q
 ·rw[decide_eq_false fun z=>c3 z.2.1.2] at q
  exact q
 ·rw[decide_eq_false fun z=>c2 z.2.1.1] at q
  exact q
 ·rw[decide_eq_false fun z=>c1 z.1] at q
  exact q
noncomputable def z6R (K:PySem.W.Frag):Sp:=fun vs H Q _=>∃(a:Addr) (xs:List V) (ws:List T3),vs=[.ref a]/\SqL K H a xs/\Pl H xs ws/\(∀u∈ws,isW u=true)/\∀D:Addr,H D=none->Q (.ref D) (upd H D (.lst xs))
theorem y4H (T:TF K mg "plan_of" z5N) (m_list:mg "list" = none) (G_is_waking:Has P w K mg base 1 "is_waking" ["period", "first", "length"] z4e):Has P w K mg base 2 "plan_of" ["rows"] (z6R K):=by
 refine T.has z3I (fun _ _ _ _ _ _=>L2.bnd1 fun _=>rfl) (fun vs H Q E h=>?_) (fun f cdv A outer s H vs Q E hr h=>?_)
 ·refine L2.put_away fun G'2018 h'2018=>?_
  obtain⟨a,xs,ws,rfl,_⟩:=h
  refine h'2018 ?_
  rfl
 refine L2.put_away fun G'2020 h'2020=>?_
 obtain⟨a,xs,ws,rfl,hS,hP,hw,q⟩:=h
 refine h'2020 ?_
 refine⟨_,(z0B (z1S PassesOwn.never rfl (z0q (pv 0)) (z9A rfl (z0y (z0S (i:=1) z3I.nd rfl (Or.inl rfl)) (z0y (z0S (i:=2) z3I.nd rfl (Or.inl rfl)) (z0y (z0S (i:=3) z3I.nd rfl (Or.inl rfl)) z5a)))) (z0D (ps_if (z2F (z1C (z0J (G_is_waking.mono (by first|decide|omega)) hr (z0A (pv 1) (z0A (pv 2) (z0A (pv 3) z0C)))) (fun _=>rfl))) (z0D z0x) z0K))) (z0D (z0I (z1Q z4m rfl m_list (by decide +kernel) (z0A (pv 0) z0C))))),?_⟩
 walk_at "wp"
 refine⟨⟨_,hS⟩,?_⟩
 obtain⟨W,hW⟩:∃W:Nat->St->Hp->Prop,W=fun i σ H'=>∃o1 o2 o3:Option V,σ=[some (.ref a),o1,o2,o3]/\H'=H:=⟨_,rfl⟩
 refine z1R (xs:=xs) W ?_ (fun i σ H' _ z=>?_) (fun i x σ H' hx z=>?_) (fun σ H' z=>?_)
 ·rw[hW]
  exact⟨none,none,none,rfl,rfl⟩
 ·rw[hW] at z
  refine L2.put_away fun G'2029 h'2029=>?_
  obtain⟨_,_,_,_,rfl⟩:=z
  refine h'2029 ?_
  exact hS
 ·rw[hW] at z
  refine L2.put_away fun G'2032 h'2032=>?_
  obtain⟨o1,o2,o3,rfl,rfl⟩:=z
  refine h'2032 ?_
  refine L2.put_away fun G'2033 h'2033=>?_
  obtain⟨p,u,e1,rfl,e3⟩:=hP.at hx
  refine h'2033 ?_
  refine⟨p,_,rfl,SqT.of e3,rfl,?_⟩
  walk_at "wp"
  refine⟨u,rfl,?_⟩
  rw[hw u (List.mem_of_getElem? e1)]
  walk_at "wp"
  rw[hW]
  exact⟨_,_,_,rfl,rfl⟩
 ·rw[hW] at z
  refine L2.put_away fun G'2042 h'2042=>?_
  obtain⟨o1,o2,o3,rfl,rfl⟩:=z
  refine h'2042 ?_
  walk_at "wp"
  exact⟨_,_,rfl,.inl hS,q⟩
noncomputable def TxOk (l:List Nat):Prop:=l.length<=100000/\∀c∈l,c<128
theorem TxOk.asc {l:List Nat} (h:TxOk l):Asc (tx l):=y8Y.mpr h.2
theorem y8V (c:Nat):(!(Builtin.Str.occurrences (Str.ofString "0123456789") ⟨#[c]⟩ 0 (Str.ofString "0123456789").length 1).isEmpty)=figB c:=by
 rw[StrLaws.found_one]
 have el:(Str.ofString "0123456789").cps.toList=[48,49,50,51,52,53,54,55,56,57]:=by decide +kernel
 rw[el]
 unfold figB
 rw[decide_eq_decide]
 simp
 omega
theorem y2c:Str.ofString "0" = ⟨#[48]⟩:=by decide +kernel
theorem y6q {c d:Nat}:(⟨#[c]⟩:Str)=⟨#[d]⟩ ↔ c=d:=by
 constructor
 ·intro h
  injection h with h
  injection h with h
  simpa using h
 ·rintro rfl
  rfl
noncomputable def figM (m:Nat) (l:List Nat):Bool:=decide (1<=l.length) && (decide (l.length<=m) && (!(decide (l[0]?=some 48) && decide (1<l.length)) && l.all figB))
noncomputable def z3G:Sp:=fun vs H Q _=>∃(l:List Nat) (m:Nat),vs=[.str (tx l),.int (m:Int)]/\TxOk l/\∀H',Same H H'->Q (.bl (figM m l)) H'
theorem z8A (T:TF K mg "is_figures" z2z) (m_len:mg "len" = none) (m_all:mg "all" = none) (c_FIGURES:CS mg "FIGURES" "0123456789"):Has P w K mg base 1 "is_figures" ["text", "most"] z3G:=by
 refine T.has z7S (fun _ _ _ _ _ _=>L2.bnd2 fun _ _=>rfl) (fun vs H Q E h=>?_) (fun f cdv A outer s H vs Q E hr h=>?_)
 ·refine L2.put_away fun G'2171 h'2171=>?_
  obtain⟨l,m,rfl,_⟩:=h
  refine h'2171 ?_
  rfl
 refine L2.put_away fun G'2173 h'2173=>?_
 obtain⟨l,m,rfl,hl,q⟩:=h
 refine h'2173 ?_
 refine⟨_,(z0B (z1P (ps_if (PW.pt (pw_or (z0L op_lt (z0M z0w rfl m_len PySem.boot_len (z0A (pv 0) z0C)) z0E (z0T _)) (z6g (z0L op_gt (z0M z0w rfl m_len PySem.boot_len (z0A (pv 0) z0C)) (pv 1) (z0T _))))) (z0D (z0I pe_bl)) z0K)) (z0B (z1P (ps_if (PW.pt (y3S (z0L op_eq (pe_ix y6X (pv 0) z0E (fun _ _=>rfl)) z0N (z0T _)) (y0K (z0L op_gt (z0M z0w rfl m_len PySem.boot_len (z0A (pv 0) z0C)) z0E (z0T _))))) (z0D (z0I pe_bl)) z0K)) (z0D (z0I (z0M (z4G rfl) rfl m_all (by decide +kernel) (z0A (z1F (CompSc.none (own:=["sign"]) (by decide +kernel) (by decide +kernel) rfl (by decide +kernel)) rfl (y6S (pv 0)) (fun _ _ _=>(z0S (i:=0) (show (["sign"]:List Str).Nodup from by decide +kernel) rfl (Or.inl rfl) (Or.inr rfl))) (fun _ _ _=>z0v) (fun _ _ _=>(z2h z5h (pv 0) (pe_cs rfl c_FIGURES) rfl))) z0C)))))),?_⟩
 have ln:=hl.1
 have tl:=z0V l
 have no:figM m l=false->Q (.bl false) H:=fun e=>by
  have:=q H (Same.refl H)
  rw[e] at this
  exact this
 walk_at "wp"
 refine⟨fun σ H'=>σ=[some (.str (tx l)),some (.int (m:Int))]/\H'=H/\1<=l.length/\l.length<=m,?_,?_⟩
 ·walk_at "wp"
  refine⟨_,rfl,by omega,fun c=>no (by unfold figM;rw[decide_eq_false (by omega)];rfl),fun c=>⟨_,rfl,by omega,fun c2=>no (by unfold figM;rw[decide_eq_false (p:=l.length<=m) (by omega)];simp),fun c2=>⟨by omega,by omega⟩⟩⟩
 rintro σ H' ⟨rfl,rfl,l1,l2⟩
 walk_at "wp"
 refine⟨fun σ H2=>σ=[some (.str (tx l)),some (.int (m:Int))]/\H2=H'/\¬(l[0]?=some 48/\1<l.length),?_,?_⟩
 ·walk_at "wp"
  obtain⟨c0,r0,e0⟩:∃c r,l=c::r:=by
   cases l with
   | nil=>simp at l1
   | cons c r=>exact⟨c,r,rfl⟩
  refine⟨_,_,c0,rfl,rfl,by rw[tl];show _<=16777216;omega,by rw[z0a,e0];exact z0X (j:=0) rfl,rfl,_,rfl,fun z0=>⟨_,rfl,by omega,fun c=>?_,fun c=>?_⟩,fun z0=>?_⟩
  ·have z1:=V.str.inj (of_decide_eq_true z0)
   rw[y2c,y6q] at z1
   refine no ?_
   unfold figM
   rw[decide_eq_true (p:=l[0]?=some 48) (by rw[e0,z1];rfl),decide_eq_true (p:=1<l.length) (by omega)]
   simp
  ·exact⟨rfl,fun z=>c (by omega)⟩
  ·refine⟨rfl,fun z=>z0 (decide_eq_true ?_)⟩
   have:=z.1
   rw[e0] at this
   have e1:c0=48:=by simpa using this
   rw[y2c,e1]
 rintro σ H2 ⟨rfl,rfl,l3⟩
 walk_at "wp"
 refine⟨_,rfl,hl.asc,?_⟩
 obtain⟨Sv,hSv⟩:∃Sv:St->Prop,Sv=fun σ=>∃o1,σ=[o1]:=⟨_,rfl⟩
 obtain⟨Pv,hPv⟩:∃Pv:Addr->Nat->List V->Hp->Prop,Pv=fun D i ys H3=>H2 D=none/\Same H2 H3/\ys=((l.take i).map figB).map V.bl:=⟨_,rfl⟩
 refine z9S Sv Pv (by rw[hSv];exact⟨none,rfl⟩) (fun D hD=>?_) (fun D i c ys σ H3 hx hs hD hy h=>?_) (fun D ys H3 hD h=>?_)
 ·rw[hPv]
  exact⟨hD,z0H hD _,rfl⟩
 ·rw[hSv] at hs
  rw[hPv] at h
  obtain⟨o1,rfl⟩:=hs
  refine L2.put_away fun G'2217 h'2217=>?_
  obtain⟨nD,g,rfl⟩:=h
  refine h'2217 ?_
  have hx':l[i]?=some c:=by
   rw[←z0a l,Array.getElem?_toList]
   exact hx
  have hi:=(List.getElem?_eq_some_iff.mp hx').1
  walk_at "wp"
  refine⟨_,_,rfl,rfl,?_⟩
  rw[y8V]
  refine CompP.mk hD hy (by rw[sizeLine_eq];omega) (by rw[hSv];exact⟨_,rfl⟩) (by
   rw[hPv]
   refine⟨nD,g.write nD _,?_⟩
   rw[List.take_add_one,hx']
   simp)
 ·rw[hPv] at h
  refine L2.put_away fun G'2231 h'2231=>?_
  obtain⟨nD,g,rfl⟩:=h
  refine h'2231 ?_
  have es:(tx l).cps.size=l.length:=tl
  rw[es,List.take_length] at hD
  refine⟨D,_,rfl,SqL.of hD,?_⟩
  have ef:(l.map figB).all id=figM m l:=by
   unfold figM
   have n3:(decide (l[0]?=some 48) && decide (1<l.length))=false:=by
    rw[Bool.and_eq_false_iff]
    by_cases c:l[0]?=some 48
    ·exact .inr (decide_eq_false fun z=>l3 ⟨c,z⟩)
    ·exact .inl (decide_eq_false c)
   rw[decide_eq_true l1,decide_eq_true l2,n3,List.all_map]
   rfl
  rw[ef]
  exact q _ g
noncomputable def inL:List Nat:=[105,110,32]
noncomputable def byL:List Nat:=[98,121,32]
noncomputable def opL:List Nat:=[32,40]
noncomputable def cmL:List Nat:=[44,32]
noncomputable def clL:List Nat:=[41]
mutual
noncomputable def ptx:Pap->List Nat
 | .inn k=>inL++dg k
 | .par b ps=>byL++(dg b++(opL++(ptxs ps++clL)))
noncomputable def ptxs:List Pap->List Nat
 | []=>[]
 | p::ps=>ptx p++ptxr ps
noncomputable def ptxr:List Pap->List Nat
 | []=>[]
 | p::ps=>cmL++(ptx p++ptxr ps)
end
mutual
noncomputable def nums:Pap->List Int
 | .inn k=>[k]
 | .par b ps=>b::numss ps
noncomputable def numss:List Pap->List Int
 | []=>[]
 | p::ps=>nums p++numss ps
end
noncomputable def POk (p:Pap):Prop:=∀n∈nums p,DgOk n
noncomputable def POks (ps:List Pap):Prop:=∀n∈numss ps,DgOk n
theorem POks.cons {p:Pap} {ps:List Pap} (h:POks (p::ps)):POk p/\POks ps:=by
 unfold POks numss at h
 exact⟨fun n hn=>h n (by simp [hn]),fun n hn=>h n (by simp [hn])⟩
theorem POk.par {b:Int} {ps:List Pap} (h:POk (.par b ps)):DgOk b/\POks ps:=by
 unfold POk nums at h
 exact⟨h b (by simp),fun n hn=>h n (by simp [hn])⟩
theorem POk.inn {k:Int} (h:POk (.inn k)):DgOk k:=h k (by simp [nums])
theorem POks.mem:∀ {ps:List Pap},POks ps->∀p∈ps,POk p
 | _::_,h,q,hq=>by
  rcases List.mem_cons.mp hq with rfl|hq
  ·exact h.cons.1
  ·exact POks.mem h.cons.2 q hq
mutual
theorem z3A:∀(p:Pap),POk p->(ptx p).length+2<=112*p.kn
 | .inn k,h=>by
  have:=h.inn.len
  simp only [ptx,Pap.kn,List.length_append,inL,List.length_cons,List.length_nil]
  omega
 | .par b ps,h=>by
  have h1:=h.par.1.len
  have h2:=z7U ps h.par.2
  simp only [ptx,Pap.kn,List.length_append,byL,opL,clL,List.length_cons,List.length_nil]
  omega
theorem z7U:∀(ps:List Pap),POks ps->(ptxs ps).length<=112*Pap.kns ps
 | [],_=>by simp [ptxs]
 | p::ps,h=>by
  have h1:=z3A p h.cons.1
  have h2:=y1Y ps h.cons.2
  simp only [ptxs,Pap.kns,List.length_append]
  omega
theorem y1Y:∀(ps:List Pap),POks ps->(ptxr ps).length<=112*Pap.kns ps
 | [],_=>by simp [ptxr]
 | p::ps,h=>by
  have h1:=z3A p h.cons.1
  have h2:=y1Y ps h.cons.2
  simp only [ptxr,Pap.kns,List.length_append,cmL,List.length_cons,List.length_nil]
  omega
end
theorem z8v:∀ps:List Pap,ptxr ps=ps.flatMap fun p=>cmL++ptx p
 | []=>rfl
 | p::ps=>by
  simp only [ptxr,List.flatMap_cons,z8v ps,List.append_assoc]
theorem y1l:∀ps:List Pap,Builtin.Str.glued (tx cmL) (ps.map fun p=>tx (ptx p))=tx (ptxs ps)
 | []=>by
  apply z5E
  simp [Builtin.Str.glued,ptxs,Str.empty,tx]
 | p::ps=>by
  apply z5E
  show (((ps.map fun p=>tx (ptx p)).foldl (fun acc q=>acc++(tx cmL).cps++q.cps) (tx (ptx p)).cps)).toList=_
  rw[z4X,z0a,z0a,z0a]
  simp only [ptxs,z8v,List.flatMap_map,z0a]
theorem y6Z:Str.ofString "in " = tx inL:=by decide +kernel
theorem y6f:Str.ofString "by " = tx byL:=by decide +kernel
theorem y6W:Str.ofString " (" = tx opL:=by decide +kernel
theorem y6d:Str.ofString ", " = tx cmL:=by decide +kernel
theorem y4o:Str.ofString ")" = tx clL:=by decide +kernel
theorem z1H (k l:List Nat):tx k++tx l=tx (k++l):=by
 apply z5E
 rw[y6p,z0a,z0a,z0a]
theorem y0x (l y:List Nat) (i:Nat) (hy:y.length≠0):(decide (i+(tx y).length<=(tx l).length) && Builtin.Str.subAt (tx l) (tx y) i)=decide ((l.drop i).take y.length=y):=by
 rw[z0V,z0V]
 have e:Builtin.Str.subAt (tx l) (tx y) i=decide ((l.drop i).take y.length=y):=by
  unfold Builtin.Str.subAt
  rw[Bool.eq_iff_iff,decide_eq_true_eq,beq_iff_eq,←Array.toList_inj,Array.toList_extract,List.extract_eq_take_drop]
  have e1:i+(tx y).length-i=y.length:=by rw[z0V];omega
  rw[e1]
  show (List.take y.length (List.drop i (tx l).cps.toList))=(tx y).cps.toList ↔ _
  rw[z0a,z0a]
 rw[e]
 by_cases c:(l.drop i).take y.length=y
 ·rw[decide_eq_true c,Bool.and_true,decide_eq_true_eq]
  have:=congrArg List.length c
  rw[List.length_take,List.length_drop] at this
  omega
 ·rw[decide_eq_false c,Bool.and_false]
theorem z4t {l:List Nat} {i j:Nat} (h:i<=j) (hj:j<=l.length):Txt.slice (tx l) (some (i:Int)) (some (j:Int))=tx ((l.drop i).take (j-i)):=by
 have:=beq_iff_eq.mp (PyProof.Rows.slice_closesL (x:=tx l) (i:=i) (j:=j) (by omega) (by omega) (by rw[z0V];omega))
 rw[this,z0a]
 have e:((j:Int)-(i:Int)).toNat=j-i:=by omega
 rw[Int.toNat_natCast,e]
 rfl
theorem tx_ne {k l:List Nat}:(tx k=tx l) ↔ k=l:=by
 constructor
 ·intro h
  have:(tx k).cps.toList=(tx l).cps.toList:=by rw[h]
  rwa [z0a,z0a] at this
 ·rintro rfl
  rfl
theorem eqT {l k:List Nat} {H:Hp} {Q:VK} (q:Q (.bl (decide (l=k))) H):rEq (.str (tx l)) (.str (tx k)) H Q:=by
 refine⟨rfl,?_⟩
 have:decide (V.str (tx l)=V.str (tx k))=decide (l=k):=decide_eq_decide.mpr ⟨fun h=>tx_ne.mp (V.str.inj h),fun h=>by rw[h]⟩
 rw[this]
 exact q
theorem neT {l k:List Nat} {H:Hp} {Q:VK} (q:Q (.bl (!decide (l=k))) H):rNe (.str (tx l)) (.str (tx k)) H Q:=by
 refine⟨rfl,?_⟩
 have:decide (V.str (tx l)=V.str (tx k))=decide (l=k):=decide_eq_decide.mpr ⟨fun h=>tx_ne.mp (V.str.inj h),fun h=>by rw[h]⟩
 rw[this]
 exact q
theorem eqS {y z:Str} {H:Hp} {Q:VK} (q:Q (.bl (decide (y=z))) H):rEq (.str y) (.str z) H Q:=by
 refine⟨rfl,?_⟩
 have:decide (V.str y=V.str z)=decide (y=z):=decide_eq_decide.mpr ⟨fun h=>V.str.inj h,fun h=>by rw[h]⟩
 rw[this]
 exact q
theorem z6Z {l:List Nat} {i:Nat} (hi:i<=l.length):Txt.slice (tx l) (some (i:Int)) none=tx (l.drop i):=by
 have a:¬((l.length:Int)<0):=by omega
 have e:Txt.slice (tx l) (some (i:Int)) none=Txt.slice (tx l) (some (i:Int)) (some (l.length:Int)):=by
  show StrLaws.sliceText _ _ _=StrLaws.sliceText _ _ _
  unfold StrLaws.sliceText
  rw[z0V]
  simp [Builtin.Str.strSliceIndices,a]
 rw[e,z4t hi (Nat.le_refl _),List.take_of_length_le (by rw[List.length_drop];omega)]
local macro_rules | `(tactic| walk_at "wpd")=>`(tactic| try simp only [z9g,y0w,y1j,y0v,y2s,z6O,y1S,z8Y,y6M,z9o,z9u,z8D,z9i,z6x,z7A,z5C,z7H,z7G,tC_ap,y2k,y2j,y2o,y2l,y3R,rI_ap,rU_ap,y0J,y0I,z6w,tB_ap,ex_bl,y4X,y4Y,z9v,y2n,z9l,z7L,z9k,z6z,y2q,z9m,z7I,z9f,z9n,z7K,y2u,z5B,z9j,y4W,z9t,y3y,y2m,z4I,z6y,y2v,z9s,z6v,y0o,z8E,y0p,z9p,z7k,z7j,z7h,z7i,z7g,z7l,z9h,z7m,y0X,y0Z,y0W,z7f,z7n,z5o,y0Y,z9q,y0T,z7c,z7F,z9r,y0H,z4R,z7C,z7E,z3X,z7B,z7D,z7J,y0U,L2.start,y4g,z8K,z5y,List.map_cons,List.map_nil,List.length_cons,List.length_nil,List.replicate,List.cons_append,List.nil_append,List.append_nil,List.set_cons_zero,List.set_cons_succ,decide_eq_true_eq,Bool.not_eq_true',decide_eq_false_iff_not,Bool.not_eq_eq_eq_not,Bool.not_true,Bool.not_false,sizeLine_eq,oV,reduceCtorEq,y3v,y3w,y3u,y3x,Nat.reduceAdd,Nat.reduceSub,Nat.reduceLeDiff,Nat.zero_add,true_and,and_true,forall_const,Bool.false_eq_true,if_true,if_false,false_implies,true_implies,not_false_eq_true,not_true_eq_false,implies_true])
noncomputable def ltB (c:Nat):Bool:=decide (97<=c/\c<=122)
noncomputable def nmB (l:List Nat):Bool:=decide (1<=l.length) && (decide (l.length<=8) && l.all ltB)
noncomputable def turnB (l:List Nat):Bool:=if l.take 1=[45] then !decide (l=[45,48]) && figsB (l.drop 1) else figsB l
noncomputable def fitB (p:Str) (l:List Nat):Bool:=if p = "name" then nmB l else if p = "turn" then turnB l else if p = "prime" then figM 12 l else if p = "number" then figM 50 l else true
theorem y8L (c:Nat):(!(Builtin.Str.occurrences (Str.ofString "abcdefghijklmnopqrstuvwxyz") ⟨#[c]⟩ 0 (Str.ofString "abcdefghijklmnopqrstuvwxyz").length 1).isEmpty)=ltB c:=by
 rw[StrLaws.found_one]
 have el:(Str.ofString "abcdefghijklmnopqrstuvwxyz").cps.toList=[97,98,99,100,101,102,103,104,105,106,107,108,109,110,111,112,113,114,115,116,117,118,119,120,121,122]:=by decide +kernel
 rw[el]
 unfold ltB
 rw[decide_eq_decide]
 simp
 omega
noncomputable def z6X:Sp:=fun vs H Q _=>∃l:List Nat,vs=[.str (tx l)]/\TxOk l/\∀H',Same H H'->Q (.bl (nmB l)) H'
theorem y4O (T:TF K mg "is_name" z5T) (m_len:mg "len" = none) (m_all:mg "all" = none) (c_LETTERS:CS mg "LETTERS" "abcdefghijklmnopqrstuvwxyz") (c_MOST_LETTERS:CI mg "MOST_LETTERS" 8):Has P w K mg base 1 "is_name" ["word"] z6X:=by
 refine T.has y2G (fun _ _ _ _ _ _=>L2.bnd1 fun _=>rfl) (fun vs H Q E h=>?_) (fun f cdv A outer s H vs Q E hr h=>?_)
 ·refine L2.put_away fun G'2418 h'2418=>?_
  obtain⟨l,rfl,_⟩:=h
  refine h'2418 ?_
  rfl
 refine L2.put_away fun G'2420 h'2420=>?_
 obtain⟨l,rfl,hl,q⟩:=h
 refine h'2420 ?_
 refine⟨_,(z0D (z0I (z5e (z4v op_le op_le z0E (z0M z0w rfl m_len PySem.boot_len (z0A (pv 0) z0C)) (pe_ci rfl c_MOST_LETTERS)) (z6i (z0M (z4G rfl) rfl m_all (by decide +kernel) (z0A (z1F (CompSc.none (own:=["sign"]) (by decide +kernel) (by decide +kernel) rfl (by decide +kernel)) rfl (y6S (pv 0)) (fun _ _ _=>(z0S (i:=0) (show (["sign"]:List Str).Nodup from by decide +kernel) rfl (Or.inl rfl) (Or.inr rfl))) (fun _ _ _=>z0v) (fun _ _ _=>(z2h z5h (pv 0) (pe_cs rfl c_LETTERS) rfl))) z0C)))))),?_⟩
 have ln:=hl.1
 have tl:=z0V l
 walk_at "wp"
 have no:nmB l=false->Q (.bl false) H:=fun e=>by
  have:=q H (Same.refl H)
  rw[e] at this
  exact this
 refine⟨_,rfl,by omega,fun c1=>⟨fun c2=>⟨_,rfl,hl.asc,?_⟩,fun c2=>no ?_⟩,fun c1=>no ?_⟩
 ·obtain⟨Sv,hSv⟩:∃Sv:St->Prop,Sv=fun σ=>∃o1,σ=[o1]:=⟨_,rfl⟩
  obtain⟨Pv,hPv⟩:∃Pv:Addr->Nat->List V->Hp->Prop,Pv=fun D i ys H3=>H D=none/\Same H H3/\ys=((l.take i).map ltB).map V.bl:=⟨_,rfl⟩
  refine z9S Sv Pv (by rw[hSv];exact⟨none,rfl⟩) (fun D hD=>?_) (fun D i c ys σ H3 hx hs hD hy h=>?_) (fun D ys H3 hD h=>?_)
  ·rw[hPv]
   exact⟨hD,z0H hD _,rfl⟩
  ·rw[hSv] at hs
   rw[hPv] at h
   obtain⟨o1,rfl⟩:=hs
   refine L2.put_away fun G'2438 h'2438=>?_
   obtain⟨nD,g,rfl⟩:=h
   refine h'2438 ?_
   have hx':l[i]?=some c:=by
    rw[←z0a l,Array.getElem?_toList]
    exact hx
   have hi:=(List.getElem?_eq_some_iff.mp hx').1
   walk_at "wp"
   refine⟨_,_,rfl,rfl,?_⟩
   rw[y8L]
   refine CompP.mk hD hy (by rw[sizeLine_eq];omega) (by rw[hSv];exact⟨_,rfl⟩) (by
    rw[hPv]
    refine⟨nD,g.write nD _,?_⟩
    rw[List.take_add_one,hx']
    simp)
  ·rw[hPv] at h
   refine L2.put_away fun G'2452 h'2452=>?_
   obtain⟨nD,g,rfl⟩:=h
   refine h'2452 ?_
   have es:(tx l).cps.size=l.length:=tl
   rw[es,List.take_length] at hD
   refine⟨D,_,rfl,SqL.of hD,?_⟩
   have ef:(l.map ltB).all id=nmB l:=by
    unfold nmB
    rw[decide_eq_true (p:=1<=l.length) (by omega),decide_eq_true (p:=l.length<=8) (by omega),List.all_map]
    rfl
   rw[ef]
   exact q _ g
 ·unfold nmB
  rw[decide_eq_false (p:=l.length<=8) (by omega)]
  simp
 ·unfold nmB
  rw[decide_eq_false (p:=1<=l.length) (by omega)]
  simp
noncomputable def z6W:Sp:=fun vs H Q _=>∃l:List Nat,vs=[.str (tx l)]/\TxOk l/\∀H',Same H H'->Q (.bl (turnB l)) H'
theorem y4N (T:TF K mg "is_turn" z5S) (c_MOST_FIGURES:CI mg "MOST_FIGURES" 100) (G_is_figures:Has P w K mg base 1 "is_figures" ["text", "most"] z3G):Has P w K mg base 2 "is_turn" ["word"] z6W:=by
 refine T.has y2F (fun _ _ _ _ _ _=>L2.bnd1 fun _=>rfl) (fun vs H Q E h=>?_) (fun f cdv A outer s H vs Q E hr h=>?_)
 ·refine L2.put_away fun G'2471 h'2471=>?_
  obtain⟨l,rfl,_⟩:=h
  refine h'2471 ?_
  rfl
 refine L2.put_away fun G'2473 h'2473=>?_
 obtain⟨l,rfl,hl,q⟩:=h
 refine h'2473 ?_
 refine⟨_,(z0B (ps_if (z1C (pe_bm PySem.F.plainAttrs_str PySem.F.slot_str_startswith PySem.F.type_str_startswith y3j (pv 0) (z0A z0N z0C)) (fun _=>rfl)) (z0D (z0I (z5e (z2h op_ne (pv 0) z0N (z0T _)) (z6i (z0J (G_is_figures.mono (by first|decide|omega)) hr (z0A (z2G y1P (pv 0) (z1x z0E) z5Y) (z0A (pe_ci rfl c_MOST_FIGURES) z0C))))))) z0K) (z0D (z0I (z0J (G_is_figures.mono (by first|decide|omega)) hr (z0A (pv 0) (z0A (pe_ci rfl c_MOST_FIGURES) z0C)))))),?_⟩
 have ln:=hl.1
 have tl:=z0V l
 walk_at "wp"
 have mT:Str.ofString "-" = tx [45]:=by decide +kernel
 have zT:Str.ofString "-0" = tx [45,48]:=by decide +kernel
 have sb:=y0x l [45] 0 (by decide)
 rw[Nat.zero_add,List.drop_zero] at sb
 refine⟨rfl,_,_,rfl,rfl,fun c=>?_,fun c=>?_⟩
 ·rw[mT,sb,decide_eq_true_eq] at c
  have c':l.take 1=[45]:=c
  have l1:1<=l.length:=by
   have:=congrArg List.length c'
   rw[List.length_take] at this
   simp at this
   omega
  unfold turnB at q
  rw[if_pos c'] at q
  rw[zT]
  refine neT ⟨_,rfl,fun c2=>?_,fun c2=>?_⟩
  ·rw[c2,Bool.true_and] at q
   refine⟨_,rfl,by rw[tl,sizeLine_eq];omega,?_⟩
   have e1:Txt.slice (tx l) (some 1) none=tx (l.drop 1):=z6Z (i:=1) l1
   rw[e1]
   exact⟨l.drop 1,100,rfl,⟨by rw[List.length_drop];omega,fun x hx=>hl.2 x (List.mem_of_mem_drop hx)⟩,q⟩
  ·have c3:(!decide (l=[45,48]))=false:=by simpa using c2
   rw[c3] at q
   exact q H (Same.refl H)
 ·rw[mT,sb,decide_eq_true_eq] at c
  have c':¬l.take 1=[45]:=c
  unfold turnB at q
  rw[if_neg c'] at q
  exact⟨l,100,rfl,hl,q⟩
noncomputable def y3D:Sp:=fun vs H Q _=>∃(p:Str) (l:List Nat),vs=[.str p,.str (tx l)]/\TxOk l/\∀H',Same H H'->Q (.bl (fitB p l)) H'
theorem y8U (T:TF K mg "fits" y3L) (c_PRIME_FIGURES:CI mg "PRIME_FIGURES" 12) (c_GRID_FIGURES:CI mg "GRID_FIGURES" 50) (G_is_figures:Has P w K mg base 1 "is_figures" ["text", "most"] z3G) (G_is_name:Has P w K mg base 1 "is_name" ["word"] z6X) (G_is_turn:Has P w K mg base 2 "is_turn" ["word"] z6W):Has P w K mg base 3 "fits" ["place", "word"] y3D:=by
 refine T.has y6v (fun _ _ _ _ _ _=>L2.bnd2 fun _ _=>rfl) (fun vs H Q E h=>?_) (fun f cdv A outer s H vs Q E hr h=>?_)
 ·refine L2.put_away fun G'2510 h'2510=>?_
  obtain⟨p,l,rfl,_⟩:=h
  refine h'2510 ?_
  rfl
 refine L2.put_away fun G'2512 h'2512=>?_
 obtain⟨p,l,rfl,hl,q⟩:=h
 refine h'2512 ?_
 refine⟨_,(z0B (ps_if (z0L op_eq (pv 0) z0N (z0T _)) (z0D (z0I (z0J (G_is_name.mono (by first|decide|omega)) hr (z0A (pv 1) z0C)))) z0K) (z0B (ps_if (z0L op_eq (pv 0) z0N (z0T _)) (z0D (z0I (z0J (G_is_turn.mono (by first|decide|omega)) hr (z0A (pv 1) z0C)))) z0K) (z0B (ps_if (z0L op_eq (pv 0) z0N (z0T _)) (z0D (z0I (z0J (G_is_figures.mono (by first|decide|omega)) hr (z0A (pv 1) (z0A (pe_ci rfl c_PRIME_FIGURES) z0C))))) z0K) (z0B (ps_if (z0L op_eq (pv 0) z0N (z0T _)) (z0D (z0I (z0J (G_is_figures.mono (by first|decide|omega)) hr (z0A (pv 1) (z0A (pe_ci rfl c_GRID_FIGURES) z0C))))) z0K) (z0D (z0I pe_bl)))))),?_⟩
 walk_at "wp"
 unfold fitB at q
 refine eqS ⟨_,rfl,fun c=>?_,fun c=>?_⟩
 ·rw[if_pos (of_decide_eq_true c)] at q
  exact⟨l,rfl,hl,q⟩
 rw[if_neg (fun z=>c (decide_eq_true z))] at q
 refine eqS ⟨_,rfl,fun c=>?_,fun c=>?_⟩
 ·rw[if_pos (of_decide_eq_true c)] at q
  exact⟨l,rfl,hl,q⟩
 rw[if_neg (fun z=>c (decide_eq_true z))] at q
 refine eqS ⟨_,rfl,fun c=>?_,fun c=>?_⟩
 ·rw[if_pos (of_decide_eq_true c)] at q
  exact⟨l,12,rfl,hl,q⟩
 rw[if_neg (fun z=>c (decide_eq_true z))] at q
 refine eqS ⟨_,rfl,fun c=>?_,fun c=>?_⟩
 ·rw[if_pos (of_decide_eq_true c)] at q
  exact⟨l,50,rfl,hl,q⟩
 rw[if_neg (fun z=>c (decide_eq_true z))] at q
 exact q H (Same.refl H)
noncomputable def z6D:List (Str×List Str):=[("plan",["name", "text"]),("pair",["name", "prime", "prime"]),("grid",["name", "number"]),("awake",["name", "turn"]),("meet",["name", "name", "turn", "turn"]),("sure",["name", "name"]),("worst",["name", "name"]),("check",["name", "name", "text"])]
noncomputable def z9N (l:List Nat):Option (List Str):=z6D.lookup (tx (l.takeWhile (· != 32)))
noncomputable def fitsB:List Str->List (List Nat)->Bool
 | p::ps,w::ws=>fitB p w && fitsB ps ws
 | _,_=>true
noncomputable def rowOf (l:List Nat):Option (List (List Nat)):=match z9N l with
 | none=>none
 | some f=>if (splN 32 l f.length).length=f.length+1/\fitsB f (splN 32 l f.length).tail=true then some (splN 32 l f.length) else none
theorem z1q {z:Str} {ys:List Str}:∀ {tb:List (Str×List Str)},tb.lookup z=some ys->∃k,(k,ys)∈tb
  | [],h=>nomatch h
  | (k,v)::tb,h=>by
    rw[List.lookup_cons] at h
    split at h
    · cases h
      exact⟨k,by simp⟩
    · obtain⟨k',hk⟩:=z1q h
      exact⟨k',by simp [hk]⟩
theorem y4R {z:Str} {f:List Str} (h:z6D.lookup z=some f):f.length<=4:=by
 obtain⟨k,hk⟩:=z1q h
 have all:∀p∈z6D,p.2.length<=4:=by
  intro p hp
  simp only [z6D,List.mem_cons,List.not_mem_nil,or_false] at hp
  rcases hp with rfl|rfl|rfl|rfl|rfl|rfl|rfl|rfl <;> simp
 exact all _ hk
theorem y6E (xs:List V):cutV xs (some 1) none=xs.drop 1:=by
 unfold cutV
 rw[HT.sIx_none,show (1:Int)=((1:Nat):Int) from rfl,HT.sIx_nat]
 cases xs with
 | nil=>rfl
 | cons x xs=>
  rw[List.take_of_length_le (by rw[List.length_drop];omega)]
  congr 1
noncomputable def z5F (N:Addr):Sp:=fun vs H Q E=>∃l:List Nat,vs=[.str (tx l)]/\TxOk l/\(rowOf l=none->∀x H',Same H H'->H' x=none->E (.ref N) (some x) H')/\∀ws D H',rowOf l=some ws->Same H H'->H D=none->H' D=some (.lst ((ws.map tx).map V.str))->Q (.ref D) H'
theorem y2R {c_NoRow:Addr} {bm:List Value} (T:TF K mg "words_of" z4M) (m_len:mg "len" = none) (m_zip:mg "zip" = none) (m_isinstance:mg "isinstance" = none) (m_str:mg "str" = none) (O_NoRow:OX K mg "NoRow" c_NoRow bm) (D_FORMS:CDT P w K mg "FORMS" z6D) (G_fits:Has P w K mg base 3 "fits" ["place", "word"] y3D):HasX P w K mg base 4 "words_of" ["row"] (z5F c_NoRow):=by
 refine T.hasX z1s (fun _ _ _ _ _ _=>L2.bnd1 fun _=>rfl) (fun vs H Q E h=>?_) (fun f cdv A outer s H vs Q E hr h=>?_)
 ·refine L2.put_away fun G'2568 h'2568=>?_
  obtain⟨l,rfl,_⟩:=h
  refine h'2568 ?_
  rfl
 refine L2.put_away fun G'2570 h'2570=>?_
 obtain⟨l,rfl,hl,qx,q⟩:=h
 refine h'2570 ?_
 refine⟨_,(z0B (ps_if (z2F (z1C (z0M z8O rfl m_isinstance (by decide +kernel) (z0A (pv 0) (z0A (y0M (v:=.ty "str") rfl m_str (by decide +kernel) rfl) z0C))) (fun _=>rfl))) (z0D (z2g O_NoRow rfl z5A (z0A z0N z0C))) z0K) (z0B (z0P (i:=1) z1s.nd rfl (Or.inl rfl) (y7I D_FORMS rfl (pe_ix z0R (pe_bm PySem.F.plainAttrs_str PySem.F.slot_str_partition PySem.F.type_str_partition z4i (pv 0) (z0A z0N z0C)) z0E (fun _ _=>rfl)) ⟨rfl,rfl,rfl,rfl⟩)) (z0B (ps_if (z0L y6U (pv 1) z6j (z0T _)) (z0D (z2g O_NoRow rfl z5A (z0A z0N z0C))) z0K) (z0B (z0P (i:=2) z1s.nd rfl (Or.inl rfl) (pe_bm PySem.F.plainAttrs_str PySem.F.slot_str_split PySem.F.type_str_split y3k (pv 0) (z0A z0N (z0A (z0M z0Q rfl m_len PySem.boot_len (z0A (pv 1) z0C)) z0C)))) (z0B (ps_if (z0L op_ne (z0M z0Q rfl m_len PySem.boot_len (z0A (pv 2) z0C)) (pe_op z1M (z0M z0Q rfl m_len PySem.boot_len (z0A (pv 1) z0C)) z0E) (z0T _)) (z0D (z2g O_NoRow rfl z5A (z0A z0N z0C))) z0K) (z0B (z1P (z1S y8J rfl (y7A rfl m_zip (pv 1) (z2G z9z (pv 2) (z1x z0E) z5Y)) (z9A rfl (z0y (z0S (i:=3) z1s.nd rfl (Or.inl rfl)) (z0y (z0S (i:=4) z1s.nd rfl (Or.inl rfl)) z5a))) (z0D (ps_if (z2F (z1C (z0J (G_fits.mono (by first|decide|omega)) hr (z0A (pv 3) (z0A (pv 4) z0C))) (fun _=>rfl))) (z0D (z2g O_NoRow rfl z5A (z0A z0N z0C))) z0K)))) (z0D (z0I (pv 2))))))))),?_⟩
 have ln:=hl.1
 have tl:=z0V l
 walk_at "wpd"
 refine⟨_,_,_,true,rfl,.str _,rfl,_,rfl,(fun c=>nomatch c),fun _=>?_⟩
 walk_at "wpd"
 rw[y1t]
 refine⟨rfl,_,_,rfl,rfl,rfl,by rw[tl];omega,fun D nD=>?_⟩
 have gD:=z0H nD (.tup [V.str (Txt.partition (tx l) ⟨#[32]⟩).1,V.str (Txt.partition (tx l) ⟨#[32]⟩).2.1,V.str (Txt.partition (tx l) ⟨#[32]⟩).2.2])
 refine⟨D,_,_,_,rfl,rfl,SqT.of z0F,rfl,_,rfl,?_⟩
 generalize upd H D (.tup [V.str (Txt.partition (tx l) ⟨#[32]⟩).1,V.str (Txt.partition (tx l) ⟨#[32]⟩).2.1,V.str (Txt.partition (tx l) ⟨#[32]⟩).2.2])=H1 at gD ⊢
 rw[z9B,z0a]
 refine⟨fun e=>⟨by decide,fun x hx=>qx ?_ x H1 gD hx⟩,fun f b e hf=>?_⟩
 ·unfold rowOf z9N
  rw[e]
 have lf:=y4R e
 have er:rowOf l=if (splN 32 l f.length).length=f.length+1/\fitsB f (splN 32 l f.length).tail=true then some (splN 32 l f.length) else none:=by
  unfold rowOf z9N
  rw[e]
 refine⟨rfl,b,_,rfl,.inr hf,_,_,f.length,rfl,by rw[List.length_map],rfl,by omega,by rw[tl];omega,fun D2 nD2=>?_⟩
 rw[z8a _ _ _ (by decide),z0a]
 have wsm:∀w∈splN 32 l f.length,TxOk w:=fun w hw=>by
  obtain⟨a,b⟩:=z4J hw
  exact⟨by omega,fun x hx=>hl.2 x (b x hx)⟩
 generalize splN 32 l f.length=ws at er wsm
 have g2:=z0H nD2 (.lst ((ws.map tx).map V.str))
 have h2:=z0F (H:=H1) (a:=D2) (o:=.lst ((ws.map tx).map V.str))
 have nD2':=gD.free nD2
 have hf2:=g2.seqT hf
 have G2:=gD.trans g2
 generalize upd H1 D2 (.lst ((ws.map tx).map V.str))=H2 at g2 h2 hf2 G2 ⊢
 refine⟨D2,_,rfl,.inl (SqL.of h2),b,_,rfl,.inr hf2,fun c=>⟨by decide,fun x hx=>qx ?_ x H2 G2 hx⟩,fun c=>?_⟩
 ·rw[er,if_neg fun z=>c ?_]
  simp only [List.length_map]
  have:=z.1
  omega
 simp only [List.length_map] at c
 have lw:ws.length=f.length+1:=by omega
 walk_at "wpd"
 refine⟨fun σ H'=>∃o3 o4,σ=[some (.str (tx l)),some (.ref b),some (.ref D2),o3,o4]/\Same H2 H'/\fitsB f ws.tail=true,?_,?_⟩
 ·walk_at "wpd"
  refine⟨D2,_,rfl,SqL.of h2,fun p3 n3=>?_⟩
  rw[y6E]
  have g3:=z0H n3 (.lst (((ws.map tx).map V.str).drop 1))
  have h3:=z0F (H:=H2) (a:=p3) (o:=.lst (((ws.map tx).map V.str).drop 1))
  have hf3:=g3.seqT hf2
  generalize upd H2 p3 (.lst (((ws.map tx).map V.str).drop 1))=H3 at g3 h3 hf3 ⊢
  refine⟨b,p3,_,_,rfl,rfl,hf3,SqL.of h3,?_⟩
  obtain⟨Pv,hPv⟩:∃Pv:Nat->St->Hp->Prop,Pv=fun i σ H'=>∃o3 o4,σ=[some (.str (tx l)),some (.ref b),some (.ref D2),o3,o4]/\Same H3 H'/\fitsB f ws.tail=fitsB (f.drop i) (ws.tail.drop i):=⟨_,rfl⟩
  refine y4T Pv ?_ (fun i σ H' h=>?_) (fun i u v T σ H' hu hv nT h=>?_) (fun σ H' h=>?_)
  ·rw[hPv]
   exact⟨none,none,rfl,Same.refl _,rfl⟩
  ·rw[hPv] at h
   refine L2.put_away fun G'2624 h'2624=>?_
   obtain⟨_,_,_,g,_⟩:=h
   refine h'2624 ?_
   exact⟨g.seqT hf3,SqL.of (g _ _ h3)⟩
  ·rw[hPv] at h
   refine L2.put_away fun G'2627 h'2627=>?_
   obtain⟨o3,o4,rfl,g,ef⟩:=h
   refine h'2627 ?_
   rw[List.getElem?_map] at hu
   refine L2.put_away fun G'2629 h'2629=>?_
   obtain⟨p,hp,rfl⟩:=Option.map_eq_some_iff.mp hu
   refine h'2629 ?_
   rw[←List.map_drop,←List.map_drop,List.getElem?_map,List.getElem?_map] at hv
   refine L2.put_away fun G'2631 h'2631=>?_
   obtain⟨z,hz,rfl⟩:=Option.map_eq_some_iff.mp hv
   refine h'2631 ?_
   refine L2.put_away fun G'2632 h'2632=>?_
   obtain⟨wd,hwd,rfl⟩:=Option.map_eq_some_iff.mp hz
   refine h'2632 ?_
   have gT:=z0H nT (.tup [V.str p,V.str (tx wd)])
   refine⟨T,_,rfl,SqT.of z0F,rfl,?_⟩
   walk_at "wpd"
   have fd:f.drop i=p::f.drop (i+1):=by
    obtain⟨hi,e1⟩:=List.getElem?_eq_some_iff.mp hp
    rw[←e1,List.drop_eq_getElem_cons hi]
   have wd2:ws.tail.drop i=wd::ws.tail.drop (i+1):=by
    rw[←List.drop_one]
    obtain⟨hi,e1⟩:=List.getElem?_eq_some_iff.mp hwd
    rw[←e1,List.drop_eq_getElem_cons hi]
   rw[fd,wd2] at ef
   have ef2:fitsB f ws.tail=(fitB p wd && fitsB (f.drop (i+1)) (ws.tail.drop (i+1))):=ef
   refine⟨p,wd,rfl,wsm wd (List.mem_of_mem_drop (List.mem_of_getElem? hwd)),fun H5 g5=>⟨_,rfl,fun c=>⟨by decide,fun x hx=>qx ?_ x H5 (G2.trans (g3.trans (g.trans (gT.trans g5)))) hx⟩,fun c=>?_⟩⟩
   ·rw[er,if_neg]
    rintro⟨_,z⟩
    rw[ef2,c] at z
    cases z
   ·have c':fitB p wd=true:=by simpa using c
    rw[c',Bool.true_and] at ef2
    rw[hPv]
    exact⟨_,_,rfl,g.trans (gT.trans g5),ef2⟩
  ·rw[hPv] at h
   refine L2.put_away fun G'2655 h'2655=>?_
   obtain⟨o3,o4,rfl,g,ef⟩:=h
   refine h'2655 ?_
   have e0:f.drop (min (f.map V.str).length (((ws.map tx).map V.str).drop 1).length)=[]:=List.drop_eq_nil_of_le (by simp;omega)
   rw[e0] at ef
   exact⟨o3,o4,rfl,g3.trans g,by rw[ef];rfl⟩
 rintro σ H' ⟨o3,o4,rfl,g,ef⟩
 walk_at "wpd"
 exact q ws D2 H' (by rw[er,if_pos ⟨lw,ef⟩]) (G2.trans g) nD2' (g _ _ h2)
noncomputable abbrev Book:=Str->Option (List T3)
noncomputable def KpP (ws:List T3):Prop:=(∀u∈ws,Wk u)/\(∀u∈ws,u.1<2^900)/\ws.length<=12
noncomputable def BkAt (H:Hp) (kvs:List (Key×V)) (L:Book):Prop:=∀z:Str,(L z=none->valV kvs (.inr z)=none)/\∀ws,L z=some ws->KpP ws/\∃D xs,valV kvs (.inr z)=some (.ref D)/\H D=some (.lst xs)/\Pl H xs ws
noncomputable def OffD (pd:Addr) (H H':Hp):Prop:=∀b o,b≠pd->H b=some o->H' b=some o
theorem pl_by {H H':Hp} {xs:List V} {ws:List T3} (h:Pl H xs ws) (k:∀b ys,H b=some (.tup ys)->H' b=some (.tup ys)):Pl H' xs ws:=⟨h.1,fun i t e=>let ⟨p,e1,e2⟩:=h.2 i t e;⟨p,e1,k _ _ e2⟩⟩
theorem BkAt.by {H H':Hp} {kvs:List (Key×V)} {L:Book} (h:BkAt H kvs L) (k1:∀b xs,H b=some (.lst xs)->H' b=some (.lst xs)) (k2:∀b ys,H b=some (.tup ys)->H' b=some (.tup ys)):BkAt H' kvs L:=fun z=>
 ⟨(h z).1,fun ws e=>let ⟨a,D,xs,e1,e2,e3⟩:=(h z).2 ws e;⟨a,D,xs,e1,k1 _ _ e2,pl_by e3 k2⟩⟩
noncomputable def setB (L:Book) (z:Str) (ws:List T3):Book:=fun y=>if y=z then some ws else L y
theorem BkAt.put {H:Hp} {kvs:List (Key×V)} {L:Book} {z:Str} {D:Addr} {xs:List V} {ws:List T3} (h:BkAt H kvs L) (hk:KpP ws) (hD:H D=some (.lst xs)) (hP:Pl H xs ws):BkAt H (putK kvs (.inr z) (.ref D)) (setB L z ws):=by
 intro y
 rw[y4z]
 unfold setB
 by_cases e:y=z
 ·rw[if_pos e,if_pos (by rw[e])]
  refine⟨(fun k=>nomatch k),fun us k=>?_⟩
  cases k
  exact⟨hk,D,xs,rfl,hD,hP⟩
 ·rw[if_neg e,if_neg (fun k=>e (Sum.inr.inj k))]
  exact h y
noncomputable def Dsk (C:Addr) (H:Hp) (d pd:Addr) (n:Nat) (L:Book):Prop:=(∃dx,H d=some (.ins C dx [("plans",.ref pd)]))/\∃kvs,H pd=some (.dK kvs)/\kvs.length<=n/\BkAt H kvs L
theorem Dsk.same {C:Addr} {H H':Hp} {d pd:Addr} {n:Nat} {L:Book} (h:Dsk C H d pd n L) (g:Same H H'):Dsk C H' d pd n L:=by
 refine L2.put_away fun G'2688 h'2688=>?_
 obtain⟨⟨dx,hd⟩,kvs,hp,hl,hb⟩:=h
 refine h'2688 ?_
 exact⟨⟨dx,g _ _ hd⟩,kvs,g _ _ hp,hl,hb.by (fun b xs e=>g _ _ e) fun b xs e=>g _ _ e⟩
structure DkTx (K:PySem.W.Frag) (C:Addr):Prop where
 cl:Cls K C
 nP:NoAttr K C "plans"
noncomputable def y1L (C:Addr):Sp:=fun vs H Q _=>∃(x dx:Addr),vs=[.ref x]/\H x=some (.ins C dx [])/\∀pd H',Dsk C H' x pd 0 (fun _=>none)->H pd=none->(∀b o,b≠x->H b=some o->H' b=some o)->Q .non H'
theorem y7W {C:Addr} (X:DkTx K C) (T:TM K C "__init__" "Desk.__init__" z1w):HasM P w K mg base 1 C "__init__" ["self"] (y1L C):=by
 refine T.has z4p (fun _ _ _ _ _ _=>L2.bnd1 fun _=>rfl) (fun vs H Q E h=>?_) (fun f cdv A outer s H vs Q E hr h=>?_)
 ·refine L2.put_away fun G'2696 h'2696=>?_
  obtain⟨x,dx,rfl,_⟩:=h
  refine h'2696 ?_
  rfl
 refine L2.put_away fun G'2698 h'2698=>?_
 obtain⟨x,dx,rfl,hx,q⟩:=h
 refine h'2698 ?_
 refine⟨_,(z0D (y3V (pv 0) y5V rfl)),?_⟩
 walk_at "wpd"
 intro p np
 have nx:x≠p:=z0O hx np
 have gp:=z0H np (.dK [])
 refine⟨x,C,dx,[],rfl,gp _ _ hx,X.cl,X.nP,by decide,q p _ ⟨⟨dx,z0F⟩,[],by rw[z0U (Ne.symm nx),z0F],Nat.le_refl _,fun z=>⟨fun _=>rfl,fun ws e=>nomatch e⟩⟩ np fun b o hb e=>?_⟩
 rw[z0U hb]
 exact gp _ _ e
noncomputable def z6S (K:PySem.W.Frag) (C N:Addr):Sp:=fun vs H Q E=>∃(d pd:Addr) (z:Str) (n:Nat) (L:Book),vs=[.ref d,.str z]/\Dsk C H d pd n L/\(L z=none->∀x,H x=none->E (.ref N) (some x) H)/\∀ws D xs,L z=some ws->KpP ws->H D=some (.lst xs)->Pl H xs ws->Q (.ref D) H
theorem y4I {C c_NoName:Addr} {bm:List Value} (X:DkTx K C) (T:TM K C "plan_by" "Desk.plan_by" z2M) (O_NoName:OX K mg "NoName" c_NoName bm):HasMX P w K mg base 1 C "plan_by" ["self", "name"] (z6S K C c_NoName):=by
 refine T.hasX z5M (fun _ _ _ _ _ _=>L2.bnd2 fun _ _=>rfl) (fun vs H Q E h=>?_) (fun f cdv A outer s H vs Q E hr h=>?_)
 ·refine L2.put_away fun G'2710 h'2710=>?_
  obtain⟨d,pd,z,n,L,rfl,_⟩:=h
  refine h'2710 ?_
  rfl
 refine L2.put_away fun G'2712 h'2712=>?_
 obtain⟨d,pd,z,n,L,rfl,⟨⟨dx,hd⟩,kvs,hp,hl,hb⟩,qx,q⟩:=h
 refine h'2712 ?_
 refine⟨_,(z0B (ps_if (y7y (y3e (hu_of hr) (pv 1) (z2O (pv 0) rfl))) (z0D (z2g O_NoName rfl z5A (z0A z0N z0C))) z0K) (z0D (z0I (y7G (hu_of hr) (z2O (pv 0) rfl) (pv 1) (fun _ _=>rfl))))),?_⟩
 walk_at "wpd"
 have dg:=DGet.k (k:=.inr z) hp
 refine⟨d,C,dx,_,.ref pd,rfl,hd,X.cl,X.nP,rfl,pd,_,rfl,dg,fun c=>?_,fun c=>?_⟩
 ·cases e:L z with
  | none=>exact⟨by decide,fun x hx=>qx e x hx⟩
  | some ws=>
   refine L2.put_away fun G'2720 h'2720=>?_
   obtain⟨_,D,xs,e1,_⟩:=(hb z).2 ws e
   refine h'2720 ?_
   rw[e1] at c
   cases c
 ·cases e:L z with
  | none=>exact absurd (by rw[(hb z).1 e];rfl) c
  | some ws=>
   refine L2.put_away fun G'2726 h'2726=>?_
   obtain⟨k,D,xs,e1,e2,e3⟩:=(hb z).2 ws e
   refine h'2726 ?_
   rw[e1] at dg
   exact⟨d,C,dx,_,.ref pd,rfl,hd,X.cl,X.nP,rfl,pd,.ref D,rfl,dg,q ws D xs e k e2 e3⟩
noncomputable def planL:List Nat:=[112,108,97,110]
noncomputable def y8X:List Nat:=[97,119,97,107,101]
noncomputable def meetL:List Nat:=[109,101,101,116]
theorem y5Q:Str.ofString "plan" = tx planL:=by decide +kernel
theorem y4u:Str.ofString "awake" = tx y8X:=by decide +kernel
theorem y5i:Str.ofString "meet" = tx meetL:=by decide +kernel
theorem y7a {n:Int} (h:DgOk n):figsB (dg n)=true:=by
 refine y6B.mpr ⟨List.length_pos_iff.mpr h.ne,h.len,fun⟨a,b⟩=>?_,h.all⟩
 have:=h.zero a
 omega
noncomputable def z2H:Sp:=fun vs H Q _=>∃n:Int,vs=[.str (tx (dg n))]/\DgOk n/\∀H',Same H H'->Q (.int n) H'
theorem z6I (T:TF K mg "read_number" z2X) (m_int:mg "int" = none) (c_MOST_FIGURES:CI mg "MOST_FIGURES" 100) (G_is_figures:Has P w K mg base 1 "is_figures" ["text", "most"] z3G):Has P w K mg base 2 "read_number" ["text"] z2H:=by
 refine T.has z6F (fun _ _ _ _ _ _=>L2.bnd1 fun _=>rfl) (fun vs H Q E h=>?_) (fun f cdv A outer s H vs Q E hr h=>?_)
 ·refine L2.put_away fun G'2758 h'2758=>?_
  obtain⟨n,rfl,_⟩:=h
  refine h'2758 ?_
  rfl
 refine L2.put_away fun G'2760 h'2760=>?_
 obtain⟨n,rfl,d,q⟩:=h
 refine h'2760 ?_
 refine⟨_,(z0B (ps_if (z2F (z1C (z0J (G_is_figures.mono (by first|decide|omega)) hr (z0A (pv 0) (z0A (pe_ci rfl c_MOST_FIGURES) z0C))) (fun _=>rfl))) (z0D z0x) z0K) (z0D (z0I (z1Q z8P rfl m_int (by decide +kernel) (z0A (pv 0) z0C))))),?_⟩
 walk_at "wp"
 have tl:=z0V (dg n)
 have ln:=d.len
 refine⟨dg n,100,rfl,⟨by omega,fun x hx=>by have:=d.all x hx;omega⟩,fun H1 g1=>?_⟩
 have ef:figM 100 (dg n)=true:=y7a d
 rw[ef]
 walk_at "wp"
 have e:=intText_digits (x:=tx (dg n)) (by rw[z0a];exact d.all) (by rw[z0a];exact d.ne) (by omega)
 rw[z0a,d.val] at e
 exact⟨_,n,rfl,e,by omega,q _ g1⟩
noncomputable def z3R (u:T3) (short:Bool):List (List Nat):=if short=true/\u.2.2=1 then [dg u.1,dg u.2.1] else [dg u.1,dg u.2.1,dg u.2.2]
noncomputable def wtext (u:T3) (short:Bool):List Nat:=glu 58 (z3R u short)
noncomputable def WOk (u:T3):Prop:=DgOk u.1/\DgOk u.2.1/\DgOk u.2.2
theorem z4z {u:T3} (h:WOk u) (short:Bool) {c:Nat} (hc:c<48∨57<c):∀p∈z3R u short,c∉p:=fun p hp=>by
 unfold z3R at hp
 split at hp
 ·simp only [List.mem_cons,List.not_mem_nil,or_false] at hp
  rcases hp with rfl|rfl
  ·exact z2A h.1.all hc
  ·exact z2A h.2.1.all hc
 ·simp only [List.mem_cons,List.not_mem_nil,or_false] at hp
  rcases hp with rfl|rfl|rfl
  ·exact z2A h.1.all hc
  ·exact z2A h.2.1.all hc
  ·exact z2A h.2.2.all hc
noncomputable def z3S:Sp:=fun vs H Q _=>∃(u:T3) (short:Bool),vs=[.str (tx (wtext u short))]/\WOk u/\∀(p:Addr) (H':Hp),Same H H'->H' p=some (tupW u)->Q (.ref p) H'
theorem z8T {u:T3} (h:WOk u) (short:Bool):(wtext u short).length<=310:=by
 have a:=h.1.len
 have b:=h.2.1.len
 have c:=h.2.2.len
 unfold wtext z3R
 split <;> simp [glu] <;> omega
theorem z7q (T:TF K mg "read_waking" z2W) (m_len:mg "len" = none) (m_tuple:mg "tuple" = none) (G_read_number:Has P w K mg base 2 "read_number" ["text"] z2H):Has P w K mg base 3 "read_waking" ["word"] z3S:=by
 refine T.has z3T (fun _ _ _ _ _ _=>L2.bnd1 fun _=>rfl) (fun vs H Q E h=>?_) (fun f cdv A outer s H vs Q E hr h=>?_)
 ·refine L2.put_away fun G'2797 h'2797=>?_
  obtain⟨u,short,rfl,_⟩:=h
  refine h'2797 ?_
  rfl
 refine L2.put_away fun G'2799 h'2799=>?_
 obtain⟨u,short,rfl,hu,q⟩:=h
 refine h'2799 ?_
 refine⟨_,(z0B (z4S (i:=1) z3T.nd rfl (Or.inl rfl) (CompSc.none (own:=["part"]) (by decide +kernel) (by decide +kernel) rfl (by decide +kernel)) rfl (z0q (pe_bm PySem.F.plainAttrs_str PySem.F.slot_str_split PySem.F.type_str_split y1d (pv 0) (z0A z0N z0C))) (fun _ _ _=>(z0S (i:=0) (show (["part"]:List Str).Nodup from by decide +kernel) rfl (Or.inl rfl) (Or.inr rfl))) (fun _ _ _=>z0v) (fun _ _ _=>(z0J (G_read_number.mono (by first|decide|omega)) hr (z0A (pv 0) z0C)))) (z0B (ps_if (z0L op_eq (z0M z0Q rfl m_len PySem.boot_len (z0A (pv 1) z0C)) z0E (z0T _)) (z0D (z1k (pe_bm PySem.F.plainAttrs_list PySem.F.slot_list_append PySem.F.type_list_append z1g (pv 1) (z0A z0E z0C)))) z0K) (z0B (ps_if (z0L op_ne (z0M z0Q rfl m_len PySem.boot_len (z0A (pv 1) z0C)) z0E (z0T _)) (z0D z0x) z0K) (z0D (z0I (z1Q z8M rfl m_tuple (by decide +kernel) (z0A (pv 1) z0C))))))),?_⟩
 have wl:=z8T hu short
 have tl:=z0V (wtext u short)
 have es:Txt.split (tx (wtext u short)) (Str.ofString ":")=(z3R u short).map tx:=by
  rw[colon]
  exact z6P (by decide) rfl (by unfold z3R;split <;> simp) (z4z hu short (.inr (by decide)))
 walk_at "wp"
 have e1:(Str.ofString ":").length=1:=by rw[colon];rfl
 refine⟨rfl,_,_,rfl,rfl,by rw[e1];rfl,by omega,fun D nD=>?_⟩
 rw[es]
 obtain⟨ns,en,ed,el⟩:∃ns:List Int,z3R u short=ns.map dg/\(∀n∈ns,DgOk n)/\(ns=[u.1,u.2.1]/\u.2.2=1∨ns=[u.1,u.2.1,u.2.2]):=by
  unfold z3R
  split
  ·rename_i c
   exact⟨[u.1,u.2.1],rfl,fun n hn=>by
    simp only [List.mem_cons,List.not_mem_nil,or_false] at hn
    rcases hn with rfl|rfl
    ·exact hu.1
    ·exact hu.2.1,.inl ⟨rfl,c.2⟩⟩
  ·exact⟨[u.1,u.2.1,u.2.2],rfl,fun n hn=>by
    simp only [List.mem_cons,List.not_mem_nil,or_false] at hn
    rcases hn with rfl|rfl|rfl
    ·exact hu.1
    ·exact hu.2.1
    ·exact hu.2.2,.inr rfl⟩
 have ln:ns.length<=3:=by rcases el with⟨e,_⟩|e <;> rw[e] <;> simp
 rw[en]
 have gD:=z0H nD (.lst (((ns.map dg).map tx).map V.str))
 have hD:=z0F (H:=H) (a:=D) (o:=.lst (((ns.map dg).map tx).map V.str))
 generalize upd H D (.lst (((ns.map dg).map tx).map V.str))=H1 at gD hD ⊢
 refine⟨⟨_,SqL.of hD⟩,?_⟩
 obtain⟨Sv,hSv⟩:∃Sv:St->Prop,Sv=fun σ=>∃o1,σ=[o1]:=⟨_,rfl⟩
 obtain⟨Pv,hPv⟩:∃Pv:Addr->Nat->List V->Hp->Prop,Pv=fun D2 i ys H2=>H1 D2=none/\Same H1 H2/\ys=(ns.take i).map V.int:=⟨_,rfl⟩
 refine z0z (xs:=((ns.map dg).map tx).map V.str) Sv Pv (by rw[hSv];exact⟨none,rfl⟩) (fun D2 hD2=>?_) (fun D2 i ys H2 hD2 h=>?_) (fun D2 i x ys σ H2 hx hi hs hD2 hy h=>?_) (fun D2 ys H2 hD2 h=>?_)
 ·rw[hPv]
  exact⟨hD2,z0H hD2 _,rfl⟩
 ·rw[hPv] at h
  exact SqL.of (h.2.1 _ _ hD)
 ·rw[hSv] at hs
  rw[hPv] at h
  obtain⟨o1,rfl⟩:=hs
  refine L2.put_away fun G'2841 h'2841=>?_
  obtain⟨nD2,g,rfl⟩:=h
  refine h'2841 ?_
  rw[List.map_map,List.map_map,List.getElem?_map] at hx
  refine L2.put_away fun G'2843 h'2843=>?_
  obtain⟨n,hn,rfl⟩:=Option.map_eq_some_iff.mp hx
  refine h'2843 ?_
  simp only [List.length_map] at hi
  walk_at "wp"
  refine⟨n,rfl,ed n (List.mem_of_getElem? hn),fun H3 g3=>?_⟩
  have hD3:=g3 _ _ hD2
  refine CompP.mk hD3 hy (by rw[sizeLine_eq];omega) (by rw[hSv];exact⟨_,rfl⟩) (by
   rw[hPv]
   refine⟨nD2,(g.trans g3).write nD2 _,?_⟩
   rw[List.take_add_one,hn]
   simp)
 rw[hPv] at h
 refine L2.put_away fun G'2854 h'2854=>?_
 obtain⟨nD2,g,rfl⟩:=h
 refine h'2854 ?_
 rw[List.length_map,List.length_map,List.length_map,List.take_length] at hD2
 have G:=gD.trans g
 have fD:H D2=none:=gD.free nD2
 rcases el with⟨rfl,el⟩|rfl
 ·refine⟨_,_,rfl,.inl (SqL.of hD2),fun _=>⟨.inl ⟨rfl,_,SqL.of hD2⟩,D2,_,_,rfl,rfl,hD2,by rw[sizeLine_eq];simp,?_⟩,fun c=>absurd rfl c⟩
  refine⟨_,_,rfl,.inl (SqL.of z0F),fun c=>absurd rfl c,fun _=>⟨_,_,rfl,.inl ⟨SqL.of z0F,fun p np=>?_⟩⟩⟩
  refine q p _ ((G.write fD _).trans (z0H np _)) ?_
  rw[z0F]
  show some (HO.tup [V.int u.1,V.int u.2.1,V.int 1])=some (HO.tup [V.int u.1,V.int u.2.1,V.int u.2.2])
  rw[el]
 ·refine⟨_,_,rfl,.inl (SqL.of hD2),fun c=>absurd c (by simp),fun _=>⟨_,_,rfl,.inl (SqL.of hD2),fun c=>absurd rfl c,fun _=>⟨_,_,rfl,.inl ⟨SqL.of hD2,fun p np=>?_⟩⟩⟩⟩
  exact q p _ (G.trans (z0H np _)) z0F
noncomputable def ptext (ws:List T3) (short:Bool):List Nat:=if ws=[] then y3i else glu 32 (ws.map fun u=>wtext u short)
theorem y1m {c:Nat} {p:List Nat} {ps:List (List Nat)} {x:Nat} {r:List Nat} (e:p=x::r):∃r',glu c (p::ps)=x::r':=by
 subst e
 cases ps with
 | nil=>exact⟨r,rfl⟩
 | cons q ps=>exact⟨_,rfl⟩
theorem y5N {ws:List T3} {short:Bool} (ne:ws≠[]) (h:∀u∈ws,WOk u):tx (ptext ws short)≠Str.ofString "never" :=fun e=>by
 cases ws with
 | nil=>exact ne rfl
 | cons u ws=>
  obtain⟨c0,r0,e0⟩:∃c r,dg u.1=c::r:=by
   cases e:dg u.1 with
   | nil=>exact absurd e (h u (by simp)).1.ne
   | cons c r=>exact⟨c,r,rfl⟩
  have hc:=(h u (by simp)).1.all c0 (by rw[e0];simp)
  have ew:∃r,wtext u short=c0::r:=by
   unfold wtext z3R
   split <;> exact y1m e0
  obtain⟨r1,ew⟩:=ew
  obtain⟨r2,ep⟩:∃r,ptext (u::ws) short=c0::r:=by
   unfold ptext
   rw[if_neg (by simp),List.map_cons]
   exact y1m ew
  have e2:=congrArg (fun z:Str=>z.cps.toList) e
  simp only [z0a,ep] at e2
  have en:(Str.ofString "never").cps.toList=[110,101,118,101,114]:=by decide +kernel
  rw[en] at e2
  injection e2 with e3
  omega
theorem y1v {u:T3} (h:WOk u) (short:Bool):32∉wtext u short:=by
 have f:=z4z h short (c:=32) (.inl (by decide))
 unfold wtext
 generalize z3R u short=ps at f
 induction ps with
 | nil=>simp [glu]
 | cons p ps ih=>
  cases ps with
  | nil=>exact f p (by simp)
  | cons q r=>
   show 32∉p++58::glu 58 (q::r)
   intro m
   rcases List.mem_append.mp m with z|z
   ·exact f p (by simp) z
   ·rcases List.mem_cons.mp z with z|z
    ·exact absurd z (by decide)
    ·exact ih (fun x hx=>f x (by simp [hx])) z
theorem y3U {ws:List T3} (h:∀u∈ws,WOk u) (l:ws.length<=12) (short:Bool):(ptext ws short).length<=5000:=by
 unfold ptext
 split
 ·show y3i.length<=5000
  decide +kernel
 ·have:=z5u (c:=32) (M:=310) (ps:=ws.map fun u=>wtext u short) fun p hp=>by
   refine L2.put_away fun G'2919 h'2919=>?_
   obtain⟨u,hu,rfl⟩:=List.mem_map.mp hp
   refine h'2919 ?_
   exact z8T (h u hu) short
  rw[List.length_map] at this
  omega
noncomputable def z4c:Sp:=fun vs H Q _=>∃(ws:List T3) (short:Bool),vs=[.str (tx (ptext ws short))]/\ws.length<=12/\(∀u∈ws,WOk u)/\(∀u∈ws,isW u=true)/\∀(D:Addr) (xs:List V) (H':Hp),Same H H'->H D=none->H' D=some (.lst xs)->Pl H' xs ws->Q (.ref D) H'
theorem y0e (T:TF K mg "read_plan" z3a) (m_len:mg "len" = none) (c_MOST_WAKINGS:CI mg "MOST_WAKINGS" 12) (G_read_waking:Has P w K mg base 3 "read_waking" ["word"] z3S) (G_plan_of:Has P w K mg base 2 "plan_of" ["rows"] (z6R K)):Has P w K mg base 4 "read_plan" ["text"] z4c:=by
 refine T.has z4g (fun _ _ _ _ _ _=>L2.bnd1 fun _=>rfl) (fun vs H Q E h=>?_) (fun f cdv A outer s H vs Q E hr h=>?_)
 ·refine L2.put_away fun G'2926 h'2926=>?_
  obtain⟨ws,short,rfl,_⟩:=h
  refine h'2926 ?_
  rfl
 refine L2.put_away fun G'2928 h'2928=>?_
 obtain⟨ws,short,rfl,lw,hk,hw,q⟩:=h
 refine h'2928 ?_
 refine⟨_,(z0B (ps_if (z0L op_eq (pv 0) z0N (z0T _)) (z0D (z0I (z1T z0C))) z0K) (z0B (z0P (i:=1) z4g.nd rfl (Or.inl rfl) (pe_bm PySem.F.plainAttrs_str PySem.F.slot_str_split PySem.F.type_str_split y1d (pv 0) (z0A z0N z0C))) (z0B (ps_if (z0L op_gt (z0M z0Q rfl m_len PySem.boot_len (z0A (pv 1) z0C)) (pe_ci rfl c_MOST_WAKINGS) (z0T _)) (z0D z0x) z0K) (z0D (z0I (z0J (G_plan_of.mono (by first|decide|omega)) hr (z0A (z1F (CompSc.none (own:=["word"]) (by decide +kernel) (by decide +kernel) rfl (by decide +kernel)) rfl (z0q (pv 1)) (fun _ _ _=>(z0S (i:=0) (show (["word"]:List Str).Nodup from by decide +kernel) rfl (Or.inl rfl) (Or.inr rfl))) (fun _ _ _=>z0v) (fun _ _ _=>(z0J (G_read_waking.mono (by first|decide|omega)) hr (z0A (pv 0) z0C)))) z0C))))))),?_⟩
 have pl:=y3U hk lw short
 have tl:=z0V (ptext ws short)
 by_cases e:ws=[]
 ·subst e
  have e2:tx (ptext [] short)=Str.ofString "never" :=y5e
  rw[e2]
  walk_at "wp"
  refine⟨rfl,_,rfl,fun _ D nD=>q D [] _ (z0H nD _) nD z0F .nil,fun c=>absurd (decide_eq_true rfl) c⟩
 ·have ne:=y5N (short:=short) e hk
  walk_at "wp"
  refine⟨rfl,_,rfl,fun c=>absurd (by have:=of_decide_eq_true c;injection this) ne,fun _=>?_⟩
  have es:Txt.split (tx (ptext ws short)) (Str.ofString " ")=(ws.map fun u=>wtext u short).map tx:=by
   rw[y1t]
   refine z6P (by decide) (by unfold ptext;rw[if_neg e]) (by simpa using e) fun p hp=>?_
   refine L2.put_away fun G'2944 h'2944=>?_
   obtain⟨u,hu,rfl⟩:=List.mem_map.mp hp
   refine h'2944 ?_
   exact y1v (hk u hu) short
  have e1:(Str.ofString " ").length=1:=by rw[y1t];rfl
  refine⟨rfl,_,_,rfl,rfl,by rw[e1];rfl,by omega,fun D nD=>?_⟩
  rw[es]
  have gD:=z0H nD (.lst (((ws.map fun u=>wtext u short).map tx).map V.str))
  have hD:=z0F (H:=H) (a:=D) (o:=.lst (((ws.map fun u=>wtext u short).map tx).map V.str))
  generalize upd H D (.lst (((ws.map fun u=>wtext u short).map tx).map V.str))=H1 at gD hD ⊢
  have ln:(((ws.map fun u=>wtext u short).map tx).map V.str).length=ws.length:=by simp only [List.length_map]
  refine⟨_,_,rfl,.inl (SqL.of hD),fun c=>by rw[ln] at c;omega,fun _=>⟨⟨_,SqL.of hD⟩,?_⟩⟩
  obtain⟨Sv,hSv⟩:∃Sv:St->Prop,Sv=fun σ=>∃o1,σ=[o1]:=⟨_,rfl⟩
  obtain⟨Pv,hPv⟩:∃Pv:Addr->Nat->List V->Hp->Prop,Pv=fun D2 i ys H2=>H1 D2=none/\Same H1 H2/\Pl H2 ys (ws.take i):=⟨_,rfl⟩
  refine z0z (xs:=((ws.map fun u=>wtext u short).map tx).map V.str) Sv Pv (by rw[hSv];exact⟨none,rfl⟩) (fun D2 hD2=>?_) (fun D2 i ys H2 hD2 h=>?_) (fun D2 i x ys σ H2 hx hi hs hD2 hy h=>?_) (fun D2 ys H2 hD2 h=>?_)
  ·rw[hPv]
   exact⟨hD2,z0H hD2 _,.nil⟩
  ·rw[hPv] at h
   exact SqL.of (h.2.1 _ _ hD)
  ·rw[hSv] at hs
   rw[hPv] at h
   obtain⟨o1,rfl⟩:=hs
   refine L2.put_away fun G'2964 h'2964=>?_
   obtain⟨nD2,g,hP⟩:=h
   refine h'2964 ?_
   rw[List.map_map,List.map_map,List.getElem?_map] at hx
   refine L2.put_away fun G'2966 h'2966=>?_
   obtain⟨u,hn,rfl⟩:=Option.map_eq_some_iff.mp hx
   refine h'2966 ?_
   rw[ln] at hi
   walk_at "wp"
   refine⟨u,short,rfl,hk u (List.mem_of_getElem? hn),fun p H3 g3 hp=>?_⟩
   have hD3:=g3 _ _ hD2
   have hP3:Pl H3 (ys++[.ref p]) (ws.take i++[u]):=(hP.same g3).snoc hp
   refine CompP.mk hD3 hy (by rw[sizeLine_eq];omega) (by rw[hSv];exact⟨_,rfl⟩) (by
    rw[hPv]
    refine⟨nD2,(g.trans g3).write nD2 _,?_⟩
    rw[List.take_add_one,hn]
    exact hP3.upd hD3)
  ·rw[hPv] at h
   refine L2.put_away fun G'2978 h'2978=>?_
   obtain⟨nD2,g,hP⟩:=h
   refine h'2978 ?_
   rw[ln,List.take_length] at hP
   have G:=gD.trans g
   refine⟨D2,ys,ws,rfl,SqL.of hD2,hP,hw,fun D3 nD3=>?_⟩
   exact q D3 ys _ (G.trans (z0H nD3 _)) (G.free nD3) z0F (hP.updN nD3)
noncomputable def flds (l:List Nat) (i:Nat):List (Str×V):=[("text",.str (tx l)),("place",.int (i:Int))]
theorem z4w (l:List Nat) (i:Nat):(flds l i).lookup ("text" : Str)=some (.str (tx l)):=by
 unfold flds
 rfl
theorem z1h (l:List Nat) (i:Nat):(flds l i).lookup ("place" : Str)=some (.int (i:Int)):=by
 unfold flds
 rfl
theorem z2P {l:List Nat} {i:Nat} {m:Str} (h:(m == ("text" : Str))=false:=by decide +kernel) (k:(m == ("place" : Str))=false:=by decide +kernel):(flds l i).lookup m=none:=by
 unfold flds
 simp only [List.lookup,h,k]
theorem y4V (l:List Nat) (i j:Nat):putF ("place" : Str) (.int (j:Int)) (flds l i)=flds l j:=by
 unfold flds putF
 rw[if_neg (by decide +kernel)]
 unfold putF
 rw[if_pos rfl]
noncomputable def RdAt (C:Addr) (H:Hp) (a:Addr) (l:List Nat) (i:Nat):Prop:=∃dx,H a=some (.ins C dx (flds l i))
structure Rd (C:Addr) (H H':Hp) (a:Addr) (l:List Nat) (i:Nat):Prop where
 at_:RdAt C H' a l i
 same:∀b o,b≠a->H b=some o->H' b=some o
theorem Rd.upd {C:Addr} {H:Hp} {a dx:Addr} {l:List Nat} {i:Nat}:Rd C H (upd H a (.ins C dx (flds l i))) a l i:=⟨⟨dx,z0F⟩,fun b o hb e=>by rw[z0U hb];exact e⟩
theorem Rd.trans {C:Addr} {H H1 H2:Hp} {a:Addr} {l:List Nat} {i j:Nat} (g:Rd C H H1 a l i) (h:Rd C H1 H2 a l j):Rd C H H2 a l j:=⟨h.at_,fun b o hb e=>h.same b o hb (g.same b o hb e)⟩
theorem Rd.free {C:Addr} {H H1:Hp} {a b:Addr} {l:List Nat} {i:Nat} (g:Rd C H H1 a l i) (h:H1 b=none) (hb:b≠a):H b=none:=by
 cases e:H b with
 | none=>rfl
 | some o=>rw[g.same b o hb e] at h;cases h
theorem Rd.new {C:Addr} {H H1:Hp} {a p:Addr} {l:List Nat} {i:Nat} (g:Rd C H H1 a l i) (h:H1 p=none) (o:HO):Rd C H (L2.upd H1 p o) a l i:=by
 obtain⟨dx,e⟩:=g.at_
 refine⟨⟨dx,by rw[z0U (z0O e h)];exact e⟩,fun b o' hb e'=>?_⟩
 have:=g.same b o' hb e'
 rw[z0U (z0O this h)]
 exact this
theorem Rd.write {C:Addr} {H H1:Hp} {a D:Addr} {l:List Nat} {i:Nat} (g:Rd C H H1 a l i) (n:H D=none) (h:D≠a) (o:HO):Rd C H (L2.upd H1 D o) a l i:=by
 obtain⟨dx,e⟩:=g.at_
 refine⟨⟨dx,by rw[z0U (Ne.symm h)];exact e⟩,fun b o' hb e'=>?_⟩
 rw[z0U (z0O e' n)]
 exact g.same b o' hb e'
structure RdTx (K:PySem.W.Frag) (C:Addr):Prop where
 cl:Cls K C
 nT:NoAttr K C "text"
 nP:NoAttr K C "place"
noncomputable def z2n (C:Addr):Sp:=fun vs H Q _=>∃(a:Addr) (l y:List Nat) (i:Nat),vs=[.ref a,.str (tx y)]/\RdAt C H a l i/\l.length<=100000/\i<=l.length/\y.length≠0/\y.length<=10/\(¬(l.drop i).take y.length=y->Q (.bl false) H)/\((l.drop i).take y.length=y->∀H',Rd C H H' a l (i+y.length)->Q (.bl true) H')
theorem y5w {C:Addr} (X:RdTx K C) (T:TM K C "passes" "PaperReader.passes" z1E) (m_len:mg "len" = none):HasM P w K mg base 1 C "passes" ["self", "signs"] (z2n C):=by
 refine T.has z2t (fun _ _ _ _ _ _=>L2.bnd2 fun _ _=>rfl) (fun vs H Q E h=>?_) (fun f cdv A outer s H vs Q E hr h=>?_)
 ·refine L2.put_away fun G'3029 h'3029=>?_
  obtain⟨a,l,y,i,rfl,_⟩:=h
  refine h'3029 ?_
  rfl
 refine L2.put_away fun G'3031 h'3031=>?_
 obtain⟨a,l,y,i,rfl,⟨dx,hd⟩,ll,li,y0,y1,q0,q1⟩:=h
 refine h'3031 ?_
 refine⟨_,(z0B (ps_if (z2F (z1C (pe_bm PySem.F.plainAttrs_str PySem.F.slot_str_startswith PySem.F.type_str_startswith y2K (z2O (pv 0) rfl) (z0A (pv 1) (z0A (z2O (pv 0) rfl) z0C))) (fun _=>rfl))) (z0D (z0I pe_bl)) z0K) (z0B (z8w (pv 0) (z0M z0w rfl m_len PySem.boot_len (z0A (pv 1) z0C)) y6Y) (z0D (z0I pe_bl)))),?_⟩
 walk_at "wp"
 have fi:PySem.fromIndex (tx l).length (i:Int)=i:=by
  unfold PySem.fromIndex
  rw[if_neg (by omega)]
  omega
 refine⟨a,C,dx,_,_,rfl,hd,X.cl,X.nT,z4w l i,rfl,a,C,dx,_,_,rfl,hd,X.cl,X.nP,z1h l i,_,_,_,rfl,rfl,?_⟩
 rw[fi,y0x l y i y0]
 refine⟨fun c=>q0 (of_decide_eq_false c),fun c=>?_⟩
 have c':(l.drop i).take y.length=y:=by
  rw[Bool.not_eq_false] at c
  exact of_decide_eq_true c
 refine⟨a,C,dx,_,_,rfl,hd,X.cl,X.nP,z1h l i,tx y,rfl,by rw[z0V];omega,_,_,rfl,rfl,dx,_,hd,by show 2<1000;decide,?_⟩
 have e:(i:Int)+((tx y).length:Int)=((i+y.length:Nat):Int):=by rw[z0V];omega
 rw[e,y4V]
 exact q1 c' _ Rd.upd
noncomputable def z4s (C:Addr):Sp:=fun vs H Q _=>∃(a:Addr) (l y:List Nat) (i:Nat),vs=[.ref a,.str (tx y)]/\RdAt C H a l i/\l.length<=100000/\i<=l.length/\y.length≠0/\y.length<=10/\(l.drop i).take y.length=y/\∀H',Rd C H H' a l (i+y.length)->Q .non H'
theorem y7U {C:Addr} (cl_PaperReader:Cls K C) (T:TM K C "needs" "PaperReader.needs" z1K) (G_PaperReader_passes:HasM P w K mg base 1 C "passes" ["self", "signs"] (z2n C)):HasM P w K mg base 2 C "needs" ["self", "signs"] (z4s C):=by
 refine T.has z3Q (fun _ _ _ _ _ _=>L2.bnd2 fun _ _=>rfl) (fun vs H Q E h=>?_) (fun f cdv A outer s H vs Q E hr h=>?_)
 ·refine L2.put_away fun G'3051 h'3051=>?_
  obtain⟨a,l,y,i,rfl,_⟩:=h
  refine h'3051 ?_
  rfl
 refine L2.put_away fun G'3053 h'3053=>?_
 obtain⟨a,l,y,i,rfl,hd,ll,li,y0,y1,c,q⟩:=h
 refine h'3053 ?_
 have hd':=hd
 obtain⟨dx,hd⟩:=hd
 refine⟨_,(z0D (ps_if (z2F (z1C (z1m (pv 0) cl_PaperReader (G_PaperReader_passes.mono (by first|decide|omega)) hr (z0A (pv 1) z0C)) (fun _=>rfl))) (z0D z0x) z0K)),?_⟩
 walk_at "wp"
 refine⟨a,dx,_,rfl,hd,z2P,a,l,y,i,rfl,hd',ll,li,y0,y1,fun z=>absurd c z,fun _ H1 g1=>?_⟩
 walk_at "wp"
 exact q H1 g1
theorem fig73 {c:Nat}:(Builtin.Str.occurrences (Str.ofString "0123456789") ⟨#[c]⟩ 0 (Str.ofString "0123456789").length 1).isEmpty=false ↔ 48<=c/\c<=57:=by
 have h:=StrLaws.found_one (Str.ofString "0123456789") c
 have el:(Str.ofString "0123456789").cps.toList=[48,49,50,51,52,53,54,55,56,57]:=by decide +kernel
 rw[el] at h
 rw[←Bool.not_eq_true',h,decide_eq_true_eq]
 simp
 omega
noncomputable def noFig (r:List Nat):Prop:=∀c,r[0]?=some c->¬(48<=c/\c<=57)
noncomputable def z9w (C:Addr):Sp:=fun vs H Q _=>∃(a:Addr) (l r:List Nat) (i:Nat) (n:Int),vs=[.ref a]/\RdAt C H a l i/\l.length<=100000/\l.drop i=dg n++r/\DgOk n/\noFig r/\∀H',Rd C H H' a l (i+(dg n).length)->Q (.int n) H'
theorem z7u {C:Addr} (X:RdTx K C) (T:TM K C "next_number" "PaperReader.next_number" z0p) (m_len:mg "len" = none) (c_FIGURES:CS mg "FIGURES" "0123456789") (G_read_number:Has P w K mg base 2 "read_number" ["text"] z2H):HasM P w K mg base 3 C "next_number" ["self"] (z9w C):=by
 refine T.has z1B (fun _ _ _ _ _ _=>L2.bnd1 fun _=>rfl) (fun vs H Q E h=>?_) (fun f cdv A outer s H vs Q E hr h=>?_)
 ·refine L2.put_away fun G'3072 h'3072=>?_
  obtain⟨a,l,r,i,n,rfl,_⟩:=h
  refine h'3072 ?_
  rfl
 refine L2.put_away fun G'3074 h'3074=>?_
 obtain⟨a,l,r,i,n,rfl,hd,ll,el,dk,nf,q⟩:=h
 refine h'3074 ?_
 have hd':=hd
 obtain⟨dx,hd⟩:=hd
 refine⟨_,(z0B (z0P (i:=1) z1B.nd rfl (Or.inl rfl) (z2O (pv 0) rfl)) (z0B (z1P (z3w PassesOwn.never (PW.pt (y3S (z0L op_lt (z2O (pv 0) rfl) (z0M z0w rfl m_len PySem.boot_len (z0A (z2O (pv 0) rfl) z0C)) (z0T _)) (y0K (z0L z5h (pe_ix y6X (z2O (pv 0) rfl) (z2O (pv 0) rfl) (fun _ _=>rfl)) (pe_cs rfl c_FIGURES) rfl)))) (z0D (z8w (pv 0) z0E y6Y)))) (z0D (z0I (z0J (G_read_number.mono (by first|decide|omega)) hr (z0A (z2G y1P (z2O (pv 0) rfl) (z1x (pv 1)) (z1x (z2O (pv 0) rfl))) z0C)))))),?_⟩
 walk_at "wp"
 have ld:=congrArg List.length el
 rw[List.length_drop,List.length_append] at ld
 have tl:=z0V l
 have n1:=List.length_pos_iff.mpr dk.ne
 have at_:∀j:Nat,(l.drop i)[j]?=l[i+j]?:=fun j=>by rw[List.getElem?_drop]
 refine⟨a,C,dx,_,_,rfl,hd,X.cl,X.nP,z1h l i,?_⟩
 refine⟨fun σ H'=>σ=[some (.ref a),some (.int (i:Int))]/\Rd C H H' a l (i+(dg n).length),?_,?_⟩
 ·obtain⟨W,hW⟩:∃W:Nat->St->Hp->Prop,W=fun m σ H'=>∃j:Nat,σ=[some (.ref a),some (.int (i:Int))]/\Rd C H H' a l (i+j)/\j<=(dg n).length/\m=(dg n).length-j:=⟨_,rfl⟩
  refine⟨W,⟨_,by rw[hW];exact⟨0,rfl,⟨hd',fun b o _ e=>e⟩,Nat.zero_le _,rfl⟩⟩,fun m σ H' h=>?_⟩
  rw[hW] at h
  refine L2.put_away fun G'3089 h'3089=>?_
  obtain⟨j,rfl,g,hj,rfl⟩:=h
  refine h'3089 ?_
  obtain⟨dy,he⟩:=g.at_
  walk_at "wp"
  refine⟨a,C,dy,_,_,rfl,he,X.cl,X.nP,z1h l (i+j),?_⟩
  walk_at "wp"
  refine⟨a,C,dy,_,_,rfl,he,X.cl,X.nT,z4w l (i+j),tx l,rfl,by omega,fun c=>?_,fun c=>?_⟩
  ·have c':i+j<l.length:=by omega
   refine⟨a,C,dy,_,_,rfl,he,X.cl,X.nT,z4w l (i+j),a,C,dy,_,_,rfl,he,X.cl,X.nP,z1h l (i+j),_,_,l[i+j],rfl,rfl,by rw[tl];show _<=16777216;omega,by rw[z0a];exact z0X (List.getElem?_eq_getElem c'),_,_,rfl,rfl,?_⟩
   have gj:(dg n++r)[j]?=some l[i+j]:=by rw[←el,at_,List.getElem?_eq_getElem c']
   refine⟨fun z=>⟨_,fun _ _ h=>h,a,C,dy,_,_,rfl,he,X.cl,X.nP,z1h l (i+j),_,_,rfl,rfl,dy,_,he,by show 2<1000;decide,(dg n).length-(j+1),?_,?_⟩,fun z=>?_⟩
   ·have fg:=fig73.mp z
    by_cases k:j<(dg n).length
    ·omega
    ·have ej:j=(dg n).length:=by omega
     have gk:r[0]?=some l[i+j]:=by
      rw[List.getElem?_append_right (by omega),show j-(dg n).length=0 by omega] at gj
      exact gj
     exact absurd fg (nf _ gk)
   ·have e:((i+j:Nat):Int)+1=((i+(j+1):Nat):Int):=by omega
    rw[e,y4V,hW]
    have fg:=fig73.mp z
    refine⟨j+1,rfl,g.trans Rd.upd,?_,rfl⟩
    by_cases k:j<(dg n).length
    ·omega
    ·have ej:j=(dg n).length:=by omega
     have gk:r[0]?=some l[i+j]:=by
      rw[List.getElem?_append_right (by omega),show j-(dg n).length=0 by omega] at gj
      exact gj
     exact absurd fg (nf _ gk)
   ·by_cases k:j<(dg n).length
    ·rw[List.getElem?_append_left k] at gj
     exact absurd (fig73.mpr (dk.all _ (List.mem_of_getElem? gj))) z
    ·have ej:j=(dg n).length:=by omega
     rw[ej] at g
     exact g
  ·have ej:j=(dg n).length:=by omega
   rw[ej] at g
   exact g
 rintro σ H' ⟨rfl,g⟩
 obtain⟨dy,he⟩:=g.at_
 walk_at "wp"
 refine⟨a,C,dy,_,_,rfl,he,X.cl,X.nT,z4w l _,?_⟩
 walk_at "wp"
 refine⟨a,C,dy,_,_,rfl,he,X.cl,X.nP,z1h l _,_,rfl,tx l,rfl,by rw[tl];show _<=16777216;omega,?_⟩
 have es:Txt.slice (tx l) (some (i:Int)) (some ((i+(dg n).length:Nat):Int))=tx (dg n):=by
  rw[z4t (by omega) (by omega),el]
  have:i+(dg n).length-i=(dg n).length:=by omega
  rw[this,List.take_left]
 rw[es]
 exact⟨n,rfl,dk,fun H2 g2=>q H2 (g.trans ⟨⟨dy,g2 _ _ he⟩,fun b o _ e=>g2 b o e⟩)⟩
mutual
theorem y5Y {N:Addr->Prop} {H H':Hp} (t1:∀b xs,H b=some (.tup xs)->H' b=some (.tup xs)) (t2:∀b xs,N b->H b=some (.lst xs)->H' b=some (.lst xs)):∀ {v:V} {p:Pap},PapIn K N H v p->PapIn K N H' v p
 | _,_,.inn h=>.inn (t1 _ _ h)
 | _,_,.par h hl n hz hs=>.par (t1 _ _ h) (t2 _ _ n hl) n hz (z3B t1 t2 hs)
theorem z3B {N:Addr->Prop} {H H':Hp} (t1:∀b xs,H b=some (.tup xs)->H' b=some (.tup xs)) (t2:∀b xs,N b->H b=some (.lst xs)->H' b=some (.lst xs)):∀ {xs:List V} {ps:List Pap},PapsIn K N H xs ps->PapsIn K N H' xs ps
 | _,_,.nil=>.nil
 | _,_,.cons h hs=>.cons (y5Y t1 t2 h) (z3B t1 t2 hs)
end
mutual
theorem z5g {N:Addr->Prop} {H:Hp} {D:Addr} (n:H D=none):∀ {v:V} {p:Pap},PapIn K N H v p->PapIn K (fun b=>N b/\b≠D) H v p
 | _,_,.inn h=>.inn h
 | _,_,.par h hl nn hz hs=>.par h hl ⟨nn,z0O hl n⟩ hz (z4V n hs)
theorem z4V {N:Addr->Prop} {H:Hp} {D:Addr} (n:H D=none):∀ {xs:List V} {ps:List Pap},PapsIn K N H xs ps->PapsIn K (fun b=>N b/\b≠D) H xs ps
 | _,_,.nil=>.nil
 | _,_,.cons h hs=>.cons (z5g n h) (z4V n hs)
end
theorem Rd.tup {C:Addr} {H H':Hp} {a:Addr} {l:List Nat} {i j:Nat} (g:Rd C H H' a l j) (ha:RdAt C H a l i) (b:Addr) (xs:List V) (e:H b=some (.tup xs)):H' b=some (.tup xs):=by
 obtain⟨dx,ha⟩:=ha
 exact g.same b _ (fun k=>by rw[k,ha] at e;cases e) e
theorem Rd.lst {C:Addr} {H H':Hp} {a:Addr} {l:List Nat} {i j:Nat} (g:Rd C H H' a l j) (ha:RdAt C H a l i) (b:Addr) (xs:List V) (e:H b=some (.lst xs)):H' b=some (.lst xs):=by
 obtain⟨dx,ha⟩:=ha
 exact g.same b _ (fun k=>by rw[k,ha] at e;cases e) e
theorem z3P {l A B:List Nat} {i:Nat} (h:l.drop i=A++B):l.drop (i+A.length)=B:=by
 rw[←List.drop_drop,h,List.drop_left]
theorem z7V:∀ps qs:List Pap,ptxr (ps++qs)=ptxr ps++ptxr qs
 | [],qs=>rfl
 | p::ps,qs=>by simp only [List.cons_append,ptxr,z7V ps qs,List.append_assoc]
theorem y5M (p:Pap):∃c r,ptx p=c::r/\(c=105∨c=98):=by
 cases p with
 | inn k=>exact⟨105,_,by simp only [ptx,inL,List.cons_append];rfl,.inl rfl⟩
 | par b ps=>exact⟨98,_,by simp only [ptx,byL,List.cons_append];rfl,.inr rfl⟩
theorem z6f (ps:List Pap) (r:List Nat):noFig (ptxr ps++(clL++r)):=fun c e=>by
 cases ps with
 | nil=>
  have:c=41:=by simpa [ptxr,clL] using e.symm
  omega
 | cons p ps=>
  have:c=44:=by simpa [ptxr,cmL] using e.symm
  omega
noncomputable def z5H (K:PySem.W.Frag) (C:Addr) (d:Nat):Sp:=fun vs H Q _=>∃(a:Addr) (l r:List Nat) (i:Nat) (ab:Int) (p:Pap),vs=[.ref a,.int ab]/\RdAt C H a l i/\l.length<=100000/\l.drop i=ptx p++r/\POk p/\p.kn<=1000/\p.dep<d/\0<=ab/\ab+p.dep<=40/\noFig r/\∀(v:V) (H':Hp),Rd C H H' a l (i+(ptx p).length)->PapIn K (fun b=>H b=none) H' v p->Q v H'
noncomputable def y1D (K:PySem.W.Frag) (C:Addr) (d:Nat):Sp:=fun vs H Q _=>∃(a:Addr) (l r:List Nat) (i:Nat) (ab:Int) (ps:List Pap),vs=[.ref a,.int ab]/\RdAt C H a l i/\l.length<=100000/\l.drop i=ptxs ps++(clL++r)/\POks ps/\Pap.kns ps<=1000/\Pap.deps ps<d/\0<=ab/\ab+Pap.deps ps<=40/\∀(D:Addr) (xs:List V) (H':Hp),Rd C H H' a l (i+(ptxs ps).length+1)->H D=none->H' D=some (.lst xs)->PapsIn K (fun b=>H b=none) H' xs ps->Q (.ref D) H'
theorem z7t {C:Addr} {d:Nat} (cl_PaperReader:Cls K C) (T:TM K C "next_papers" "PaperReader.next_papers" z0c) (G_PaperReader_passes:HasM P w K mg base 1 C "passes" ["self", "signs"] (z2n C)) (G_PaperReader_needs:HasM P w K mg base 2 C "needs" ["self", "signs"] (z4s C)) (G_PaperReader_next_paper:HasM P w K mg base (2*d+4) C "next_paper" ["self", "above"] (z5H K C d)):HasM P w K mg base (2*d+5) C "next_papers" ["self", "above"] (y1D K C d):=by
 refine T.has z1A (fun _ _ _ _ _ _=>L2.bnd2 fun _ _=>rfl) (fun vs H Q E h=>?_) (fun f cdv A outer s H vs Q E hr h=>?_)
 ·refine L2.put_away fun G'3183 h'3183=>?_
  obtain⟨a,l,r,i,ab,ps,rfl,_⟩:=h
  refine h'3183 ?_
  rfl
 refine L2.put_away fun G'3185 h'3185=>?_
 obtain⟨a,l,r,i,ab,ps,rfl,hd,ll,el,ok,kp,hdp,ab0,ab1,q⟩:=h
 refine h'3185 ?_
 have lp:=Nat.le_trans (Pap.kns_len ps) kp
 have hd':=hd
 obtain⟨dx,hd⟩:=hd
 have ld:=congrArg List.length el
 rw[List.length_drop,List.length_append,List.length_append] at ld
 have c1:clL.length=1:=rfl
 refine⟨_,(z0B (z1P (ps_if (z1C (z1m (pv 0) cl_PaperReader (G_PaperReader_passes.mono (by first|decide|omega)) hr (z0A z0N z0C)) (fun _=>rfl)) (z0D (z0I (z1T z0C))) z0K)) (z0B (z0P (i:=2) z1A.nd rfl (Or.inl rfl) (z1T (z0A (z1m (pv 0) cl_PaperReader (G_PaperReader_next_paper.mono (by first|decide|omega)) hr (z0A (pv 1) z0C)) z0C))) (z0B (z3w PassesOwn.never (z1C (z1m (pv 0) cl_PaperReader (G_PaperReader_passes.mono (by first|decide|omega)) hr (z0A z0N z0C)) (fun _=>rfl)) (z0D (z1k (pe_bm PySem.F.plainAttrs_list PySem.F.slot_list_append PySem.F.type_list_append z1g (pv 2) (z0A (z1m (pv 0) cl_PaperReader (G_PaperReader_next_paper.mono (by first|decide|omega)) hr (z0A (pv 1) z0C)) z0C))))) (z0B (z1k (z1m (pv 0) cl_PaperReader (G_PaperReader_needs.mono (by first|decide|omega)) hr (z0A z0N z0C))) (z0D (z0I (pv 2))))))),?_⟩
 walk_at "wp"
 refine⟨fun σ H'=>σ=[some (.ref a),some (.int ab),none]/\H'=H/\ps≠[],?_,?_⟩
 ·walk_at "wp"
  rw[y4o]
  refine⟨a,dx,_,rfl,hd,z2P,a,l,clL,i,rfl,hd',ll,by omega,by decide,by decide,fun c=>?_,fun c H1 g1=>?_⟩
  ·walk_at "wp"
   intro e
   refine c ?_
   rw[el,e]
   rfl
  ·walk_at "wp"
   intro D nD
   cases ps with
   | nil=>
    obtain⟨dy,h1⟩:=g1.at_
    exact q D [] _ (by simpa [ptxs,clL] using g1.new nD (.lst [])) (g1.free nD fun e=>by rw[e,h1] at nD;cases nD) z0F .nil
   | cons p ps=>
    exfalso
    refine L2.put_away fun G'3211 h'3211=>?_
    obtain⟨ch,rr,e1,e2⟩:=y5M p
    refine h'3211 ?_
    rw[el] at c
    simp only [ptxs,e1,List.cons_append,clL] at c
    have:ch=41:=by simpa using c
    omega
 rintro σ H' ⟨rfl,rfl,ne⟩
 obtain⟨p,ps',rfl⟩:∃p ps',ps=p::ps':=by
  cases ps with
  | nil=>exact absurd rfl ne
  | cons p ps'=>exact⟨p,ps',rfl⟩
 have okp:=ok.cons
 simp only [Pap.deps] at hdp ab1
 simp only [Pap.kns] at kp
 have e0:l.drop i=ptx p++(ptxr ps'++(clL++r)):=by
  rw[el]
  simp only [ptxs,List.append_assoc]
 walk_at "wp"
 refine⟨a,dx,_,rfl,hd,z2P,a,l,_,i,ab,p,rfl,hd',ll,e0,okp.1,by omega,by omega,ab0,by omega,z6f _ _,fun v H1 g1 hv D nD=>?_⟩
 obtain⟨dy,h1⟩:=g1.at_
 have nDa:D≠a:=fun e=>by rw[e,h1] at nD;cases nD
 have fD:=g1.free nD nDa
 have g2:=g1.new nD (.lst [v])
 have hD2:=z0F (H:=H1) (a:=D) (o:=.lst [v])
 have gD:=z0H nD (.lst [v])
 have hv2:PapIn K (fun b=>H' b=none/\b≠D) (upd H1 D (.lst [v])) v p:=(z5g nD hv).mono gD
 generalize upd H1 D (.lst [v])=H2 at g2 hD2 hv2 ⊢
 clear hv gD nD h1 g1
 obtain⟨W,hW⟩:∃W:Nat->St->Hp->Prop,W=fun m σ H3=>∃(k:Nat) (xs:List V),σ=[some (.ref a),some (.int ab),some (.ref D)]/\Rd C H' H3 a l (i+(ptxs (p::ps'.take k)).length)/\H3 D=some (.lst xs)/\PapsIn K (fun b=>H' b=none/\b≠D) H3 xs (p::ps'.take k)/\k<=ps'.length/\m=ps'.length-k:=⟨_,rfl⟩
 refine⟨W,⟨_,by rw[hW];exact⟨0,[v],rfl,by simpa [ptxs,ptxr] using g2,hD2,.cons hv2 .nil,Nat.zero_le _,rfl⟩⟩,fun m σ H3 h=>?_⟩
 rw[hW] at h
 refine L2.put_away fun G'3241 h'3241=>?_
 obtain⟨k,xs,rfl,g3,hD3,hx3,hk,rfl⟩:=h
 refine h'3241 ?_
 have e3:l.drop (i+(ptxs (p::ps'.take k)).length)=ptxr (ps'.drop k)++(clL++r):=by
  refine z3P ?_
  rw[e0]
  simp only [ptxs,List.append_assoc]
  rw[←List.append_assoc (ptxr (ps'.take k)),←z7V,List.take_append_drop]
 have hd3:=g3.at_
 obtain⟨dz,h3⟩:=g3.at_
 have ld3:=congrArg List.length e3
 rw[List.length_drop,List.length_append,List.length_append] at ld3
 walk_at "wp"
 rw[y6d]
 refine⟨a,dz,_,rfl,h3,z2P,a,l,cmL,_,rfl,hd3,ll,by omega,by decide,by decide,fun c=>?_,fun c H4 g4=>?_⟩
 ·walk_at "wp"
  have ek:k=ps'.length:=by
   rcases Nat.lt_or_ge k ps'.length with z|z
   ·exfalso
    refine c ?_
    rw[e3,List.drop_eq_getElem_cons z]
    simp only [ptxr,List.append_assoc]
    exact List.take_left
   ·omega
  subst ek
  rw[List.drop_length] at e3
  rw[List.take_length] at e3 g3 hx3 hd3 h3 ld3
  rw[y4o]
  have e4:l.drop (i+(ptxs (p::ps')).length)=clL++r:=by rw[e3];rfl
  refine⟨a,dz,_,rfl,h3,z2P,a,l,clL,_,rfl,hd3,ll,by omega,by decide,by decide,by rw[e4];exact List.take_left,fun H4 g4=>?_⟩
  exact q D xs H4 (g3.trans g4) fD (g4.lst hd3 _ _ hD3) (z3B (g4.tup hd3) (fun b xs _ e=>g4.lst hd3 b xs e) (hx3.imp fun b hb=>hb.1))
 ·walk_at "wp"
  have hk2:k<ps'.length:=by
   rcases Nat.lt_or_ge k ps'.length with z|z
   ·exact z
   ·exfalso
    rw[e3,List.drop_eq_nil_of_le z] at c
    simp [ptxr,clL,cmL] at c
  obtain⟨q0,rest,eq0⟩:∃q0 rest,ps'.drop k=q0::rest:=⟨_,_,List.drop_eq_getElem_cons hk2⟩
  have mq:q0∈ps':=List.mem_of_mem_drop (by rw[eq0];simp)
  have eg:ps'[k]?=some q0:=by
   have:=congrArg (fun x=>x[0]?) eq0
   simpa using this
  have e4:l.drop (i+(ptxs (p::ps'.take k)).length+cmL.length)=ptx q0++(ptxr rest++(clL++r)):=by
   refine z3P ?_
   rw[e3,eq0]
   simp only [ptxr,List.append_assoc]
  have hd4:=g4.at_
  obtain⟨d4,h4⟩:=g4.at_
  have hD4:=g4.lst hd3 _ _ hD3
  have dq:=Pap.dep_mem mq
  refine⟨_,fun _ _ h=>h,.inl ⟨rfl,_,SqL.of hD4⟩,a,d4,_,rfl,h4,z2P,a,l,_,_,ab,q0,rfl,hd4,ll,e4,okp.2.mem q0 mq,by have:=Pap.kn_mem mq;omega,by omega,ab0,by omega,z6f _ _,fun v5 H5 g5 hv5=>?_⟩
  have hD5:=g5.lst hd4 _ _ hD4
  have lx:=hx3.len
  rw[List.length_cons,List.length_take] at lx
  rw[List.length_cons] at lp
  refine⟨D,xs,_,rfl,rfl,hD5,by rw[sizeLine_eq];omega,ps'.length-(k+1),by omega,?_⟩
  rw[hW]
  have et:ps'.take (k+1)=ps'.take k++[q0]:=by rw[List.take_add_one,eg];rfl
  have el5:i+(ptxs (p::ps'.take k)).length+cmL.length+(ptx q0).length=i+(ptxs (p::ps'.take (k+1))).length:=by
   rw[et]
   simp only [ptxs,z7V,ptxr,List.length_append,List.length_nil]
   omega
  have g6:=(g3.trans g4).trans g5
  rw[el5] at g6
  have hx5:=z3B (g5.tup hd4) (fun b xs _ e=>g5.lst hd4 b xs e) (z3B (g4.tup hd3) (fun b xs _ e=>g4.lst hd3 b xs e) hx3)
  have nn:∀b,H4 b=none->H' b=none/\b≠D:=fun b hb=>⟨(g3.trans g4).free hb (fun e=>by rw[e,h4] at hb;cases hb),fun e=>by rw[e,hD4] at hb;cases hb⟩
  refine⟨k+1,xs++[v5],rfl,g6.write fD nDa _,z0F,?_,hk2,rfl⟩
  rw[et]
  exact (hx5.snoc (hv5.imp nn)).write hD5 fun l hl=>hl.2
theorem z9L {C:Addr} {d:Nat} (cl_PaperReader:Cls K C) (T:TM K C "next_paper" "PaperReader.next_paper" z0Z) (c_MOST_DEPTH:CI mg "MOST_DEPTH" 40) (G_PaperReader_passes:HasM P w K mg base 1 C "passes" ["self", "signs"] (z2n C)) (G_PaperReader_needs:HasM P w K mg base 2 C "needs" ["self", "signs"] (z4s C)) (G_PaperReader_next_number:HasM P w K mg base 3 C "next_number" ["self"] (z9w C)) (G_PaperReader_next_papers:HasM P w K mg base (2*d+5) C "next_papers" ["self", "above"] (y1D K C d)):HasM P w K mg base (2*(d+1)+4) C "next_paper" ["self", "above"] (z5H K C (d+1)):=by
 refine T.has z0o (fun _ _ _ _ _ _=>L2.bnd2 fun _ _=>rfl) (fun vs H Q E h=>?_) (fun f cdv A outer s H vs Q E hr h=>?_)
 ·refine L2.put_away fun G'3311 h'3311=>?_
  obtain⟨a,l,r,i,ab,p,rfl,_⟩:=h
  refine h'3311 ?_
  rfl
 refine L2.put_away fun G'3313 h'3313=>?_
 obtain⟨a,l,r,i,ab,p,rfl,hd,ll,el,ok,kp,hdp,ab0,ab1,nf,q⟩:=h
 refine h'3313 ?_
 have hd':=hd
 obtain⟨dx,hd⟩:=hd
 have ld:=congrArg List.length el
 rw[List.length_drop,List.length_append] at ld
 refine⟨_,(z0B (ps_if (z1C (z1m (pv 0) cl_PaperReader (G_PaperReader_passes.mono (by first|decide|omega)) hr (z0A z0N z0C)) (fun _=>rfl)) (z0D (z0I (z1y (z0A z0N (z0A (y3b (pv 0) cl_PaperReader (G_PaperReader_next_number.mono (by first|decide|omega)) hr) z0C))))) z0K) (z0B (ps_if (z0L op_eq (pv 1) (pe_ci rfl c_MOST_DEPTH) (z0T _)) (z0D z0x) z0K) (z0B (z1k (z1m (pv 0) cl_PaperReader (G_PaperReader_needs.mono (by first|decide|omega)) hr (z0A z0N z0C))) (z0B (z0P (i:=2) z0o.nd rfl (Or.inl rfl) (y3b (pv 0) cl_PaperReader (G_PaperReader_next_number.mono (by first|decide|omega)) hr)) (z0B (z1k (z1m (pv 0) cl_PaperReader (G_PaperReader_needs.mono (by first|decide|omega)) hr (z0A z0N z0C))) (z0D (z0I (z1y (z0A z0N (z0A (pv 2) (z0A (z1m (pv 0) cl_PaperReader (G_PaperReader_next_papers.mono (by first|decide|omega)) hr (z0A (pe_op z1M (pv 1) z0E) z0C)) z0C))))))))))),?_⟩
 walk_at "wp"
 rw[y6Z]
 have lp:3<=(ptx p).length:=by
  cases p <;> simp [ptx,inL,byL] <;> omega
 refine⟨a,dx,_,rfl,hd,z2P,a,l,inL,i,rfl,hd',ll,by omega,by decide,by decide,fun c=>?_,fun c H1 g1=>?_⟩
 ·cases p with
  | inn k=>
   exfalso
   refine c ?_
   rw[el]
   simp only [ptx,List.append_assoc]
   exact List.take_left
  | par b ps=>
   obtain⟨okb,oks⟩:=ok.par
   simp only [Pap.dep] at hdp ab1
   simp only [Pap.kn] at kp
   have e1:l.drop i=byL++(dg b++(opL++(ptxs ps++(clL++r)))):=by
    rw[el]
    simp only [ptx,List.append_assoc]
   walk_at "wp"
   refine⟨fun z=>by omega,fun _=>⟨a,dx,_,rfl,hd,z2P,?_⟩⟩
   rw[y6f]
   refine⟨a,l,byL,i,rfl,hd',ll,by omega,by decide,by decide,by rw[e1];exact List.take_left,fun H1 g1=>?_⟩
   have hd1:=g1.at_
   obtain⟨d1,h1⟩:=g1.at_
   have e2:=z3P e1
   refine⟨a,d1,_,rfl,h1,z2P,a,l,_,_,b,rfl,hd1,ll,e2,okb,(fun c e=>by
    have:c=32:=by simpa [opL] using e.symm
    omega),fun H2 g2=>?_⟩
   have hd2:=g2.at_
   obtain⟨d2,h2⟩:=g2.at_
   have e3:=z3P e2
   have l3:=congrArg List.length e3
   rw[List.length_drop,List.length_append] at l3
   have o2:opL.length=2:=rfl
   refine⟨a,d2,_,rfl,h2,z2P,?_⟩
   rw[y6W]
   refine⟨a,l,opL,_,rfl,hd2,ll,by omega,by decide,by decide,by rw[e3];exact List.take_left,fun H3 g3=>?_⟩
   have hd3:=g3.at_
   obtain⟨d3,h3⟩:=g3.at_
   have e4:=z3P e3
   refine⟨a,d3,_,rfl,h3,z2P,a,l,r,_,ab+1,ps,rfl,hd3,ll,e4,oks,by omega,by omega,by omega,by omega,fun D xs H4 g4 nD hD hx t nt=>?_⟩
   have G3:=(g1.trans g2).trans g3
   have nn:∀x,H3 x=none->H x=none:=fun x hx=>G3.free hx fun e=>by rw[e,h3] at hx;cases hx
   have G4:=G3.trans g4
   have gt:=z0H nt (.tup [V.str "parted",.int b,.ref D])
   have ep:i+byL.length+(dg b).length+opL.length+(ptxs ps).length+1=i+(ptx (.par b ps)).length:=by
    simp only [ptx,List.length_append,clL,List.length_cons,List.length_nil]
    omega
   rw[ep] at G4
   refine q (.ref t) _ (G4.new nt _) (.par z0F (gt _ _ hD) (nn D nD) ?_ ((hx.imp nn).mono gt))
   have:=hx.len
   have:=Pap.kns_len ps
   omega
 ·cases p with
  | par b ps=>
   exfalso
   rw[el] at c
   simp [ptx,inL,byL] at c
  | inn k=>
   have e1:l.drop i=inL++(dg k++r):=by
    rw[el]
    simp only [ptx,List.append_assoc]
   walk_at "wp"
   have hd1:=g1.at_
   obtain⟨d1,h1⟩:=g1.at_
   refine⟨a,d1,_,rfl,h1,z2P,a,l,r,_,k,rfl,hd1,ll,z3P e1,ok.inn,nf,fun H2 g2 t nt=>?_⟩
   have ep:i+inL.length+(dg k).length=i+(ptx (.inn k)).length:=by
    simp only [ptx,List.length_append]
    omega
   have G2:=g1.trans g2
   rw[ep] at G2
   exact q (.ref t) _ (G2.new nt _) (.inn z0F)
theorem y0f {C:Addr} (T:TM K C "next_paper" "PaperReader.next_paper" z0Z):HasM P w K mg base 4 C "next_paper" ["self", "above"] (z5H K C 0):=by
 refine T.has (k:=3) z0o (fun _ _ _ _ _ _=>L2.bnd2 fun _ _=>rfl) (fun vs H Q E h=>?_) (fun f cdv A outer s H vs Q E hr h=>?_)
 ·refine L2.put_away fun G'3394 h'3394=>?_
  obtain⟨_,_,_,_,_,_,_,_,_,_,_,_,h,_⟩:=h
  refine h'3394 ?_
  exact absurd h (Nat.not_lt_zero _)
 ·refine L2.put_away fun G'3396 h'3396=>?_
  obtain⟨_,_,_,_,_,_,_,_,_,_,_,_,h,_⟩:=h
  refine h'3396 ?_
  exact absurd h (Nat.not_lt_zero _)
theorem z6q {C:Addr} (cl:Cls K C) (T1:TM K C "next_paper" "PaperReader.next_paper" z0Z) (T2:TM K C "next_papers" "PaperReader.next_papers" z0c) (c_MOST_DEPTH:CI mg "MOST_DEPTH" 40) (G1:HasM P w K mg base 1 C "passes" ["self", "signs"] (z2n C)) (G2:HasM P w K mg base 2 C "needs" ["self", "signs"] (z4s C)) (G3:HasM P w K mg base 3 C "next_number" ["self"] (z9w C)):∀d:Nat,HasM P w K mg base (2*d+4) C "next_paper" ["self", "above"] (z5H K C d)
 | 0=>y0f T1
 | d+1=>z9L cl T1 c_MOST_DEPTH G1 G2 G3 (z7t cl T2 G1 G2 (z6q cl T1 T2 c_MOST_DEPTH G1 G2 G3 d))
noncomputable def y1C (C:Addr):Sp:=fun vs H Q _=>∃(x dx:Addr) (l:List Nat),vs=[.ref x,.str (tx l)]/\H x=some (.ins C dx [])/\∀H',Rd C H H' x l 0->Q .non H'
theorem y7T {C:Addr} (X:RdTx K C) (T:TM K C "__init__" "PaperReader.__init__" z0u):HasM P w K mg base 1 C "__init__" ["self", "text"] (y1C C):=by
 refine T.has z2T (fun _ _ _ _ _ _=>L2.bnd2 fun _ _=>rfl) (fun vs H Q E h=>?_) (fun f cdv A outer s H vs Q E hr h=>?_)
 ·refine L2.put_away fun G'3405 h'3405=>?_
  obtain⟨x,dx,l,rfl,_⟩:=h
  refine h'3405 ?_
  rfl
 refine L2.put_away fun G'3407 h'3407=>?_
 obtain⟨x,dx,l,rfl,hx,q⟩:=h
 refine h'3407 ?_
 refine⟨_,(z0B (y3V (pv 0) (pv 1) rfl) (z0D (y3V (pv 0) z0E rfl))),?_⟩
 walk_at "wp"
 refine⟨x,C,dx,[],rfl,hx,X.cl,X.nT,by decide,x,C,dx,_,rfl,z0F,X.cl,X.nP,by show 1<1000;decide,?_⟩
 have e:putF ("place" : Str) (.int 0) (putF ("text" : Str) (.str (tx l)) [])=flds l 0:=by
  show (if ("text" : Str) = "place" then _ else (("text" : Str),V.str (tx l))::putF ("place" : Str) (.int 0) [])=_
  rw[if_neg (by decide +kernel)]
  rfl
 rw[e]
 refine q _ ⟨⟨dx,z0F⟩,fun b o hb e=>?_⟩
 rw[z0U hb,z0U hb]
 exact e
noncomputable def z5G (K:PySem.W.Frag):Sp:=fun vs H Q _=>∃p:Pap,vs=[.str (tx (ptx p))]/\POk p/\p.kn<=800/\p.dep<=40/\∀(v:V) (H':Hp),Same H H'->PapIn K (fun b=>H b=none) H' v p->Q v H'
theorem z9I {C:Addr} (X:RdTx K C) (cl_PaperReader:Cls K C) (mk_PaperReader:PySem.W.makesIn K C=true) (kc_PaperReader:PySem.W.keepIn K (.ref C)=true) (mg_PaperReader:mg "PaperReader" = some (.ref C)) (T:TF K mg "read_paper" z2u) (m_len:mg "len" = none) (G_PaperReader___init__:HasM P w K mg base 1 C "__init__" ["self", "text"] (y1C C)) (G_PaperReader_next_paper:HasM P w K mg base (2*41+4) C "next_paper" ["self", "above"] (z5H K C 41)):Has P w K mg base 87 "read_paper" ["text"] (z5G K):=by
 refine T.has z2R (fun _ _ _ _ _ _=>L2.bnd1 fun _=>rfl) (fun vs H Q E h=>?_) (fun f cdv A outer s H vs Q E hr h=>?_)
 ·refine L2.put_away fun G'3422 h'3422=>?_
  obtain⟨p,rfl,_⟩:=h
  refine h'3422 ?_
  rfl
 refine L2.put_away fun G'3424 h'3424=>?_
 obtain⟨p,rfl,ok,kp,dp,q⟩:=h
 refine h'3424 ?_
 refine⟨_,(z0B (z0P (i:=1) z2R.nd rfl (Or.inl rfl) (pe_mk (G_PaperReader___init__.mono (by first|decide|omega)) mk_PaperReader kc_PaperReader hr rfl mg_PaperReader (z0A (pv 0) z0C))) (z0B (z0P (i:=2) z2R.nd rfl (Or.inl rfl) (z1m (pv 1) cl_PaperReader (G_PaperReader_next_paper.mono (by first|decide|omega)) hr (z0A z0E z0C))) (z0B (ps_if (z0L op_ne (z2O (pv 1) rfl) (z0M z0w rfl m_len PySem.boot_len (z0A (pv 0) z0C)) (z0T _)) (z0D z0x) z0K) (z0D (z0I (pv 2)))))),?_⟩
 have lp:=z3A p ok
 walk_at "wp"
 intro x dx nx ndx hne
 refine⟨x,dx,ptx p,rfl,z0F,fun H1 g1=>⟨rfl,?_⟩⟩
 have hd1:=g1.at_
 obtain⟨d1,h1⟩:=g1.at_
 walk_at "wp"
 refine⟨x,d1,_,rfl,h1,z2P,x,ptx p,[],0,0,p,rfl,hd1,by omega,by simp,ok,by omega,by omega,by decide,by omega,(fun c e=>by simp at e),fun v H2 g2 hv=>?_⟩
 obtain⟨d2,h2⟩:=g2.at_
 have S1:Same H H1:=fun b o e=>g1.same b o (z0O e nx) (by rw[z0U (z0O e nx),z0U (z0O e ndx)];exact e)
 have S2:Same H H2:=fun b o e=>g2.same b o (z0O e nx) (S1 b o e)
 walk_at "wp"
 refine⟨x,C,d2,_,_,rfl,h2,X.cl,X.nP,z1h _ _,?_⟩
 walk_at "wp"
 refine⟨tx (ptx p),rfl,by rw[z0V];omega,?_⟩
 rw[z0V]
 refine⟨fun c=>absurd rfl c,fun _=>q v H2 S2 (hv.imp fun b hb=>S1.free hb)⟩
noncomputable def z4r (K:PySem.W.Frag) (d:Nat):Sp:=fun vs H Q _=>∃(v:V) (p:Pap),vs=[v]/\PapIn K anyL H v p/\POk p/\p.kn<=800/\p.dep<d/\∀H',Same H H'->Q (.str (tx (ptx p))) H'
theorem y6F {d:Nat} {D:Addr} {xs:List V} {ps:List Pap} {own:List Str} {fr:List Nat} {σ:St} {H:Hp} {Q:VK} (hD:H D=some (.lst xs)) (hx:PapsIn K anyL H xs ps) (ok:POks ps) (kp:Pap.kns ps<=800) (dp:Pap.deps ps<d) (hst:st0 own fr σ=[none]) (hq:∀(F:Addr) (H':Hp),Same H H'->H F=none->H' F=some (.lst ((ps.map fun p=>tx (ptx p)).map V.str))->Q (.ref F) H') :
  CompW (Itl K D) (gName 0) tTrue (tCall (z4r K d) [] E0 (tCons (tVar 0) tNil)) own fr σ H Q:=by
 have ln:=Pap.kns_len ps
 have lx:=hx.len
 obtain⟨Sv,hSv⟩:∃Sv:St->Prop,Sv=fun σ=>∃o1,σ=[o1]:=⟨_,rfl⟩
 obtain⟨Pv,hPv⟩:∃Pv:Addr->Nat->List V->Hp->Prop,Pv=fun D2 i ys H2=>H D2=none/\Same H H2/\ys=((ps.take i).map fun p=>tx (ptx p)).map V.str:=⟨_,rfl⟩
 refine z0z (xs:=xs) Sv Pv (by rw[hSv,hst];exact⟨none,rfl⟩) (fun D2 hD2=>?_) (fun D2 i ys H2 hD2 h=>?_) (fun D2 i x ys σ H2 hx' hi hs hD2 hy h=>?_) (fun D2 ys H2 hD2 h=>?_)
 ·rw[hPv]
  exact⟨hD2,z0H hD2 _,rfl⟩
 ·rw[hPv] at h
  exact SqL.of (h.2.1 _ _ hD)
 ·rw[hSv] at hs
  rw[hPv] at h
  obtain⟨o1,rfl⟩:=hs
  refine L2.put_away fun G'3458 h'3458=>?_
  obtain⟨nD2,g,rfl⟩:=h
  refine h'3458 ?_
  refine L2.put_away fun G'3459 h'3459=>?_
  obtain⟨p,ep,hp⟩:=hx.at hx'
  refine h'3459 ?_
  have mp:=List.mem_of_getElem? ep
  have k1:=Pap.kn_mem mp
  have k2:=Pap.dep_mem mp
  walk_at "wp"
  refine⟨x,p,rfl,hp.mono g,ok.mem p mp,by omega,by omega,fun H3 g3=>?_⟩
  refine CompP.mk (g3 _ _ hD2) hy (by rw[sizeLine_eq];omega) (by rw[hSv];exact⟨_,rfl⟩) (by
   rw[hPv]
   refine⟨nD2,(g.trans g3).write nD2 _,?_⟩
   rw[List.take_add_one,ep]
   simp)
 ·rw[hPv] at h
  refine L2.put_away fun G'3471 h'3471=>?_
  obtain⟨nD2,g,rfl⟩:=h
  refine h'3471 ?_
  rw[lx,List.take_length] at hD2
  exact hq D2 H2 g nD2 hD2
theorem y1n:∀(ps:List Pap) (k:Nat),POks ps->(ps.map fun p=>tx (ptx p)).foldl (· + ·.length+(tx cmL).length) k<=k+112*Pap.kns ps
 | [],k,_=>by simp
 | p::ps,k,h=>by
  have h1:=z3A p h.cons.1
  have h2:=y1n ps (k+(tx (ptx p)).length+(tx cmL).length) h.cons.2
  have h3:cmL.length=2:=rfl
  rw[List.map_cons,List.foldl_cons]
  simp only [Pap.kns]
  simp only [z0V] at h2 ⊢
  omega
theorem y5r {ps:List Pap} (ok:POks ps) (kp:Pap.kns ps<=800):(ps.map fun p=>tx (ptx p)).toArray.foldl (· + ·.length+(tx cmL).length) 0<=16777216/\(Builtin.Str.glued (tx cmL) (ps.map fun p=>tx (ptx p))).length<=16777216:=by
 have ln:=Pap.kns_len ps
 constructor
 ·rw[List.foldl_toArray]
  have:=y1n ps 0 ok
  omega
 ·rw[y1l,z0V]
  have:=z7U ps ok
  omega
theorem eE:Str.empty=tx []:=rfl
theorem z7p (T:TF K mg "shown_paper" z2V):∀d:Nat,Has P w K mg base (d+1) "shown_paper" ["paper"] (z4r K d):=by
 intro d
 induction d with
 | zero=>
  refine T.has z1W (fun _ _ _ _ _ _=>L2.bnd1 fun _=>rfl) (fun vs H Q E h=>?_) (fun f cdv A outer s H vs Q E hr h=>?_)
  ·refine L2.put_away fun G'3499 h'3499=>?_
   obtain⟨_,_,_,_,_,_,h,_⟩:=h
   refine h'3499 ?_
   exact absurd h (Nat.not_lt_zero _)
  ·refine L2.put_away fun G'3501 h'3501=>?_
   obtain⟨_,_,_,_,_,_,h,_⟩:=h
   refine h'3501 ?_
   exact absurd h (Nat.not_lt_zero _)
 | succ d ih=>
 have G_shown_paper:=ih
 refine T.has z1W (fun _ _ _ _ _ _=>L2.bnd1 fun _=>rfl) (fun vs H Q E h=>?_) (fun f cdv A outer s H vs Q E hr h=>?_)
 ·refine L2.put_away fun G'3506 h'3506=>?_
  obtain⟨v,p,rfl,_⟩:=h
  refine h'3506 ?_
  rfl
 refine L2.put_away fun G'3508 h'3508=>?_
 obtain⟨v,p,rfl,hv,ok,kp,dp,q⟩:=h
 refine h'3508 ?_
 refine⟨_,(z0B (z0P (i:=1) z1W.nd rfl (Or.inl rfl) (pe_ix z0R (pv 0) z0E (fun _ _=>rfl))) (z0B (ps_if (z0L op_eq (pe_ix z0R (pv 0) z0E (fun _ _=>rfl)) z0N (z0T _)) (z0D (z0I (z5b (z1L z0N (z1L (z5d (pv 1)) z8x))))) z0K) (z0B (z0P (i:=2) z1W.nd rfl (Or.inl rfl) (pe_bm PySem.F.plainAttrs_str PySem.F.slot_str_join PySem.F.type_str_join y0O z0N (z0A (z1F (CompSc.none (own:=["below"]) (by decide +kernel) (by decide +kernel) rfl (by decide +kernel)) rfl (z0q (pe_ix z0R (pv 0) z0E (fun _ _=>rfl))) (fun _ _ _=>(z0S (i:=0) (show (["below"]:List Str).Nodup from by decide +kernel) rfl (Or.inl rfl) (Or.inr rfl))) (fun _ _ _=>z0v) (fun _ _ _=>(z0J (G_shown_paper.mono (by first|decide|omega)) hr (z0A (pv 0) z0C)))) z0C))) (z0D (z0I (z5b (z1L z0N (z1L (z5d (pv 1)) (z1L z0N (z1L (z5d (pv 2)) (z1L z0N z8x))))))))))),?_⟩
 cases hv with
 | @inn b0 k hb=>
  have hT:SqT K H b0 [.str "in",.int k]:=SqT.of hb
  have dk:=ok.inn
  have l1:=dk.len
  have e1:Str.empty++tx inL=tx inL:=by rw[eE,z1H];rfl
  have e2:tx inL++tx (dg k)=tx (ptx (.inn k)):=by rw[z1H];simp only [ptx]
  have l2:(ptx (.inn k)).length<=1000:=by simp only [ptx,List.length_append,inL,List.length_cons,List.length_nil];omega
  walk_at "wp"
  refine⟨_,_,_,.int k,rfl,rfl,hT,rfl,_,_,_,.str "in",rfl,rfl,hT,rfl,rfl,_,rfl,fun _=>?_,fun c=>absurd (decide_eq_true rfl) c⟩
  rw[y6Z]
  refine⟨_,rfl,by rw[e1,z0V];decide,.inl ⟨k,rfl,dk.sz,_,rfl,?_⟩⟩
  rw[z3m,e1,e2,z0V]
  exact⟨by omega,by omega,q H (Same.refl H)⟩
 | @par b0 l bb zs ps hb hl _ lz hs=>
  have hT:SqT K H b0 [.str "parted",.int bb,.ref l]:=SqT.of hb
  obtain⟨okb,oks⟩:=ok.par
  simp only [Pap.dep] at dp
  simp only [Pap.kn] at kp
  have l1:=okb.len
  have l2:=z7U ps oks
  have e1:Str.empty++tx byL=tx byL:=by rw[eE,z1H];rfl
  have e5:tx byL++tx (dg bb)++tx opL++tx (ptxs ps)++tx clL=tx (ptx (.par bb ps)):=by
   rw[z1H,z1H,z1H,z1H]
   simp only [ptx,List.append_assoc]
  walk_at "wp"
  refine⟨_,_,_,.int bb,rfl,rfl,hT,rfl,_,_,_,.str "parted",rfl,rfl,hT,rfl,rfl,_,rfl,fun c=>absurd (of_decide_eq_true c) (by decide +kernel),fun _=>⟨rfl,_,_,_,.ref l,rfl,rfl,hT,rfl,_,rfl,⟨_,SqL.of hl⟩,?_⟩⟩
  refine y6F hl hs oks (by omega) (by omega) rfl fun F H1 g1 nF hF=>?_
  have jt:=y5r oks (by omega:Pap.kns ps<=800)
  rw[y6d,y6f,y6W,y4o]
  refine⟨_,F,_,rfl,rfl,SqL.of hF,jt.1,jt.2,?_⟩
  rw[y1l]
  have b3:byL.length=3:=rfl
  have o2:opL.length=2:=rfl
  have c1:clL.length=1:=rfl
  refine⟨_,rfl,by rw[e1,z0V];decide,.inl ⟨bb,rfl,okb.sz,_,rfl,?_⟩⟩
  rw[z3m,e1]
  refine⟨by rw[z1H,z0V,List.length_append];omega,_,rfl,by rw[z1H,z1H,z0V,List.length_append,List.length_append];omega,.inr ⟨_,rfl,by rw[z0V];omega,_,rfl,?_⟩⟩
  refine⟨by rw[z1H,z1H,z1H,z0V,List.length_append,List.length_append,List.length_append];omega,_,rfl,?_⟩
  rw[e5,z0V]
  have l5:(ptx (.par bb ps)).length<=100000:=by
   simp only [ptx,List.length_append]
   omega
  exact⟨by omega,by omega,q H1 g1⟩
theorem y0b {k:Nat} {C:Addr} {x:Str} {ps:List Str} {sp sp':Sp} (h:HasMX P w K mg base k C x ps sp) (i:∀vs H Q E,sp' vs H Q E->sp vs H Q fun _ _ _=>False):HasM P w K mg base k C x ps sp':=by
 refine L2.put_away fun G'3563 h'3563=>?_
 obtain⟨f,fd,F,hb,hm⟩:=h
 refine h'3563 ?_
 refine⟨f,fd,⟨fun vs H Q E z=>F.len vs H Q _ (i vs H Q E z),fun A outer s H args us vs Q E hr e0 hbt hv z=>PySem.codeAny_mono (F.run A outer s H args us vs Q _ hr e0 hbt hv (i vs H Q E z)) fun r s' hq=>?_⟩,hb,hm⟩
 cases r with
 | error e=>
  refine L2.put_away fun G'3567 h'3567=>?_
  obtain⟨_,_,_,_,_,_,_,_,_,z⟩:=hq
  refine h'3567 ?_
  exact z.elim
 | ok fl=>cases fl <;> exact hq
theorem y3W {ws us:List T3} {W:Int} (hw:∀u∈ws,Wk u) (hu:∀u∈us,Wk u) (dw:∀u∈ws,u.1∣W) (du:∀u∈us,u.1∣W) (W1:1<=W) (k:Int):1<=prd ws us k/\prd ws us k<=W:=by
 have g:∀ {l:List T3} (_:∀u∈l,Wk u) (_:∀u∈l,u.1∣W) (i:Nat),1<=(l.getD i (1,0,1)).1/\(l.getD i (1,0,1)).1∣W:=fun {l} hl dl i=>by
  by_cases c:i<l.length
  ·rw[List.getD_eq_getElem?_getD,List.getElem?_eq_getElem c]
   exact⟨(hl _ (List.getElem_mem c)).1,dl _ (List.getElem_mem c)⟩
  ·rw[List.getD_eq_getElem?_getD,List.getElem?_eq_none (by omega)]
   exact⟨Int.le_refl _,Int.one_dvd _⟩
 have g1:=g hw dw (k/(us.length:Int)).toNat
 have g2:=g hu du (k%(us.length:Int)).toNat
 unfold prd
 have p:∀x∈[(ws.getD (k/(us.length:Int)).toNat (1,0,1)).1,(us.getD (k%(us.length:Int)).toNat (1,0,1)).1],1<=x/\x∣W:=fun x hx=>by
  simp only [List.mem_cons,List.not_mem_nil,or_false] at hx
  rcases hx with rfl|rfl
  ·exact g1
  ·exact g2
 exact⟨z2i fun x hx=>(p x hx).1,Int.le_of_dvd (by omega) ((z3C fun x hx=>(p x hx).1).mpr fun x hx=>(p x hx).2)⟩
mutual
theorem y1W {ws:List T3} (hl:ws.length<=1000):∀ {p:Pap} {s r:Int},p.kn<=1000->z0Y ws s r p=true->POk p
 | .inn k,s,r,_,h=>by
  simp only [z0Y,Bool.and_eq_true,decide_eq_true_eq] at h
  intro n hn
  simp only [nums,List.mem_cons,List.not_mem_nil,or_false] at hn
  rw[hn]
  have e:(1000:Int)<10^100:=by decide +kernel
  exact dgOk h.1 (by omega)
 | .par b ps,s,r,hk,h=>by
  simp only [z0Y,Bool.and_eq_true,decide_eq_true_eq] at h
  simp only [Pap.kn] at hk
  have hn:=Pap.kns_len ps
  have e:(1000:Int)<10^100:=by decide +kernel
  intro n hn2
  simp only [nums,List.mem_cons] at hn2
  rcases hn2 with rfl|hn2
  ·exact dgOk (by omega) (by omega)
  ·exact z8s hl (by omega) h.2.2 n hn2
theorem z8s {ws:List T3} (hl:ws.length<=1000):∀ {ps:List Pap} {s r b:Int} {c:Nat},Pap.kns ps<=1000->z0h ws s r b c ps=true->POks ps
 | [],s,r,b,c,_,_=>fun n hn=>by simp [numss] at hn
 | p::ps,s,r,b,c,hk,h=>by
  simp only [z0h,Bool.and_eq_true] at h
  simp only [Pap.kns] at hk
  intro n hn
  simp only [numss,List.mem_append] at hn
  rcases hn with hn|hn
  ·exact y1W hl (by omega) h.1 n hn
  ·exact z8s hl (by omega) h.2 n hn
end
noncomputable def lonL:List Nat:=(Str.ofString "lonely at ").cps.toList
noncomputable def suL:List Nat:=(Str.ofString "sure within ").cps.toList
noncomputable def bbL:List Nat:=(Str.ofString " by ").cps.toList
noncomputable def wroL:List Nat:=(Str.ofString "wrong").cps.toList
noncomputable def rwL:List Nat:=(Str.ofString "right within ").cps.toList
noncomputable def Sml (ws us:List T3) (W:Int):Prop:=KpP ws/\KpP us/\(∀u∈ws,u.1∣W)/\(∀u∈us,u.1∣W)/\1<=W/\W<=30
noncomputable def SureA (ws us:List T3) (l:List Nat):Prop:=(∃i:Int,holeN (shs ws us) (lcms ((shs ws us).map (·.1))).toNat=some i/\l=lonL++dg i)∨
 (holeN (shs ws us) (lcms ((shs ws us).map (·.1))).toNat=none/\∃p M,PopR (shs ws us) 1 0 (upto (shs ws us).length) p/\IsMx (prd ws us) p.nm M/\DgOk M/\POk p/\p.kn<64/\p.dep<=13/\l=suL++dg M++bbL++ptx p)
theorem SureA.uniq {ws us:List T3} {k l:List Nat} (h:SureA ws us k) (g:SureA ws us l):k=l:=by
 rcases h with⟨i,e,rfl⟩|⟨e,p,M,hp,hM,_,_,_,_,rfl⟩
 ·rcases g with⟨j,e2,rfl⟩|⟨e2,_⟩
  ·rw[e] at e2
   cases e2
   rfl
  ·rw[e] at e2
   cases e2
 ·rcases g with⟨j,e2,rfl⟩|⟨e2,q,N,hq,hN,_,_,_,_,rfl⟩
  ·rw[e] at e2
   cases e2
  ·obtain rfl:=hp.uniq hq
   rw[hM.uniq hN]
noncomputable def y3A (K:PySem.W.Frag):Sp:=fun vs H Q _=>∃(a b:Addr) (xs ys:List V) (ws us:List T3) (W:Int),vs=[.ref a,.ref b]/\H a=some (.lst xs)/\Pl H xs ws/\H b=some (.lst ys)/\Pl H ys us/\Sml ws us W/\∀l H',Same H H'->SureA ws us l->Q (.str (tx l)) H'
theorem z7o (T:TF K mg "sure_answer" z2U) (G_meeting_paper:Has P w K mg base 18 "meeting_paper" ["one", "other"] (z6V K)) (G_lonely_shift:Has P w K mg base 5 "lonely_shift" ["one", "other"] (z8f K)) (G_paper_wait:Has P w K mg base 20 "paper_wait" ["one", "other", "paper"] (z3s K 14)) (G_shown_paper:Has P w K mg base 15 "shown_paper" ["paper"] (z4r K 14)):Has P w K mg base 21 "sure_answer" ["one", "other"] (y3A K):=by
 refine T.has z1I (fun _ _ _ _ _ _=>L2.bnd2 fun _ _=>rfl) (fun vs H Q E h=>?_) (fun f cdv A outer s H vs Q E hr h=>?_)
 ·refine L2.put_away fun G'3643 h'3643=>?_
  obtain⟨a,b,xs,ys,ws,us,W,rfl,_⟩:=h
  refine h'3643 ?_
  rfl
 refine L2.put_away fun G'3645 h'3645=>?_
 obtain⟨a,b,xs,ys,ws,us,W,rfl,ha,hP,hb,hP2,⟨kw,ku,dw,du,W1,W3⟩,q⟩:=h
 refine h'3645 ?_
 refine⟨_,(z0B (z0P (i:=2) z1I.nd rfl (Or.inl rfl) (z0J (G_meeting_paper.mono (by first|decide|omega)) hr (z0A (pv 0) (z0A (pv 1) z0C)))) (z0B (ps_if (z0L y6U (pv 2) z6j (z0T _)) (z0B (z0P (i:=3) z1I.nd rfl (Or.inl rfl) (z0J (G_lonely_shift.mono (by first|decide|omega)) hr (z0A (pv 0) (z0A (pv 1) z0C)))) (z0D (z0I (z5b (z1L z0N (z1L (z5d (pv 3)) z8x)))))) z0K) (z0B (z0P (i:=4) z1I.nd rfl (Or.inl rfl) (z0J (G_paper_wait.mono (by first|decide|omega)) hr (z0A (pv 0) (z0A (pv 1) (z0A (pv 2) z0C))))) (z0B (z0P (i:=5) z1I.nd rfl (Or.inl rfl) (z0J (G_shown_paper.mono (by first|decide|omega)) hr (z0A (pv 2) z0C))) (z0D (z0I (z5b (z1L z0N (z1L (z5d (pv 4)) (z1L z0N (z1L (z5d (pv 5)) z8x))))))))))),?_⟩
 walk_at "wpd"
 have e900:(2:Int)^900<2^1000:=by decide +kernel
 have kw1:=kw.2.2
 have ku1:=ku.2.2
 have ls:=y1g kw.1 dw du W1
 have L0:=ls.1
 have L1:lcms ((shs ws us).map (·.1))<=30:=by have:=ls.2.2.1;omega
 have eE:∀z:List Nat,Str.empty++tx z=tx z:=fun z=>by rw[show Str.empty=tx [] from rfl,z1H];rfl
 have t1:Str.ofString "lonely at " = tx lonL:=(z1c _).symm
 have t2:Str.ofString "sure within " = tx suL:=(z1c _).symm
 have t3:Str.ofString " by " = tx bbL:=(z1c _).symm
 have n1:lonL.length=10:=by decide +kernel
 have n2:suL.length=12:=by decide +kernel
 have n3:bbL.length=4:=by decide +kernel
 have e100:(1000:Int)<10^100:=by decide +kernel
 rw[t1,t2,t3]
 refine⟨a,b,xs,ys,ws,us,rfl,SqL.of ha,hP,SqL.of hb,hP2,kw.1,ku.1,by omega,by omega,by omega,fun hn H1 g1=>⟨fun _=>?_,fun c=>absurd rfl c⟩,fun hn v p H1 g1 hp hd hr2 po kb=>⟨fun c=>?_,fun _=>?_⟩⟩
 ·refine⟨a,b,xs,ys,ws,us,rfl,SqL.of (g1 _ _ ha),hP.same g1,SqL.of (g1 _ _ hb),hP2.same g1,kw.1,ku.1,fun u hu=>by have:=kw.2.1 u hu;omega,by omega,by omega,by omega,fun H2 g2=>?_⟩
  cases e:holeN (shs ws us) (lcms ((shs ws us).map (·.1))).toNat with
  | none=>exact absurd e hn
  | some i=>
   have ib:0<=i/\i<30:=by
    rcases z4W (ws:=shs ws us) (n:=(lcms ((shs ws us).map (·.1))).toNat) with⟨j,e2,h2⟩|⟨e2,_⟩
    ·rw[e] at e2
     cases e2
     omega
    ·rw[e] at e2
     cases e2
   have dk:=dgOk (n:=i) ib.1 (by omega)
   have l1:=dk.len
   refine⟨_,rfl,by rw[eE,z0V];omega,.inl ⟨i,rfl,dk.sz,_,rfl,?_⟩⟩
   rw[z3m,eE,z1H,z0V,List.length_append]
   exact⟨by omega,by omega,q _ H2 (g1.trans g2) (.inl ⟨i,e,rfl⟩)⟩
 ·rcases hp with⟨a0,k,_,hv,_⟩|⟨a0,l,b0,ys0,ps,_,hv,_⟩ <;> (rw[hv] at c;cases c)
 ·have hpa:=hp.pap.any
  have k63:p.kn<64:=by omega
  have ok:POk p:=y1W (ws:=shs ws us) (by rw[z2Q];have:=Nat.mul_le_mul kw1 ku1;omega) (by omega) hr2
  refine⟨a,b,v,xs,ys,ws,us,p,rfl,SqL.of (g1 _ _ ha),hP.same g1,SqL.of (g1 _ _ hb),hP2.same g1,fun u hu=>⟨kw.1 u hu,by have:=kw.2.1 u hu;omega⟩,fun u hu=>⟨ku.1 u hu,by have:=ku.2.1 u hu;omega⟩,by omega,by omega,hpa,by omega,k63,hr2,fun M H2 g2 hM=>?_⟩
  refine⟨v,p,rfl,hpa.mono g2,ok,by omega,by omega,fun H3 g3=>?_⟩
  have mb:1<=M/\M<=W:=by
   refine L2.put_away fun G'3687 h'3687=>?_
   obtain⟨k,_,rfl⟩:=hM.1
   refine h'3687 ?_
   exact y3W kw.1 ku.1 dw du W1 k
  have dk:=dgOk (n:=M) (by omega) (by omega)
  have l1:=dk.len
  have l2:=z3A p ok
  refine⟨_,rfl,by rw[eE,z0V];omega,.inl ⟨M,rfl,dk.sz,_,rfl,?_⟩⟩
  rw[z3m,eE,z1H]
  refine⟨by rw[z0V,List.length_append];omega,_,rfl,by rw[z1H,z0V,List.length_append,List.length_append];omega,.inr ⟨_,rfl,by rw[z0V];omega,_,rfl,?_⟩⟩
  rw[z1H,z1H,z0V,List.length_append,List.length_append,List.length_append]
  exact⟨by omega,by omega,q _ H3 ((g1.trans g2).trans g3) (.inr ⟨hn,p,M,po,hM,dk,ok,k63,hd,rfl⟩)⟩
noncomputable def y1N (K:PySem.W.Frag):Sp:=fun vs H Q _=>∃(a b:Addr) (v:V) (xs ys:List V) (ws us:List T3) (W:Int) (p:Pap),vs=[.ref a,.ref b,v]/\H a=some (.lst xs)/\Pl H xs ws/\H b=some (.lst ys)/\Pl H ys us/\Sml ws us W/\PapIn K anyL H v p/\p.dep<=13/\p.kn<64/\
 (z0Y (shs ws us) 1 0 p=true->∀M H',Same H H'->IsMx (prd ws us) p.nm M->DgOk M->Q (.str (tx (rwL++dg M))) H')/\(z0Y (shs ws us) 1 0 p=false->∀H',Same H H'->Q (.str "wrong") H')
theorem z6L {c_NoPaper c_MeetError:Addr} (T:TF K mg "check_answer" z2L) (O_NoPaper:OX K mg "NoPaper" c_NoPaper (.ref c_MeetError::VE)) (G_paper_wait:HasX P w K mg base 20 "paper_wait" ["one", "other", "paper"] (y1B K c_NoPaper 14)):Has P w K mg base 21 "check_answer" ["one", "other", "paper"] (y1N K):=by
 refine T.has z2s (fun _ _ _ _ _ _=>L2.bnd3 fun _ _ _=>rfl) (fun vs H Q E h=>?_) (fun f cdv A outer s H vs Q E hr h=>?_)
 ·refine L2.put_away fun G'3702 h'3702=>?_
  obtain⟨a,b,v,xs,ys,ws,us,W,p,rfl,_⟩:=h
  refine h'3702 ?_
  rfl
 refine L2.put_away fun G'3704 h'3704=>?_
 obtain⟨a,b,v,xs,ys,ws,us,W,p,rfl,ha,hP,hb,hP2,⟨kw,ku,dw,du,W1,W3⟩,hv,hd,hk,q1,q2⟩:=h
 refine h'3704 ?_
 refine⟨_,(z0B (y7z rfl rfl rfl (y6y (i:=3) z2s.nd rfl (Or.inl rfl) (y5L rfl (G_paper_wait.mono (by first|decide|omega)) hr (z0A (pv 0) (z0A (pv 1) (z0A (pv 2) z0C))))) (y7C rfl (fun _=>y8E O_NoPaper O_NoPaper) (fun _=>(z0D (z0I z0N))) y8F)) (z0D (z0I (z5b (z1L z0N (z1L (z5d (pv 3)) z8x)))))),?_⟩
 walk_at "wpd"
 unfold tTry
 walk_at "wpd"
 have e900:(2:Int)^900<2^1000:=by decide +kernel
 have e100:(1000:Int)<10^100:=by decide +kernel
 have kw1:=kw.2.2
 have ku1:=ku.2.2
 have eE:∀z:List Nat,Str.empty++tx z=tx z:=fun z=>by rw[show Str.empty=tx [] from rfl,z1H];rfl
 have t1:Str.ofString "right within " = tx rwL:=(z1c _).symm
 have n1:rwL.length=13:=by decide +kernel
 cases c:z0Y (shs ws us) 1 0 p with
 | true=>
  refine .inl ⟨a,b,v,xs,ys,ws,us,p,rfl,SqL.of ha,hP,SqL.of hb,hP2,fun u hu=>⟨kw.1 u hu,by have:=kw.2.1 u hu;omega⟩,fun u hu=>⟨ku.1 u hu,by have:=ku.2.1 u hu;omega⟩,by omega,by omega,hv,by omega,hk,c,fun M H1 g1 hM=>?_⟩
  have mb:1<=M/\M<=W:=by
   refine L2.put_away fun G'3720 h'3720=>?_
   obtain⟨k,_,rfl⟩:=hM.1
   refine h'3720 ?_
   exact y3W kw.1 ku.1 dw du W1 k
  have dk:=dgOk (n:=M) (by omega) (by omega)
  have l1:=dk.len
  rw[t1]
  refine⟨_,rfl,by rw[eE,z0V];omega,.inl ⟨M,rfl,dk.sz,_,rfl,?_⟩⟩
  rw[z3m,eE,z1H,z0V,List.length_append]
  exact⟨by omega,by omega,q1 c M H1 g1 hM dk⟩
 | false=>
  refine .inr ⟨a,b,v,xs,ys,ws,us,p,rfl,SqL.of ha,hP,SqL.of hb,hP2,kw.1,ku.1,by omega,by omega,hv,by omega,c,fun x H1 g1 hx=>?_⟩
  refine⟨x,rfl,rfl,?_⟩
  have hc:(Value.ref c_NoPaper::Value.ref c_MeetError::VE).contains (Value.ref c_NoPaper)=true:=by simp
  unfold tBool
  rw[hc]
  unfold y6L
  walk_at "wpd"
  exact q2 c _ (g1.trans (z0H hx _))
theorem pb_no (v:V):List.lookup (Str.ofString "plan_by") [((Str.ofString "plans"),v)]=none:=by
 rw[List.lookup_cons,show ((Str.ofString "plan_by") == (Str.ofString "plans"))=false by decide +kernel]
 rfl
noncomputable def PPG:List Str:=[Str.ofString "plan",Str.ofString "pair",Str.ofString "grid"]
noncomputable def sureL:List Nat:=[115,117,114,101]
noncomputable def z3V:List Nat:=[99,104,101,99,107]
theorem y5B:Str.ofString "sure" = tx sureL:=by decide +kernel
theorem y4p:Str.ofString "check" = tx z3V:=by decide +kernel
noncomputable def z2m (K:PySem.W.Frag):Sp:=fun vs H Q _=>∃(W:Addr) (nm:List Nat) (ws:List T3),vs=[.ref W]/\H W=some (.lst (([planL,nm,ptext ws false].map tx).map V.str))/\ws.length<=12/\(∀u∈ws,WOk u)/\(∀u∈ws,isW u=true)/\∀(D:Addr) (xs:List V) (H':Hp),Same H H'->H' D=some (.lst xs)->Pl H' xs ws->Q (.ref D) H'
theorem y0c (T:TF K mg "told_plan" z3Y) (G_read_plan:Has P w K mg base 4 "read_plan" ["text"] z4c):Has P w K mg base 5 "told_plan" ["words"] (z2m K):=by
 refine T.has z8n (fun _ _ _ _ _ _=>L2.bnd1 fun _=>rfl) (fun vs H Q E h=>?_) (fun f cdv A outer s H vs Q E hr h=>?_)
 ·refine L2.put_away fun G'3748 h'3748=>?_
  obtain⟨W,nm,l,rfl,_⟩:=h
  refine h'3748 ?_
  rfl
 refine L2.put_away fun G'3750 h'3750=>?_
 obtain⟨W,nm,ws,rfl,hW,hl,ok,hw,q⟩:=h
 refine h'3750 ?_
 refine⟨_,(z0B (ps_if (z0L op_eq (pe_ix z0b (pv 0) z0E (fun _ _=>rfl)) z0N (z0T _)) (z0D (z0I (z0J (G_read_plan.mono (by first|decide|omega)) hr (z0A (pe_ix z0b (pv 0) z0E (fun _ _=>rfl)) z0C)))) z0K) (z0B z0x (z0D z0x))),?_⟩
 walk_at "wpd"
 rw[y5Q]
 refine z0W (SqL.of hW) (z0X (j:=0) rfl) (eqT ⟨_,rfl,fun _=>?_,fun c=>absurd (decide_eq_true rfl) c⟩)
 exact z0W (SqL.of hW) (z0X (j:=2) rfl) ⟨ws,false,rfl,hl,ok,hw,fun D xs H' g _ hD hP=>q D xs H' g hD hP⟩
noncomputable def ChkA (ws us:List T3) (p:Pap) (l:List Nat):Prop:=(z0Y (shs ws us) 1 0 p=true/\∃M,IsMx (prd ws us) p.nm M/\DgOk M/\l=rwL++dg M)∨(z0Y (shs ws us) 1 0 p=false/\l=wroL)
noncomputable def z3p (K:PySem.W.Frag) (C:Addr):Sp:=fun vs H Q _=>∃(d pd:Addr) (l:List Nat) (n:Nat) (L:Book),vs=[.ref d,.str (tx l)]/\Dsk C H d pd n L/\n<=1000/\TxOk l/\
  ((∃nm ws,rowOf l=some [planL,nm,ptext ws false]/\(∀u∈ws,WOk u)/\(∀u∈ws,isW u=true)/\KpP ws/\∀H',OffD pd H H'->Dsk C H' d pd (n+1) (setB L (tx nm) ws)->Q (.str "kept") H')∨
   (∃n1 n2 ws us W,rowOf l=some [sureL,n1,n2]/\L (tx n1)=some ws/\L (tx n2)=some us/\Sml ws us W/\∀z H',Same H H'->SureA ws us z->Q (.str (tx z)) H')∨
   ∃n1 n2 p ws us W,rowOf l=some [z3V,n1,n2,ptx p]/\POk p/\p.dep<=13/\p.kn<64/\L (tx n1)=some ws/\L (tx n2)=some us/\Sml ws us W/\∀z H',Same H H'->ChkA ws us p z->Q (.str (tx z)) H')
theorem y5u {C c_NoRow c_NoName:Addr} (X:DkTx K C) (cl_Desk:Cls K C) (T:TM K C "told" "Desk.told" z3j) (m_int:mg "int" = none) (G_words_of:HasX P w K mg base 4 "words_of" ["row"] (z5F c_NoRow)) (G_told_plan:Has P w K mg base 5 "told_plan" ["words"] (z2m K)) (G_Desk_plan_by:HasMX P w K mg base 1 C "plan_by" ["self", "name"] (z6S K C c_NoName)) (G_read_paper:Has P w K mg base 87 "read_paper" ["text"] (z5G K)) (G_sure_answer:Has P w K mg base 21 "sure_answer" ["one", "other"] (y3A K)) (G_check_answer:Has P w K mg base 21 "check_answer" ["one", "other", "paper"] (y1N K)):HasMX P w K mg base 88 C "told" ["self", "row"] (z3p K C):=by
 refine T.hasX z1e (fun _ _ _ _ _ _=>L2.bnd2 fun _ _=>rfl) (fun vs H Q E h=>?_) (fun f cdv A outer s H vs Q E hr h=>?_)
 ·refine L2.put_away fun G'3765 h'3765=>?_
  obtain⟨d,pd,l,n,L,rfl,_⟩:=h
  refine h'3765 ?_
  rfl
 refine L2.put_away fun G'3767 h'3767=>?_
 obtain⟨d,pd,l,n,L,rfl,hk,hn,hl,h⟩:=h
 refine h'3767 ?_
 refine⟨_,(z0B (z0P (i:=2) z1e.nd rfl (Or.inl rfl) (y7H (G_words_of.mono (by first|decide|omega)) hr passX (z0A (pv 1) z0C))) (z0B (ps_if (z0L y8K (pe_ix z0b (pv 2) z0E (fun _ _=>rfl)) (z1y (z0A z0N (z0A z0N (z0A z0N z0C)))) rfl) (z0B (y6z (hu_of hr) (z2O (pv 0) rfl) (pe_ix z0b (pv 2) z0E (fun _ _=>rfl)) (z0J (G_told_plan.mono (by first|decide|omega)) hr (z0A (pv 2) z0C)) rfl) (z0D (z0I z0N))) z0K) (z0B (ps_if (z0L op_eq (pe_ix z0b (pv 2) z0E (fun _ _=>rfl)) z0N (z0T _)) (z0D z0x) z0K) (z0B (z0P (i:=3) z1e.nd rfl (Or.inl rfl) (y5U (z0L op_eq (pe_ix z0b (pv 2) z0E (fun _ _=>rfl)) z0N (z0T _)) (z0J (G_read_paper.mono (by first|decide|omega)) hr (z0A (pe_ix z0b (pv 2) z0E (fun _ _=>rfl)) z0C)) z6j)) (z0B (z0P (i:=4) z1e.nd rfl (Or.inl rfl) (y3a (pv 0) cl_Desk (G_Desk_plan_by.mono (by first|decide|omega)) hr passX (z0A (pe_ix z0b (pv 2) z0E (fun _ _=>rfl)) z0C))) (z0B (z0P (i:=5) z1e.nd rfl (Or.inl rfl) (y3a (pv 0) cl_Desk (G_Desk_plan_by.mono (by first|decide|omega)) hr passX (z0A (pe_ix z0b (pv 2) z0E (fun _ _=>rfl)) z0C))) (z0B (ps_if (z0L op_eq (pe_ix z0b (pv 2) z0E (fun _ _=>rfl)) z0N (z0T _)) (z0D z0x) z0K) (z0B (ps_if (z0L op_eq (pe_ix z0b (pv 2) z0E (fun _ _=>rfl)) z0N (z0T _)) (z0D (z0I (z0J (G_sure_answer.mono (by first|decide|omega)) hr (z0A (pv 4) (z0A (pv 5) z0C))))) z0K) (z0B (ps_if (z0L op_eq (pe_ix z0b (pv 2) z0E (fun _ _=>rfl)) z0N (z0T _)) (z0D z0x) z0K) (z0D (z0I (z0J (G_check_answer.mono (by first|decide|omega)) hr (z0A (pv 4) (z0A (pv 5) (z0A (pv 3) z0C))))))))))))))),?_⟩
 walk_at "wpd"
 have wor:Str.ofString "worst" = tx [119,111,114,115,116]:=by decide +kernel
 rw[y4u,y4p,y5i,y5B,wor]
 rcases h with⟨nm,vs,er,wok,hwk,kp,q⟩|⟨n1,n2,vs,us,W,er,e1,e2,sm,q⟩|⟨n1,n2,p,vs,us,W,er,ok,dp,kp,e1,e2,sm,q⟩
 ·refine⟨l,rfl,hl,(fun e=>by rw[er] at e;cases e),fun ws D H1 e g1 nD hD=>?_⟩
  rw[er] at e
  cases e
  refine z0W (SqL.of hD) (z0X (j:=0) rfl) fun p np=>?_
  have gp:=z0H np (.tup (PPG.map V.str))
  refine⟨tx planL,p,PPG,rfl,rfl,SqT.of z0F,fun _=>?_,fun c=>absurd (by decide +kernel) c⟩
  have hD2:=gp _ _ hD
  have G2:=g1.trans gp
  change z2m K [V.ref D] (upd H1 p (.tup (PPG.map V.str))) _ _
  generalize upd H1 p (.tup (PPG.map V.str))=H2 at gp hD2 G2 ⊢
  refine⟨D,nm,vs,rfl,hD2,kp.2.2,wok,hwk,fun F xs H3 g3 hF hP=>?_⟩
  have G3:=G2.trans g3
  refine L2.put_away fun G'3785 h'3785=>?_
  obtain⟨⟨dx,hd⟩,kvs,hp,hlk,hb⟩:=hk.same G3
  refine h'3785 ?_
  refine⟨d,C,dx,_,.ref pd,rfl,hd,X.cl,X.nP,rfl,z0W (SqL.of (g3 _ _ hD2)) (z0X (j:=1) rfl) ⟨pd,_,rfl,DPut.k (k:=.inr (tx nm)) hp (by rw[sizeLine_eq];omega),q _ (fun b o hb e=>by rw[z0U hb];exact G3 b o e) ⟨⟨dx,by rw[z0U (ne_of hd hp (by intro z;cases z))];exact hd⟩,_,z0F,?_,?_⟩⟩⟩
  ·have:=z3k kvs (Sum.inr (tx nm)) (.ref F)
   omega
  ·exact (hb.put kp hF hP).by (fun b ys e=>by rw[z0U (ne_of e hp (by intro z;cases z))];exact e) fun b ys e=>by rw[z0U (ne_of e hp (by intro z;cases z))];exact e
 ·refine⟨l,rfl,hl,(fun e=>by rw[er] at e;cases e),fun ws' D H1 e g1 nD hD=>?_⟩
  rw[er] at e
  cases e
  refine z0W (SqL.of hD) (z0X (j:=0) rfl) fun p np=>?_
  have gp:=z0H np (.tup (PPG.map V.str))
  refine⟨tx sureL,p,PPG,rfl,rfl,SqT.of z0F,(fun c=>absurd c (by decide +kernel)),fun _=>?_⟩
  have hD2:=gp _ _ hD
  have G2:=g1.trans gp
  change rIxL K (V.ref D) (V.int 0) (upd H1 p (.tup (PPG.map V.str))) _
  generalize upd H1 p (.tup (PPG.map V.str))=H2 at gp hD2 G2 ⊢
  refine L2.put_away fun G'3800 h'3800=>?_
  obtain⟨⟨dx,hd⟩,_⟩:=hk.same G2
  refine h'3800 ?_
  refine z0W (SqL.of hD2) (z0X (j:=0) rfl) (eqT ⟨_,rfl,(fun c=>absurd c (by decide)),fun _=>?_⟩)
  refine z0W (SqL.of hD2) (z0X (j:=0) rfl) (eqT ⟨_,rfl,(fun c=>absurd c (by decide)),fun _=>⟨d,dx,_,rfl,hd,pb_no _,z0W (SqL.of hD2) (z0X (j:=1) rfl) ⟨d,pd,tx n1,n,L,rfl,hk.same G2,(fun e=>by rw[e1] at e;cases e),fun ws' F xs e kp hF hP=>?_⟩⟩⟩)
  rw[e1] at e
  cases e
  refine⟨d,dx,_,rfl,hd,pb_no _,z0W (SqL.of hD2) (z0X (j:=2) rfl) ⟨d,pd,tx n2,n,L,rfl,hk.same G2,(fun e=>by rw[e2] at e;cases e),fun us' F2 ys e kp2 hF2 hP2=>?_⟩⟩
  rw[e2] at e
  cases e
  refine z0W (SqL.of hD2) (z0X (j:=0) rfl) (eqT ⟨_,rfl,(fun c=>absurd c (by decide)),fun _=>?_⟩)
  refine z0W (SqL.of hD2) (z0X (j:=0) rfl) (eqT ⟨_,rfl,fun _=>?_,fun c=>absurd (decide_eq_true rfl) c⟩)
  exact⟨F,F2,xs,ys,vs,us,W,rfl,hF,hP,hF2,hP2,sm,fun z H3 g3 hz=>q z H3 (G2.trans g3) hz⟩
 ·refine⟨l,rfl,hl,(fun e=>by rw[er] at e;cases e),fun ws' D H1 e g1 nD hD=>?_⟩
  rw[er] at e
  cases e
  refine z0W (SqL.of hD) (z0X (j:=0) rfl) fun tp np=>?_
  have gp:=z0H np (.tup (PPG.map V.str))
  refine⟨tx z3V,tp,PPG,rfl,rfl,SqT.of z0F,(fun c=>absurd c (by decide +kernel)),fun _=>?_⟩
  have hD2:=gp _ _ hD
  have G2:=g1.trans gp
  change rIxL K (V.ref D) (V.int 0) (upd H1 tp (.tup (PPG.map V.str))) _
  generalize upd H1 tp (.tup (PPG.map V.str))=H2 at gp hD2 G2 ⊢
  refine z0W (SqL.of hD2) (z0X (j:=0) rfl) (eqT ⟨_,rfl,(fun c=>absurd c (by decide)),fun _=>?_⟩)
  refine z0W (SqL.of hD2) (z0X (j:=0) rfl) (eqT ⟨_,rfl,(fun _=>z0W (SqL.of hD2) (z0X (j:=3) rfl) ⟨p,rfl,ok,by omega,by omega,fun v H3 g3 hv=>?_⟩),fun c=>absurd (decide_eq_true rfl) c⟩)
  have G3:=G2.trans g3
  have hD3:=g3 _ _ hD2
  have hk3:=hk.same G3
  refine L2.put_away fun G'3826 h'3826=>?_
  obtain⟨⟨dx,hd⟩,_⟩:=id hk3
  refine h'3826 ?_
  refine⟨d,dx,_,rfl,hd,pb_no _,z0W (SqL.of hD3) (z0X (j:=1) rfl) ⟨d,pd,tx n1,n,L,rfl,hk3,(fun e=>by rw[e1] at e;cases e),fun ws' F xs e kp hF hP=>?_⟩⟩
  rw[e1] at e
  cases e
  refine⟨d,dx,_,rfl,hd,pb_no _,z0W (SqL.of hD3) (z0X (j:=2) rfl) ⟨d,pd,tx n2,n,L,rfl,hk3,(fun e=>by rw[e2] at e;cases e),fun us' F2 ys e kp2 hF2 hP2=>?_⟩⟩
  rw[e2] at e
  cases e
  refine z0W (SqL.of hD3) (z0X (j:=0) rfl) (eqT ⟨_,rfl,(fun c=>absurd c (by decide)),fun _=>?_⟩)
  refine z0W (SqL.of hD3) (z0X (j:=0) rfl) (eqT ⟨_,rfl,(fun c=>absurd c (by decide)),fun _=>?_⟩)
  refine z0W (SqL.of hD3) (z0X (j:=0) rfl) (eqT ⟨_,rfl,(fun c=>absurd c (by decide)),fun _=>?_⟩)
  refine⟨F,F2,v,xs,ys,vs,us,W,p,rfl,hF,hP,hF2,hP2,sm,hv.any,dp,by assumption,fun c M H4 g4 hM dM=>q _ H4 (G3.trans g4) (.inl ⟨c,M,hM,dM,rfl⟩),fun c H4 g4=>?_⟩
  have:=q wroL H4 (G3.trans g4) (.inr ⟨c,rfl⟩)
  rw[show tx wroL=Str.ofString "wrong" from z1c _] at this
  exact this
theorem y6K {c:Nat} {r:List Nat}:∀ {p:List Nat},c∉p->(p++c::r).takeWhile (· != c)=p
 | [],_=>by simp
 | x::xs,h=>by
  have ih:=y6K (c:=c) (r:=r) (p:=xs) fun z=>h (List.mem_cons_of_mem _ z)
  have ne:(x != c)=true:=by simp;exact fun e=>h (by simp [e])
  rw[List.cons_append,List.takeWhile_cons,ne]
  simp only [if_true]
  rw[ih]
theorem y3O {w v:List Nat} {ws:List (List Nat)} {f:List Str} (h1:z6D.lookup (tx w)=some f) (hl:ws.length+1=f.length) (h2:32∉w) (h3:∀p∈(v::ws).dropLast,32∉p) (hf:fitsB f (v::ws)=true):rowOf (glu 32 (w::v::ws))=some (w::v::ws):=by
 have e1:glu 32 (w::v::ws)=w++32::glu 32 (v::ws):=rfl
 have e2:z9N (glu 32 (w::v::ws))=some f:=by
  unfold z9N
  rw[e1,y6K h2,h1]
 have e3:splN 32 (glu 32 (w::v::ws)) f.length=w::v::ws:=y0z _ _ (by simp) (by simp;omega) (fun p hp=>by
  rw[List.dropLast_cons_of_ne_nil (by simp)] at hp
  rcases List.mem_cons.mp hp with rfl|hp
  ·exact h2
  ·exact h3 p hp) (fun z=>by simp at z;omega)
 unfold rowOf
 rw[e2]
 show (if (splN 32 (glu 32 (w::v::ws)) f.length).length=f.length+1/\fitsB f (splN 32 (glu 32 (w::v::ws)) f.length).tail=true then some (splN 32 (glu 32 (w::v::ws)) f.length) else none)=_
 rw[e3,if_pos ⟨by simp;omega,hf⟩]
theorem z7Y {l:List Nat} (h:nmB l=true):32∉l:=fun z=>by
 unfold nmB at h
 rw[Bool.and_eq_true,Bool.and_eq_true,List.all_eq_true] at h
 have:=of_decide_eq_true (h.2.2 32 z)
 omega
theorem y5b {l:List Nat} (h:nmB l=true):l.length<=8/\∀x∈l,x<128:=by
 unfold nmB at h
 rw[Bool.and_eq_true,Bool.and_eq_true,List.all_eq_true,decide_eq_true_eq] at h
 exact⟨of_decide_eq_true h.2.1,fun x hx=>by have:=of_decide_eq_true (h.2.2 x hx);omega⟩
theorem z8G {l:List Nat}:fitB "name" l=nmB l:=rfl
theorem y1o {l:List Nat}:fitB "text" l=true:=rfl
theorem y1V {nm t:List Nat} (h:nmB nm=true):rowOf (glu 32 [planL,nm,t])=some [planL,nm,t]:=
 y3O (f:=["name", "text"]) (by rfl) rfl (by decide) (fun p hp=>by
  have:p=nm:=by simpa [List.dropLast] using hp
  rw[this];exact z7Y h) (by simp only [fitsB,z8G,y1o,h];rfl)
theorem y5K {n1 n2:List Nat} (h1:nmB n1=true) (h2:nmB n2=true):rowOf (glu 32 [sureL,n1,n2])=some [sureL,n1,n2]:=
 y3O (f:=["name", "name"]) (by rfl) rfl (by decide) (fun p hp=>by
  have:p=n1:=by simpa [List.dropLast] using hp
  rw[this];exact z7Y h1) (by simp only [fitsB,z8G,h1,h2];rfl)
theorem y3P {n1 n2 t:List Nat} (h1:nmB n1=true) (h2:nmB n2=true):rowOf (glu 32 [z3V,n1,n2,t])=some [z3V,n1,n2,t]:=
 y3O (f:=["name", "name", "text"]) (by rfl) rfl (by decide) (fun p hp=>by
  have:p=n1∨p=n2:=by simpa [List.dropLast] using hp
  rcases this with rfl|rfl
  ·exact z7Y h1
  ·exact z7Y h2) (by simp only [fitsB,z8G,y1o,h1,h2];rfl)
theorem y4l {σ:St} {H:Hp} {Q:VK} {K:PySem.W.Frag} {a:Addr} {xs:List V} {g:TG} {tt:TT} {te:TE} {own:List Str} {fr:List Nat} (Sv:St->Prop) (Pv:Addr->Nat->List V->Hp->Prop) (hS:Sv (st0 own fr σ))
  (h0:∀D,H D=none->Pv D 0 [] (upd H D (.lst []))) (hl:∀D i ys H',H' D=some (.lst ys)->Pv D i ys H'->SqT K H' a xs)
  (hs:∀D i x ys σ H',xs[i]?=some x->i<xs.length->Sv σ->H' D=some (.lst ys)->ys.length<=i->Pv D i ys H'->g x σ H' fun σ2 H2=>tt σ2 H2 fun b H3=>if b=true then te σ2 H3 fun y H4=>CompP Sv Pv D i σ2 y H4 else CompN Sv Pv D (i+1) σ2 H3)
  (hd:∀D ys H',H' D=some (.lst ys)->Pv D xs.length ys H'->Q (.ref D) H'):CompW (Itt K a) g tt te own fr σ H Q:=by
 intro D hD
 refine⟨fun i m σ H=>m=xs.length-i/\i<=xs.length/\CompN Sv Pv D i σ H,⟨_,rfl,Nat.zero_le _,hS,[],z0F,Nat.le_refl _,h0 D hD⟩,?_⟩
 rintro i m σ1 H1 ⟨rfl,hi,hs1,ys,hy,hy2,p⟩
 have q:=hl D i ys H1 hy p
 by_cases hlt:i<xs.length
 ·refine .inr ⟨⟨xs,xs[i],q,by simp [hlt]⟩,CompN Sv Pv D (i+1),fun σ' H' p'=>⟨xs.length-(i+1),by omega,rfl,hlt,p'⟩,fun x H' y=>?_⟩
  obtain⟨e,y⟩:=y
  subst e
  exact hs D i x ys σ1 _ (y xs q) hlt hs1 hy hy2 p
 ·have e:i=xs.length:=by omega
  subst e
  exact .inl ⟨⟨xs,q,Nat.le_refl _⟩,hd D ys H1 hy p⟩
theorem y5f {X:Cx} {K:PySem.W.Frag} (hK:X.K=K):MtR X "str.join" (fun x vs H Q=>∃(sep:Str) (a:Addr) (ys:List Str),x=.str sep/\vs=[.ref a]/\SqL K H a (ys.map V.str)/\ys.toArray.foldl (· + ·.length+sep.length) 0<=sizeLine/\(Builtin.Str.glued sep ys).length<=sizeLine/\Q (.str (Builtin.Str.glued sep ys)) H):=by
 subst hK
 exact y0O
theorem z8u {α β:Type} (ws:List α) (d:α) (f:α->β):(List.range ws.length).map (fun j=>f (ws.getD j d))=ws.map f:=by
 apply List.ext_getElem?
 intro i
 rw[List.getElem?_map,List.getElem?_map]
 by_cases c:i<ws.length
 ·rw[List.getElem?_range c,List.getElem?_eq_getElem c]
  show some (f (ws.getD i d))=some (f ws[i])
  rw[List.getD_eq_getElem?_getD,List.getElem?_eq_getElem c]
  rfl
 ·rw[List.getElem?_eq_none (by rw[List.length_range];omega),List.getElem?_eq_none (by omega)]
  rfl
theorem y7h {lo:Int} {n:Nat} {te:TE} {own:List Str} {fr:List Nat} {σ:St} {H:Hp} {Q:VK} {rest:St} (f:Nat->V) (hst:st0 own fr σ=none::rest) (hn:n<=1000000)
  (hte:∀(j:Nat) (H2:Hp) (R:VK),j<n->Same H H2->(∀H3,Same H2 H3->R (f j) H3)->te (some (.int (lo+(j:Int)))::rest) H2 R) (hq:∀D H',Same H H'->H D=none->H' D=some (.lst ((List.range n).map f))->Q (.ref D) H'):CompW (Itr lo n) (gName 0) tTrue te own fr σ H Q:=by
 obtain⟨Sv,hSv⟩:∃Sv:St->Prop,Sv=fun σ=>∃o,σ=o::rest:=⟨_,rfl⟩
 obtain⟨Pv,hPv⟩:∃Pv:Addr->Nat->List V->Hp->Prop,Pv=fun D i ys H2=>H D=none/\Same H H2/\ys=(List.range i).map f:=⟨_,rfl⟩
 refine z3n Sv Pv (by rw[hSv,hst];exact⟨none,rfl⟩) (fun D hD=>?_) (fun D j ys σ H2 hj hs hD hy h=>?_) (fun D ys H2 hD h=>?_)
 ·rw[hPv]
  exact⟨hD,z0H hD _,rfl⟩
 ·rw[hSv] at hs
  rw[hPv] at h
  obtain⟨o,rfl⟩:=hs
  refine L2.put_away fun G'3932 h'3932=>?_
  obtain⟨nD,g,rfl⟩:=h
  refine h'3932 ?_
  walk_at "wp"
  refine hte j H2 _ hj g fun H3 g3=>CompP.mk (g3 _ _ hD) hy (by rw[sizeLine_eq];omega) (by rw[hSv];exact⟨_,rfl⟩) (by
   rw[hPv]
   refine⟨nD,(g.trans g3).write nD _,?_⟩
   rw[List.range_succ,List.map_append]
   rfl)
 ·rw[hPv] at h
  refine L2.put_away fun G'3940 h'3940=>?_
  obtain⟨nD,g,rfl⟩:=h
  refine h'3940 ?_
  exact hq D H2 g nD hD
theorem y4j {lo c:Int} {n:Nat} {te:TE} {own:List Str} {fr:List Nat} {σ:St} {H:Hp} {Q:VK} {rest:St} (f:Nat->V) (hst:st0 own fr σ=none::rest) (hn:n<=1000000)
  (hte:∀(j:Nat) (H2:Hp) (R:VK),j<n->Same H H2->(∀H3,Same H2 H3->R (f j) H3)->te (some (.int (lo+(j:Int)*c))::rest) H2 R) (hq:∀D H',Same H H'->H D=none->H' D=some (.lst ((List.range n).map f))->Q (.ref D) H'):CompW (Its lo c n) (gName 0) tTrue te own fr σ H Q:=by
 obtain⟨Sv,hSv⟩:∃Sv:St->Prop,Sv=fun σ=>∃o,σ=o::rest:=⟨_,rfl⟩
 obtain⟨Pv,hPv⟩:∃Pv:Addr->Nat->List V->Hp->Prop,Pv=fun D i ys H2=>H D=none/\Same H H2/\ys=(List.range i).map f:=⟨_,rfl⟩
 refine y4m Sv Pv (by rw[hSv,hst];exact⟨none,rfl⟩) (fun D hD=>?_) (fun D j ys σ H2 hj hs hD hy h=>?_) (fun D ys H2 hD h=>?_)
 ·rw[hPv]
  exact⟨hD,z0H hD _,rfl⟩
 ·rw[hSv] at hs
  rw[hPv] at h
  obtain⟨o,rfl⟩:=hs
  refine L2.put_away fun G'3952 h'3952=>?_
  obtain⟨nD,g,rfl⟩:=h
  refine h'3952 ?_
  walk_at "wp"
  refine hte j H2 _ hj g fun H3 g3=>CompP.mk (g3 _ _ hD) hy (by rw[sizeLine_eq];omega) (by rw[hSv];exact⟨_,rfl⟩) (by
   rw[hPv]
   refine⟨nD,(g.trans g3).write nD _,?_⟩
   rw[List.range_succ,List.map_append]
   rfl)
 ·rw[hPv] at h
  refine L2.put_away fun G'3960 h'3960=>?_
  obtain⟨nD,g,rfl⟩:=h
  refine h'3960 ?_
  exact hq D H2 g nD hD
theorem y4k {a:Addr} {xs:List V} {te:TE} {own:List Str} {fr:List Nat} {σ:St} {H:Hp} {Q:VK} {rest:St} (f:Nat->V) (hst:st0 own fr σ=none::rest) (hS:SqL K H a xs) (hn:xs.length<=1000000)
  (hte:∀(j:Nat) (x:V) (H2:Hp) (R:VK),xs[j]?=some x->Same H H2->(∀H3,Same H2 H3->R (f j) H3)->te (some x::rest) H2 R) (hq:∀D H',Same H H'->H D=none->H' D=some (.lst ((List.range xs.length).map f))->Q (.ref D) H'):CompW (Itl K a) (gName 0) tTrue te own fr σ H Q:=by
 obtain⟨Sv,hSv⟩:∃Sv:St->Prop,Sv=fun σ=>∃o,σ=o::rest:=⟨_,rfl⟩
 obtain⟨Pv,hPv⟩:∃Pv:Addr->Nat->List V->Hp->Prop,Pv=fun D i ys H2=>H D=none/\Same H H2/\ys=(List.range i).map f:=⟨_,rfl⟩
 refine z0z (xs:=xs) Sv Pv (by rw[hSv,hst];exact⟨none,rfl⟩) (fun D hD=>?_) (fun D i ys H2 hD h=>?_) (fun D j x ys σ H2 hx hi hs hD hy h=>?_) (fun D ys H2 hD h=>?_)
 ·rw[hPv]
  exact⟨hD,z0H hD _,rfl⟩
 ·rw[hPv] at h
  exact h.2.1.seq hS
 ·rw[hSv] at hs
  rw[hPv] at h
  obtain⟨o,rfl⟩:=hs
  refine L2.put_away fun G'3974 h'3974=>?_
  obtain⟨nD,g,rfl⟩:=h
  refine h'3974 ?_
  walk_at "wp"
  refine hte j x H2 _ hx g fun H3 g3=>CompP.mk (g3 _ _ hD) hy (by rw[sizeLine_eq];omega) (by rw[hSv];exact⟨_,rfl⟩) (by
   rw[hPv]
   refine⟨nD,(g.trans g3).write nD _,?_⟩
   rw[List.range_succ,List.map_append]
   rfl)
 ·rw[hPv] at h
  refine L2.put_away fun G'3982 h'3982=>?_
  obtain⟨nD,g,rfl⟩:=h
  refine h'3982 ?_
  exact hq D H2 g nD hD
theorem y7g {a:Addr} {xs:List V} {te:TE} {own:List Str} {fr:List Nat} {σ:St} {H:Hp} {Q:VK} {rest:St} (f:Nat->V) (hst:st0 own fr σ=none::rest) (hS:SqT K H a xs) (hn:xs.length<=1000000)
  (hte:∀(j:Nat) (x:V) (H2:Hp) (R:VK),xs[j]?=some x->Same H H2->(∀H3,Same H2 H3->R (f j) H3)->te (some x::rest) H2 R) (hq:∀D H',Same H H'->H D=none->H' D=some (.lst ((List.range xs.length).map f))->Q (.ref D) H'):CompW (Itt K a) (gName 0) tTrue te own fr σ H Q:=by
 obtain⟨Sv,hSv⟩:∃Sv:St->Prop,Sv=fun σ=>∃o,σ=o::rest:=⟨_,rfl⟩
 obtain⟨Pv,hPv⟩:∃Pv:Addr->Nat->List V->Hp->Prop,Pv=fun D i ys H2=>H D=none/\Same H H2/\ys=(List.range i).map f:=⟨_,rfl⟩
 refine y4l (xs:=xs) Sv Pv (by rw[hSv,hst];exact⟨none,rfl⟩) (fun D hD=>?_) (fun D i ys H2 hD h=>?_) (fun D j x ys σ H2 hx hi hs hD hy h=>?_) (fun D ys H2 hD h=>?_)
 ·rw[hPv]
  exact⟨hD,z0H hD _,rfl⟩
 ·rw[hPv] at h
  exact Same.seqT h.2.1 hS
 ·rw[hSv] at hs
  rw[hPv] at h
  obtain⟨o,rfl⟩:=hs
  refine L2.put_away fun G'3996 h'3996=>?_
  obtain⟨nD,g,rfl⟩:=h
  refine h'3996 ?_
  walk_at "wp"
  refine hte j x H2 _ hx g fun H3 g3=>CompP.mk (g3 _ _ hD) hy (by rw[sizeLine_eq];omega) (by rw[hSv];exact⟨_,rfl⟩) (by
   rw[hPv]
   refine⟨nD,(g.trans g3).write nD _,?_⟩
   rw[List.range_succ,List.map_append]
   rfl)
 ·rw[hPv] at h
  refine L2.put_away fun G'4004 h'4004=>?_
  obtain⟨nD,g,rfl⟩:=h
  refine h'4004 ?_
  exact hq D H2 g nD hD
theorem y7i {lo:Int} {n:Nat} {tt:TT} {own:List Str} {fr:List Nat} {σ:St} {H:Hp} {Q:VK} {rest:St} (f:Int->Bool) (hst:st0 own fr σ=none::rest) (hn:n<=1000000)
  (htt:∀(j:Nat) (H2:Hp) (R:Bool->Hp->Prop),j<n->Same H H2->R (f (lo+(j:Int))) H2->tt (some (.int (lo+(j:Int)))::rest) H2 R) (hq:∀D H',Same H H'->H D=none->H' D=some (.lst ((((List.range n).map fun j:Nat=>lo+(j:Int)).filter f).map V.int))->Q (.ref D) H'):CompW (Itr lo n) (gName 0) tt (tVar 0) own fr σ H Q:=by
 obtain⟨Sv,hSv⟩:∃Sv:St->Prop,Sv=fun σ=>∃o,σ=o::rest:=⟨_,rfl⟩
 obtain⟨Pv,hPv⟩:∃Pv:Addr->Nat->List V->Hp->Prop,Pv=fun D i ys H2=>H D=none/\Same H H2/\ys=(((List.range i).map fun j:Nat=>lo+(j:Int)).filter f).map V.int:=⟨_,rfl⟩
 refine z3n Sv Pv (by rw[hSv,hst];exact⟨none,rfl⟩) (fun D hD=>?_) (fun D j ys σ H2 hj hs hD hy h=>?_) (fun D ys H2 hD h=>?_)
 ·rw[hPv]
  exact⟨hD,z0H hD _,rfl⟩
 ·rw[hSv] at hs
  rw[hPv] at h
  obtain⟨o,rfl⟩:=hs
  refine L2.put_away fun G'4016 h'4016=>?_
  obtain⟨nD,g,rfl⟩:=h
  refine h'4016 ?_
  walk_at "wp"
  refine htt j H2 _ hj g ?_
  cases e:f (lo+(j:Int)) with
  | true=>
   refine⟨fun _=>CompP.mk hD hy (by rw[sizeLine_eq];omega) (by rw[hSv];exact⟨_,rfl⟩) (by
    rw[hPv]
    refine⟨nD,g.write nD _,?_⟩
    rw[List.range_succ,List.map_append,List.filter_append]
    simp [e]),fun c=>absurd rfl c⟩
  | false=>
   refine⟨fun c=>(nomatch c),fun _=>⟨by rw[hSv];exact⟨_,rfl⟩,_,hD,by omega,?_⟩⟩
   rw[hPv]
   refine⟨nD,g,?_⟩
   rw[List.range_succ,List.map_append,List.filter_append]
   simp [e]
 ·rw[hPv] at h
  refine L2.put_away fun G'4033 h'4033=>?_
  obtain⟨nD,g,rfl⟩:=h
  refine h'4033 ?_
  exact hq D H2 g nD hD
noncomputable def y1I (K:PySem.W.Frag):Sp:=fun vs H Q _=>∃(a:Addr) (ns:List Int) (at_ wh:Int),vs=[.ref a,.int at_,.int wh]/\SqL K H a (ns.map V.int)/\0<=at_/\at_<=100/\1<=wh/\wh<=30/\∀(D:Addr) (xs:List V) (ws:List T3) (H':Hp),Same H H'->H' D=some (.lst xs)->Pl H' xs ws->(∀u∈ws,Wk u)->(∀u∈ws,u.1∣wh)->1<=ws.length->ws.length<=3->Q (.ref D) H'
theorem y2U (T:TF K mg "_law_plan" z4P) (m_len:mg "len" = none) (m_range:mg "range" = none) (G_law_cell_at:Has P w K mg base 1 "_law_cell_at" ["script", "k"] (z3H K)):Has P w K mg base 2 "_law_plan" ["script", "at", "whole"] (y1I K):=by
 refine T.has z1J (fun _ _ _ _ _ _=>L2.bnd3 fun _ _ _=>rfl) (fun vs H Q E h=>?_) (fun f cdv A outer s H vs Q E hr h=>?_)
 ·refine L2.put_away fun G'4038 h'4038=>?_
  obtain⟨a,ns,at_,wh,rfl,_⟩:=h
  refine h'4038 ?_
  rfl
 refine L2.put_away fun G'4040 h'4040=>?_
 obtain⟨a,ns,at_,wh,rfl,hS,a0,a1,w0,w1,q⟩:=h
 refine h'4040 ?_
 refine⟨_,(z0B (z0P (i:=3) z1J.nd rfl (Or.inl rfl) (z1T z0C)) (z0B (z4S (i:=5) z1J.nd rfl (Or.inl rfl) (CompSc.capt (own:=["k"]) (capt:=["whole"]) (fr:=[2]) rfl ⟨rfl,rfl,rfl,rfl,rfl,trivial⟩ (by decide +kernel) (by decide +kernel) rfl (by decide +kernel)) rfl (y3Y rfl m_range (z0A z0E (z0A (pe_op z1M (pv 2) z0E) z0C))) (fun _ _ _=>(z0S (i:=0) (show (["k", "whole"]:List Str).Nodup from by decide +kernel) rfl (Or.inl rfl) (Or.inr rfl))) (fun _ _ _=>y3T (z0L op_eq (pe_op z0f (pv 1) (pv 0)) z0E (z0T _))) (fun _ _ _=>(pv 0))) (z0B (z1S PassesOwn.never rfl (z1f rfl m_range (z0A (pe_op z1M z0E (pe_op z0f (z0J (G_law_cell_at.mono (by first|decide|omega)) hr (z0A (pv 0) (z0A (pv 1) z0C))) z0E)) z0C)) (z0S (i:=4) z1J.nd rfl (Or.inl rfl)) (z0B (z0P (i:=6) z1J.nd rfl (Or.inl rfl) (z0J (G_law_cell_at.mono (by first|decide|omega)) hr (z0A (pv 0) (z0A (pe_op z1M (pe_op z1M (pv 1) z0E) (pv 4)) z0C)))) (z0B (z0P (i:=7) z1J.nd rfl (Or.inl rfl) (pe_ix z0b (pv 5) (pe_op z0f (pv 6) (z0M z0Q rfl m_len PySem.boot_len (z0A (pv 5) z0C))) (fun _ _=>rfl))) (z0B (z0P (i:=8) z1J.nd rfl (Or.inl rfl) (pe_op z1M z0E (pe_op z0f (pe_op z0f (pe_op z0l (pv 6) z0E) (pe_ix z0b (z1T (z0A z0E (z0A z0E (z0A (pv 7) z0C)))) (pe_op z0f (pe_op z0l (pv 6) z0E) z0E) (fun _ _=>rfl))) (pv 7)))) (z0D (z1k (pe_bm PySem.F.plainAttrs_list PySem.F.slot_list_append PySem.F.type_list_append z1g (pv 3) (z0A (z1y (z0A (pv 7) (z0A (pe_op z0f (pe_op z0l (pv 6) z0E) (pv 7)) (z0A (pv 8) z0C)))) z0C)))))))) (z0D (z0I (pv 3)))))),?_⟩
 walk_at "wpd"
 intro D nD
 have gD:=z0H nD (.lst [])
 have hD:=z0F (H:=H) (a:=D) (o:=.lst [])
 generalize upd H D (.lst [])=H1 at gD hD ⊢
 refine⟨1,_,rfl,⟨by decide,by decide,by omega,by omega⟩,?_⟩
 refine y7i (rest:=[some (.int wh)]) (fun k=>decide (wh%k=0)) rfl (by omega) (fun j H2 R hj g hR=>?_) fun D2 H2 g2 nD2 hD2=>?_
 ·walk_at "wpd"
  exact⟨by omega,hR⟩
 have hzs:∀z∈(((List.range (wh+1-1).toNat).map fun j:Nat=>(1:Int)+(j:Int)).filter fun k=>decide (wh%k=0)),1<=z/\z<=30/\z∣wh:=fun z hz=>by
  obtain⟨h1,h2⟩:=List.mem_filter.mp hz
  refine L2.put_away fun G'4053 h'4053=>?_
  obtain⟨j,hj,rfl⟩:=List.mem_map.mp h1
  refine h'4053 ?_
  have:=List.mem_range.mp hj
  exact⟨by omega,by omega,Int.dvd_of_emod_eq_zero (of_decide_eq_true h2)⟩
 have hne:0<(((List.range (wh+1-1).toNat).map fun j:Nat=>(1:Int)+(j:Int)).filter fun k=>decide (wh%k=0)).length:=by
  apply List.length_pos_of_mem (a:=1)
  refine List.mem_filter.mpr ⟨List.mem_map.mpr ⟨0,List.mem_range.mpr (by omega),rfl⟩,?_⟩
  simp
 have hle:(((List.range (wh+1-1).toNat).map fun j:Nat=>(1:Int)+(j:Int)).filter fun k=>decide (wh%k=0)).length<=30:=Nat.le_trans (List.length_filter_le _ _) (by rw[List.length_map,List.length_range];omega)
 generalize (((List.range (wh+1-1).toNat).map fun j:Nat=>(1:Int)+(j:Int)).filter fun k=>decide (wh%k=0))=zs at *
 have hD':=g2 _ _ hD
 have g12:=gD.trans g2
 refine⟨a,ns,at_,rfl,g12.seq hS,a0,?_⟩
 have n3:=modB (ns.getD at_.toNat 0) (show (0:Int)<3 by decide)
 walk_at "wpd"
 refine⟨by decide,_,rfl,by omega,by omega,?_⟩
 obtain⟨W,hW⟩:∃W:Nat->St->Hp->Prop,W=fun i σ H3=>∃(o1 o2 o3 o4:Option V) (xs:List V) (ws:List T3),σ=[some (.ref a),some (.int at_),some (.int wh),some (.ref D),o1,some (.ref D2),o2,o3,o4]/\Same H H3/\H3 D=some (.lst xs)/\H3 D2=some (.lst (zs.map V.int))/\Pl H3 xs ws/\ws.length=i/\(∀u∈ws,Wk u)/\∀u∈ws,u.1∣wh:=⟨_,rfl⟩
 refine z1r W ?_ (fun i σ H3 hi z=>?_) (fun σ H3 z=>?_)
 ·rw[hW]
  exact⟨none,none,none,none,[],[],rfl,g12,hD',hD2,.nil,rfl,(fun u h=>nomatch h),fun u h=>nomatch h⟩
 ·rw[hW] at z
  refine L2.put_away fun G'4073 h'4073=>?_
  obtain⟨o1,o2,o3,o4,xs,ws,rfl,g,hD3,hD4,hP,hl,hw,hd⟩:=z
  refine h'4073 ?_
  have e0:(0:Int)+(i:Int)=i:=by omega
  rw[e0]
  walk_at "wpd"
  refine⟨a,ns,_,rfl,g.seq hS,by omega,?_⟩
  generalize ns.getD (at_+1+(i:Int)).toNat 0=c
  refine⟨D2,_,rfl,.inl (SqL.of hD4),?_⟩
  walk_at "wpd"
  rw[List.length_map]
  have zb:=modB c (show (0:Int)<zs.length by omega)
  refine⟨by omega,?_⟩
  have pz:=z8C (Pz:=fun z=>1<=z/\z<=30/\z∣wh) hzs (i:=(c%(zs.length:Int)).toNat) (by omega)
  refine z0W (SqL.of hD4) (z4H zb.1 (by omega)) ?_
  generalize zs.getD (c%(zs.length:Int)).toNat 0=per at pz ⊢
  have c3:=modB (c/100) (show (0:Int)<3 by decide)
  refine⟨divA 10 (by decide) (by decide) (by decide),fun p np=>⟨divA 10 (by decide) (by decide) (by decide),by decide,?_⟩⟩
  have gp:=z0H np (.lst ([1,2,per].map V.int))
  have hp:=z0F (H:=H3) (a:=p) (o:=.lst ([1,2,per].map V.int))
  have pl:=z8C (Pz:=fun z=>1<=z) (zs:=[1,2,per]) (i:=(c/100%3).toNat) (by
   intro z hz
   simp only [List.mem_cons,List.not_mem_nil,or_false] at hz
   rcases hz with rfl|rfl|rfl <;> omega) (by simp;omega)
  refine z0W (SqL.of hp) (z4H (zs:=[1,2,per]) c3.1 (by simp;omega)) ?_
  change rI _ _ _ _ (upd H3 p (.lst ([1,2,per].map V.int))) _
  generalize upd H3 p (.lst ([1,2,per].map V.int))=H4 at gp hp ⊢
  generalize List.getD [1,2,per] (c/100%3).toNat 0=pp at pl ⊢
  have f1:=modB (c/1000%pp) (show 0<per by omega)
  have f2:=modB (c/10000) (show 0<per by omega)
  refine⟨_,_,rfl,rfl,by show (0:Int)<pp;omega,?_⟩
  walk_at "wpd"
  have hD5:=gp _ _ hD3
  refine⟨by omega,.inl ⟨rfl,_,SqL.of hD5⟩,divA 20 (by decide) (by decide) (by decide),by omega,fun p2 np2=>?_⟩
  have gq:=z0H np2 (.tup [.int per,.int (c/10000%per),.int (1+c/1000%pp%per)])
  refine⟨D,xs,_,rfl,rfl,gq _ _ hD5,by rw[sizeLine_eq,hP.1];omega,?_⟩
  rw[hW]
  have G:=gp.trans gq
  refine⟨_,_,_,_,_,ws++[(per,c/10000%per,1+c/1000%pp%per)],rfl,(g.trans G).write nD _,z0F,?_,((hP.same G).snoc z0F).upd (G _ _ hD3),by simp [hl],fun v hv=>?_,fun v hv=>?_⟩
  ·rw[z0U (fun e=>?_)]
   ·exact G _ _ hD4
   ·rw[e] at nD2
    rw[hD] at nD2
    cases nD2
  ·rcases List.mem_append.mp hv with z|z
   ·exact hw v z
   ·rw[List.mem_singleton.mp z]
    exact⟨by show 1<=per;omega,f2.1,f2.2,by show 1<=1+c/1000%pp%per;omega,by show 1+c/1000%pp%per<=per;omega⟩
  ·rcases List.mem_append.mp hv with z|z
   ·exact hd v z
   ·rw[List.mem_singleton.mp z]
    exact pz.2.2
 rw[hW] at z
 refine L2.put_away fun G'4124 h'4124=>?_
 obtain⟨o1,o2,o3,o4,xs,ws,rfl,g,hD3,hD4,hP,hl,hw,hd⟩:=z
 refine h'4124 ?_
 walk_at "wpd"
 exact q D xs ws H3 g hD3 hP hw hd (by omega) (by omega)
noncomputable def wtx (u:T3):List Nat:=glu 58 [dg u.1,dg u.2.1,dg u.2.2]
noncomputable def y1H (K:PySem.W.Frag):Sp:=fun vs H Q _=>∃(a:Addr) (xs:List V) (ws:List T3),vs=[.ref a]/\SqL K H a xs/\Pl H xs ws/\(∀u∈ws,Wk u)/\(∀u∈ws,u.1<=30)/\ws≠[]/\ws.length<=12/\∀H',Same H H'->Q (.str (tx (glu 32 (ws.map wtx)))) H'
theorem y2T (T:TF K mg "_law_text" z4O) (m_str:mg "str" = none):Has P w K mg base 1 "_law_text" ["plan"] (y1H K):=by
 refine T.has y0C (fun _ _ _ _ _ _=>L2.bnd1 fun _=>rfl) (fun vs H Q E h=>?_) (fun f cdv A outer s H vs Q E hr h=>?_)
 ·refine L2.put_away fun G'4131 h'4131=>?_
  obtain⟨a,xs,ws,rfl,_⟩:=h
  refine h'4131 ?_
  rfl
 refine L2.put_away fun G'4133 h'4133=>?_
 obtain⟨a,xs,ws,rfl,hS,hP,hw,h30,wne,hl,q⟩:=h
 refine h'4133 ?_
 refine⟨_,(z0D (z0I (pe_bm PySem.F.plainAttrs_str PySem.F.slot_str_join PySem.F.type_str_join y0O z0N (z0A (z1F (CompSc.none (own:=["waking"]) (by decide +kernel) (by decide +kernel) rfl (by decide +kernel)) rfl (z0q (pv 0)) (fun _ _ _=>(z0S (i:=0) (show (["waking"]:List Str).Nodup from by decide +kernel) rfl (Or.inl rfl) (Or.inr rfl))) (fun _ _ _=>z0v) (fun _ _ _=>(show PE _ _ (tBM K "str" _ _ _) from (pe_bm PySem.F.plainAttrs_str PySem.F.slot_str_join PySem.F.type_str_join (y5f (K:=K) rfl) z0N (z0A (z1F (CompSc.none (own:=["number"]) (by decide +kernel) (by decide +kernel) rfl (by decide +kernel)) rfl (show PI _ _ _ (iTup K _) from y6R (pv 0)) (fun _ _ _=>(z0S (i:=0) (show (["number"]:List Str).Nodup from by decide +kernel) rfl (Or.inl rfl) (Or.inr rfl))) (fun _ _ _=>z0v) (fun _ _ _=>(z1Q z4k rfl m_str (by decide +kernel) (z0A (pv 0) z0C)))) z0C))))) z0C)))),?_⟩
 walk_at "wpd"
 have lx:=hP.1
 have e100:(30:Int)<10^100:=by decide +kernel
 have ok:∀u∈ws,∀z∈[u.1,u.2.1,u.2.2],DgOk z:=fun u hu z hz=>by
  refine L2.put_away fun G'4139 h'4139=>?_
  obtain⟨a1,a2,a3,a4,a5⟩:=hw u hu
  refine h'4139 ?_
  have:=h30 u hu
  simp only [List.mem_cons,List.not_mem_nil,or_false] at hz
  rcases hz with rfl|rfl|rfl <;> exact dgOk (by omega) (by omega)
 have wl:∀u∈ws,(wtx u).length<=303:=fun u hu=>by
  have l1:=(ok u hu u.1 (by simp)).len
  have l2:=(ok u hu u.2.1 (by simp)).len
  have l3:=(ok u hu u.2.2 (by simp)).len
  unfold wtx
  simp [glu]
  omega
 refine⟨rfl,⟨_,hS⟩,y4k (rest:=[]) (fun j=>.str (tx (wtx (ws.getD j (1,0,1))))) rfl hS (by omega) (fun j x H2 R hx g hR=>?_) fun D H2 g nD hD=>?_⟩
 ·refine L2.put_away fun G'4151 h'4151=>?_
  obtain⟨p,u,e1,rfl,e3⟩:=hP.at hx
  refine h'4151 ?_
  have mu:=List.mem_of_getElem? e1
  have hT:SqT K H2 p ([u.1,u.2.1,u.2.2].map V.int):=SqT.of (g _ _ e3)
  have eu:ws.getD j (1,0,1)=u:=by rw[List.getD_eq_getElem?_getD,e1];rfl
  rw[eu] at hR
  walk_at "wpd"
  refine⟨rfl,⟨_,hT⟩,y7g (rest:=[]) (fun j=>.str (tx (dg (List.getD [u.1,u.2.1,u.2.2] j 0)))) rfl hT (by simp) (fun i x H3 R3 hx3 g3 hR3=>?_) fun D3 H3 g3 nD3 hD3=>?_⟩
  ·rw[List.getElem?_map] at hx3
   refine L2.put_away fun G'4159 h'4159=>?_
   obtain⟨z,hz,rfl⟩:=Option.map_eq_some_iff.mp hx3
   refine h'4159 ?_
   have dz:=ok u mu z (List.mem_of_getElem? hz)
   have ez:List.getD [u.1,u.2.1,u.2.2] i 0=z:=by rw[List.getD_eq_getElem?_getD,hz];rfl
   rw[ez] at hR3
   walk_at "wpd"
   refine⟨z,rfl,dz.sz,?_⟩
   rw[z3m]
   exact hR3 H3 (Same.refl H3)
  ·have e3:(List.range ([u.1,u.2.1,u.2.2].map V.int).length).map (fun j=>V.str (tx (dg (List.getD [u.1,u.2.1,u.2.2] j 0))))=([dg u.1,dg u.2.1,dg u.2.2].map tx).map V.str:=rfl
   rw[e3] at hD3
   refine y3r (M:=100) colon hD3 (fun y hy=>?_) (by simp) (hR H3 g3)
   simp only [List.mem_cons,List.not_mem_nil,or_false] at hy
   rcases hy with rfl|rfl|rfl
   ·exact (ok u mu u.1 (by simp)).len
   ·exact (ok u mu u.2.1 (by simp)).len
   ·exact (ok u mu u.2.2 (by simp)).len
 ·have el:(List.range xs.length).map (fun j=>V.str (tx (wtx (ws.getD j (1,0,1)))))=((ws.map wtx).map tx).map V.str:=by
   rw[lx,z8u ws (1,0,1) fun u=>V.str (tx (wtx u)),List.map_map,List.map_map]
   rfl
  rw[el] at hD
  refine y3r (M:=303) y1t hD (fun y hy=>?_) (by rw[List.length_map];omega) (q H2 g)
  refine L2.put_away fun G'4180 h'4180=>?_
  obtain⟨u,hu,rfl⟩:=List.mem_map.mp hy
  refine h'4180 ?_
  exact wl u hu
noncomputable def z8i (K:PySem.W.Frag):Sp:=fun vs H Q _=>∃(a:Addr) (xs:List V) (ws:List T3) (t:Int),vs=[.ref a,.int t]/\SqL K H a xs/\Pl H xs ws/\(∀u∈ws,Wk u)/\ws.length<=12/\∀H',Same H H'->Q (.bl (z1D ws t)) H'
theorem y0m (T:TF K mg "_law_awake" z3h) (m_any:mg "any" = none):Has P w K mg base 1 "_law_awake" ["plan", "turn"] (z8i K):=by
 refine T.has z8p (fun _ _ _ _ _ _=>L2.bnd2 fun _ _=>rfl) (fun vs H Q E h=>?_) (fun f cdv A outer s H vs Q E hr h=>?_)
 ·refine L2.put_away fun G'4185 h'4185=>?_
  obtain⟨a,xs,ws,t,rfl,_⟩:=h
  refine h'4185 ?_
  rfl
 refine L2.put_away fun G'4187 h'4187=>?_
 obtain⟨a,xs,ws,t,rfl,hS,hP,hw,hl,q⟩:=h
 refine h'4187 ?_
 refine⟨_,(z0D (z0I (z0M (z9W rfl) rfl m_any (by decide +kernel) (z0A (z1F (CompSc.capt (own:=["waking"]) (capt:=["turn"]) (fr:=[1]) rfl ⟨rfl,rfl,rfl,rfl,rfl,trivial⟩ (by decide +kernel) (by decide +kernel) rfl (by decide +kernel)) rfl (z0q (pv 0)) (fun _ _ _=>(z0S (i:=0) (show (["waking", "turn"]:List Str).Nodup from by decide +kernel) rfl (Or.inl rfl) (Or.inr rfl))) (fun _ _ _=>z0v) (fun _ _ _=>(z2h op_lt (pe_op z0f (pe_op z2k (pv 1) (pe_ix (z7d (K:=K) rfl) (pv 0) z0E (fun _ _=>rfl))) (pe_ix (z7d (K:=K) rfl) (pv 0) z0E (fun _ _=>rfl))) (pe_ix (z7d (K:=K) rfl) (pv 0) z0E (fun _ _=>rfl)) (z0T _)))) z0C)))),?_⟩
 walk_at "wpd"
 have lx:=hP.1
 refine⟨⟨_,hS⟩,y4k (rest:=[some (.int t)]) (fun j=>.bl (awk (ws.getD j (1,0,1)) t)) rfl hS (by omega) (fun j x H2 R hx g hR=>?_) fun D H2 g nD hD=>?_⟩
 ·refine L2.put_away fun G'4192 h'4192=>?_
  obtain⟨p,u,e1,rfl,e3⟩:=hP.at hx
  refine h'4192 ?_
  have hu:=hw u (List.mem_of_getElem? e1)
  have u1:=hu.1
  have hT:SqT K H2 p [.int u.1,.int u.2.1,.int u.2.2]:=SqT.of (g _ _ e3)
  have eu:ws.getD j (1,0,1)=u:=by rw[List.getD_eq_getElem?_getD,e1];rfl
  rw[eu] at hR
  walk_at "wpd"
  refine⟨_,_,_,.int u.2.1,rfl,rfl,hT,rfl,?_⟩
  walk_at "wpd"
  refine⟨_,_,_,.int u.1,rfl,rfl,hT,rfl,?_⟩
  walk_at "wpd"
  refine⟨by omega,?_⟩
  refine⟨_,_,_,.int u.2.2,rfl,rfl,hT,rfl,?_⟩
  walk_at "wpd"
  exact hR H2 (Same.refl H2)
 ·have el:(List.range xs.length).map (fun j=>V.bl (awk (ws.getD j (1,0,1)) t))=(ws.map fun u=>awk u t).map V.bl:=by
   rw[lx,z8u ws (1,0,1) fun u=>V.bl (awk u t),List.map_map]
   rfl
  rw[el] at hD
  refine⟨D,_,rfl,SqL.of hD,?_⟩
  have:=q H2 g
  unfold z1D at this
  rw[List.any_map]
  exact this
theorem z4y {u:T3} (hu:Wk u) (h1:u.1<=30):WOk u/\(wtx u).length<=303/\∀x∈wtx u,x<128:=by
 refine L2.put_away fun G'4218 h'4218=>?_
 obtain⟨a1,a2,a3,a4,a5⟩:=hu
 refine h'4218 ?_
 have e100:(30:Int)<10^100:=by decide +kernel
 have d1:=dgOk (n:=u.1) (by omega) (by omega)
 have d2:=dgOk (n:=u.2.1) a2 (by omega)
 have d3:=dgOk (n:=u.2.2) (by omega) (by omega)
 have al:∀n:Int,DgOk n->∀x∈dg n,x<128:=fun n d x hx=>by
  have:=d.all x hx
  omega
 have l1:=d1.len
 have l2:=d2.len
 have l3:=d3.len
 refine⟨⟨d1,d2,d3⟩,by unfold wtx;simp [glu];omega,z5v (Pz:=fun x=>x<128) (by decide) fun p hp=>?_⟩
 simp only [List.mem_cons,List.not_mem_nil,or_false] at hp
 rcases hp with rfl|rfl|rfl
 ·exact al _ d1
 ·exact al _ d2
 ·exact al _ d3
theorem y6Q {ws:List T3} (ne:ws≠[]) (hw:∀u∈ws,Wk u) (h1:∀u∈ws,u.1<=30) (hl:ws.length<=12):glu 32 (ws.map wtx)=ptext ws false/\TxOk (ptext ws false)/\(ptext ws false).length<=4000:=by
 have sm:=fun u hu=>(z4y (hw u hu) (h1 u hu)).2
 have e:glu 32 (ws.map wtx)=ptext ws false:=by
  unfold ptext
  rw[if_neg ne]
  congr 1
 rw[←e]
 have ln:(glu 32 (ws.map wtx)).length<=4000:=Nat.le_trans (z5u (M:=303) fun p hp=>by
  refine L2.put_away fun G'4243 h'4243=>?_
  obtain⟨u,hu,rfl⟩:=List.mem_map.mp hp
  refine h'4243 ?_
  exact (sm u hu).1) (by rw[List.length_map];omega)
 exact⟨rfl,⟨by omega,z5v (Pz:=fun x=>x<128) (by decide) fun p hp x hx=>by
  refine L2.put_away fun G'4246 h'4246=>?_
  obtain⟨u,hu,rfl⟩:=List.mem_map.mp hp
  refine h'4246 ?_
  exact (sm u hu).2 x hx⟩,ln⟩
noncomputable def bothB (ws us:List T3) (s t:Int):Bool:=z1D ws t && z1D us (t-s)
noncomputable def y1J (K:PySem.W.Frag):Sp:=fun vs H Q _=>∃(a b:Addr) (xs ys:List V) (ws us:List T3) (s t:Int),vs=[.ref a,.ref b,.int s,.int t]/\SqL K H a xs/\Pl H xs ws/\SqL K H b ys/\Pl H ys us/\(∀u∈ws,Wk u)/\(∀u∈us,Wk u)/\ws.length<=12/\us.length<=12/\∀H',Same H H'->Q (.bl (bothB ws us s t)) H'
theorem y2V (T:TF K mg "_law_both" z4Q) (G_law_awake:Has P w K mg base 1 "_law_awake" ["plan", "turn"] (z8i K)):Has P w K mg base 2 "_law_both" ["one", "other", "shift", "turn"] (y1J K):=by
 refine T.has y0D (fun _ _ _ _ _ _=>L2.bnd4 fun _ _ _ _=>rfl) (fun vs H Q E h=>?_) (fun f cdv A outer s H vs Q E hr h=>?_)
 ·refine L2.put_away fun G'4252 h'4252=>?_
  obtain⟨a,b,xs,ys,ws,us,sh,t,rfl,_⟩:=h
  refine h'4252 ?_
  rfl
 refine L2.put_away fun G'4254 h'4254=>?_
 obtain⟨a,b,xs,ys,ws,us,sh,t,rfl,hS,hP,hS2,hP2,hw,hu,lw,lu,q⟩:=h
 refine h'4254 ?_
 refine⟨_,(z0D (z0I (z5e (z0J (G_law_awake.mono (by first|decide|omega)) hr (z0A (pv 0) (z0A (pv 3) z0C))) (z6i (z0J (G_law_awake.mono (by first|decide|omega)) hr (z0A (pv 1) (z0A (pe_op z2k (pv 3) (pv 2)) z0C))))))),?_⟩
 walk_at "wpd"
 refine⟨a,xs,ws,t,rfl,hS,hP,hw,lw,fun H1 g1=>⟨_,rfl,fun c=>⟨b,ys,us,_,rfl,g1.seq hS2,hP2.same g1,hu,lu,fun H2 g2=>?_⟩,fun c=>?_⟩⟩
 ·have:=q H2 (g1.trans g2)
  unfold bothB at this
  rw[c,Bool.true_and] at this
  exact this
 ·have:=q H1 g1
  unfold bothB at this
  rw[Bool.eq_false_iff.mpr c,Bool.false_and] at this
  exact this
noncomputable def meetT (ws us:List T3) (wh s:Int):Bool:=(List.range wh.toNat).any fun j:Nat=>bothB ws us s (0+(j:Int))
noncomputable def z8h (K:PySem.W.Frag):Sp:=fun vs H Q _=>∃(a b:Addr) (xs ys:List V) (ws us:List T3) (wh:Int),vs=[.ref a,.ref b,.int wh]/\SqL K H a xs/\Pl H xs ws/\SqL K H b ys/\Pl H ys us/\(∀u∈ws,Wk u)/\(∀u∈us,Wk u)/\ws.length<=12/\us.length<=12/\1<=wh/\wh<=30/\∀D H',Same H H'->H D=none->H' D=some (.lst (((List.range wh.toNat).map fun j:Nat=>meetT ws us wh (0+(j:Int))).map V.bl))->Q (.ref D) H'
theorem y0k (T:TF K mg "_law_meets" z3f) (m_range:mg "range" = none) (m_any:mg "any" = none) (G_law_both:Has P w K mg base 2 "_law_both" ["one", "other", "shift", "turn"] (y1J K)):Has P w K mg base 3 "_law_meets" ["one", "other", "whole"] (z8h K):=by
 refine T.has z2q (fun _ _ _ _ _ _=>L2.bnd3 fun _ _ _=>rfl) (fun vs H Q E h=>?_) (fun f cdv A outer s H vs Q E hr h=>?_)
 ·refine L2.put_away fun G'4270 h'4270=>?_
  obtain⟨a,b,xs,ys,ws,us,wh,rfl,_⟩:=h
  refine h'4270 ?_
  rfl
 refine L2.put_away fun G'4272 h'4272=>?_
 obtain⟨a,b,xs,ys,ws,us,wh,rfl,hS,hP,hS2,hP2,hw,hu,lw,lu,w0,w1,q⟩:=h
 refine h'4272 ?_
 refine⟨_,(z0B (z0P (i:=3) z2q.nd rfl (Or.inl rfl) (z1T z0C)) (z0B (z1S PassesOwn.never rfl (z1f rfl m_range (z0A (pv 2) z0C)) (z0S (i:=4) z2q.nd rfl (Or.inr rfl)) (z0D (z1k (pe_bm PySem.F.plainAttrs_list PySem.F.slot_list_append PySem.F.type_list_append z1g (pv 3) (z0A (z0M (z9W rfl) rfl m_any (by decide +kernel) (z0A (z1F (CompSc.capt (own:=["turn"]) (capt:=["shift", "other", "one"]) (fr:=[4,1,0]) rfl ⟨rfl,rfl,rfl,rfl,rfl,⟨rfl,rfl,rfl,rfl,rfl,⟨rfl,rfl,rfl,rfl,rfl,trivial⟩⟩⟩ (by decide +kernel) (by decide +kernel) rfl (by decide +kernel)) rfl (z1f rfl m_range (z0A (pv 2) z0C)) (fun _ _ _=>(z0S (i:=0) (show (["turn", "shift", "other", "one"]:List Str).Nodup from by decide +kernel) rfl (Or.inl rfl) (Or.inr rfl))) (fun _ _ _=>z0v) (fun _ _ _=>(z0J (G_law_both.mono (by first|decide|omega)) hr (z0A (pv 3) (z0A (pv 2) (z0A (pv 1) (z0A (pv 0) z0C))))))) z0C)) z0C))))) (z0D (z0I (pv 3))))),?_⟩
 walk_at "wpd"
 intro D nD
 have gD:=z0H nD (.lst [])
 have hD:=z0F (H:=H) (a:=D) (o:=.lst [])
 generalize upd H D (.lst [])=H1 at gD hD ⊢
 refine⟨wh,rfl,by omega,by omega,?_⟩
 obtain⟨W,hW⟩:∃W:Nat->St->Hp->Prop,W=fun i σ H3=>∃(o1:Option V),σ=[some (.ref a),some (.ref b),some (.int wh),some (.ref D),o1]/\Same H H3/\H3 D=some (.lst (((List.range i).map fun j:Nat=>meetT ws us wh (0+(j:Int))).map V.bl)):=⟨_,rfl⟩
 refine z1r W ?_ (fun i σ H3 hi z=>?_) (fun σ H3 z=>?_)
 ·rw[hW]
  exact⟨none,rfl,gD,hD⟩
 ·rw[hW] at z
  refine L2.put_away fun G'4285 h'4285=>?_
  obtain⟨o1,rfl,g,hD3⟩:=z
  refine h'4285 ?_
  walk_at "wpd"
  refine⟨.inl ⟨rfl,_,SqL.of hD3⟩,wh,rfl,by omega,by omega,?_⟩
  refine y7h (rest:=[some (.int (0+(i:Int))),some (.ref b),some (.ref a)]) (fun j=>.bl (bothB ws us (0+(i:Int)) (0+(j:Int)))) rfl (by omega) (fun j H2 R hj g2 hR=>?_) fun D2 H2 g2 nD2 hD2=>?_
  ·walk_at "wpd"
   have G:=g.trans g2
   exact⟨a,b,xs,ys,ws,us,_,_,rfl,G.seq hS,hP.same G,G.seq hS2,hP2.same G,hw,hu,lw,lu,fun H4 g4=>hR H4 g4⟩
  ·have el:(List.range wh.toNat).map (fun j:Nat=>V.bl (bothB ws us (0+(i:Int)) (0+(j:Int))))=((List.range wh.toNat).map fun j:Nat=>bothB ws us (0+(i:Int)) (0+(j:Int))).map V.bl:=by rw[List.map_map];rfl
   rw[el] at hD2
   refine⟨D2,_,rfl,SqL.of hD2,?_⟩
   have em:List.any ((List.range wh.toNat).map fun j:Nat=>bothB ws us (0+(i:Int)) (0+(j:Int))) id=meetT ws us wh (0+(i:Int)):=by rw[List.any_map];rfl
   rw[em]
   refine⟨D,_,_,rfl,rfl,g2 _ _ hD3,by rw[sizeLine_eq,List.length_map,List.length_map,List.length_range];omega,?_⟩
   rw[hW]
   refine⟨_,rfl,(g.trans g2).write nD _,?_⟩
   rw[z0F,List.range_succ,List.map_append,List.map_append]
   rfl
 ·rw[hW] at z
  refine L2.put_away fun G'4303 h'4303=>?_
  obtain⟨o1,rfl,g,hD3⟩:=z
  refine h'4303 ?_
  walk_at "wpd"
  exact q D H3 g nD hD3
noncomputable def tbl (wh:Int) (x:T3):List Bool:=(List.range wh.toNat).map fun j:Nat=>awk x (j:Int)
theorem z8R {u:T3} {t:Int}:awk u t=true ↔ awP u t:=by unfold awk awP;exact decide_eq_true_iff
theorem y5h {u v:T3} {wh:Int} (hu:Wk u) (hv:Wk v) (du:u.1∣wh) (dv:v.1∣wh) (w0:1<=wh) (s:Int):meetT [u] [v] wh s=awk (sh2 u v) s:=by
 rw[Bool.eq_iff_iff,z8R]
 unfold meetT bothB z1D
 rw[List.any_eq_true]
 simp only [List.any_cons,List.any_nil,Bool.or_false,Bool.and_eq_true,z8R]
 refine Iff.trans ?_ (y6t hu hv s).symm
 constructor
 ·rintro⟨j,_,h1,h2⟩
  exact⟨_,h1,h2⟩
 ·rintro⟨t,h1,h2⟩
  have m:=modB3 t w0
  obtain⟨k,hk⟩:=z1z t wh
  refine⟨(t%wh).toNat,List.mem_range.mpr (by omega),?_,?_⟩
  ·have e:(0:Int)+(((t%wh).toNat:Nat):Int)=t+wh*(-k):=by rw[Int.mul_neg];omega
   rw[e]
   exact (z8S (Int.dvd_trans du ⟨_,rfl⟩)).mpr h1
  ·have e:(0:Int)+(((t%wh).toNat:Nat):Int)-s=(t-s)+wh*(-k):=by rw[Int.mul_neg];omega
   rw[e]
   exact (z8S (Int.dvd_trans dv ⟨_,rfl⟩)).mpr h2
theorem y6k {u v:T3} {wh:Int} (hu:Wk u) (hv:Wk v) (du:u.1∣wh) (dv:v.1∣wh) (w0:1<=wh):((List.range wh.toNat).map fun j:Nat=>meetT [u] [v] wh (0+(j:Int)))=tbl wh (sh2 u v):=by
 unfold tbl
 refine List.map_congr_left fun j _=>?_
 rw[y5h hu hv du dv w0,Int.zero_add]
noncomputable def TbAt (N:Addr->Prop) (H:Hp) (zs:List V) (tb:List (List Bool)):Prop:=zs.length=tb.length/\∀(i:Nat) (t:List Bool),tb[i]?=some t->∃p:Addr,zs[i]?=some (V.ref p)/\N p/\H p=some (.lst (t.map V.bl))
theorem TbAt.same {N:Addr->Prop} {H H':Hp} {zs:List V} {tb:List (List Bool)} (h:TbAt N H zs tb) (g:Same H H'):TbAt N H' zs tb:=⟨h.1,fun i t e=>let ⟨p,e1,n,e2⟩:=h.2 i t e;⟨p,e1,n,g _ _ e2⟩⟩
theorem TbAt.upd {D:Addr} {H:Hp} {zs:List V} {tb:List (List Bool)} {o:HO} (h:TbAt (·≠D) H zs tb):TbAt (·≠D) (upd H D o) zs tb:=⟨h.1,fun i t e=>let ⟨p,e1,n,e2⟩:=h.2 i t e;⟨p,e1,n,by rw[z0U n];exact e2⟩⟩
theorem TbAt.snoc {N:Addr->Prop} {H:Hp} {zs:List V} {tb:List (List Bool)} {t:List Bool} {p:Addr} (h:TbAt N H zs tb) (n:N p) (hp:H p=some (.lst (t.map V.bl))):TbAt N H (zs++[.ref p]) (tb++[t]):=by
 refine⟨by simp [h.1],fun i t' e=>?_⟩
 by_cases c:i<tb.length
 ·rw[List.getElem?_append_left c] at e
  rw[List.getElem?_append_left (by rw[h.1];exact c)]
  exact h.2 i t' e
 ·rw[List.getElem?_append_right (by omega)] at e
  have ei:i-tb.length=0:=by
   cases z:i-tb.length with
   | zero=>rfl
   | succ m=>rw[z] at e;simp at e
  rw[ei] at e
  cases e
  rw[List.getElem?_append_right (by rw[h.1];omega),h.1,ei]
  exact⟨p,rfl,n,hp⟩
noncomputable def z8e (K:PySem.W.Frag):Sp:=fun vs H Q _=>∃(a b:Addr) (xs ys:List V) (ws us:List T3) (wh:Int),vs=[.ref a,.ref b,.int wh]/\SqL K H a xs/\Pl H xs ws/\SqL K H b ys/\Pl H ys us/\(∀u∈ws,Wk u)/\(∀u∈us,Wk u)/\(∀u∈ws,u.1∣wh)/\(∀u∈us,u.1∣wh)/\ws.length<=12/\us.length<=12/\1<=wh/\wh<=30/\∀D zs H',Same H H'->H' D=some (.lst zs)->TbAt (fun _=>True) H' zs ((shs ws us).map (tbl wh))->Q (.ref D) H'
theorem y0i (T:TF K mg "_law_pairs" z3d) (G_law_meets:Has P w K mg base 3 "_law_meets" ["one", "other", "whole"] (z8h K)):Has P w K mg base 4 "_law_pairs" ["one", "other", "whole"] (z8e K):=by
 refine T.has z2D (fun _ _ _ _ _ _=>L2.bnd3 fun _ _ _=>rfl) (fun vs H Q E h=>?_) (fun f cdv A outer s H vs Q E hr h=>?_)
 ·refine L2.put_away fun G'4354 h'4354=>?_
  obtain⟨a,b,xs,ys,ws,us,wh,rfl,_⟩:=h
  refine h'4354 ?_
  rfl
 refine L2.put_away fun G'4356 h'4356=>?_
 obtain⟨a,b,xs,ys,ws,us,wh,rfl,hS,hP,hS2,hP2,hw,hu,dw,du,lw,lu,w0,w1,q⟩:=h
 refine h'4356 ?_
 refine⟨_,(z0B (z0P (i:=3) z2D.nd rfl (Or.inl rfl) (z1T z0C)) (z0B (z1S PassesOwn.never rfl (z0q (pv 0)) (z0S (i:=4) z2D.nd rfl (Or.inl rfl)) (z0D (z1S PassesOwn.never rfl (z0q (pv 1)) (z0S (i:=5) z2D.nd rfl (Or.inl rfl)) (z0D (z1k (pe_bm PySem.F.plainAttrs_list PySem.F.slot_list_append PySem.F.type_list_append z1g (pv 3) (z0A (z0J (G_law_meets.mono (by first|decide|omega)) hr (z0A (z1T (z0A (pv 4) z0C)) (z0A (z1T (z0A (pv 5) z0C)) (z0A (pv 2) z0C)))) z0C))))))) (z0D (z0I (pv 3))))),?_⟩
 walk_at "wpd"
 intro D nD
 have gD:=z0H nD (.lst [])
 have hD:=z0F (H:=H) (a:=D) (o:=.lst [])
 generalize upd H D (.lst [])=H1 at gD hD ⊢
 have lx:=hP.1
 have ly:=hP2.1
 obtain⟨W,hW⟩:∃W:Nat->St->Hp->Prop,W=fun i σ H3=>∃(o1 o2:Option V) (zs:List V),σ=[some (.ref a),some (.ref b),some (.int wh),some (.ref D),o1,o2]/\Same H H3/\H3 D=some (.lst zs)/\TbAt (·≠D) H3 zs ((shs (ws.take i) us).map (tbl wh)):=⟨_,rfl⟩
 refine⟨⟨_,gD.seq hS⟩,z1R (xs:=xs) W ?_ (fun i σ H' _ z=>?_) (fun i x σ H' hx z=>?_) (fun σ H' z=>?_)⟩
 ·rw[hW]
  exact⟨none,none,[],rfl,gD,hD,rfl,fun i t e=>by simp [shs] at e⟩
 ·rw[hW] at z
  refine L2.put_away fun G'4370 h'4370=>?_
  obtain⟨_,_,_,_,g,_⟩:=z
  refine h'4370 ?_
  exact g.seq hS
 ·rw[hW] at z
  refine L2.put_away fun G'4373 h'4373=>?_
  obtain⟨o1,o2,zs,rfl,g,hD2,tb⟩:=z
  refine h'4373 ?_
  refine L2.put_away fun G'4374 h'4374=>?_
  obtain⟨p,u,e1,rfl,e3⟩:=hP.at hx
  refine h'4374 ?_
  have mu:=List.mem_of_getElem? e1
  have li:=(List.getElem?_eq_some_iff.mp e1).1
  have lsh:(shs (ws.take i) us).length<=144:=by
   rw[z2Q,List.length_take]
   exact Nat.mul_le_mul (show min i ws.length<=12 by omega) lu
  walk_at "wpd"
  obtain⟨W2,hW2⟩:∃W2:Nat->St->Hp->Prop,W2=fun j σ H3=>∃(o2:Option V) (zs:List V),σ=[some (.ref a),some (.ref b),some (.int wh),some (.ref D),some (.ref p),o2]/\Same H H3/\H3 D=some (.lst zs)/\TbAt (·≠D) H3 zs ((shs (ws.take i) us++(us.take j).map (sh2 u)).map (tbl wh)):=⟨_,rfl⟩
  refine⟨⟨_,g.seq hS2⟩,z1R (xs:=ys) W2 ?_ (fun j σ H3 _ z=>?_) (fun j x σ H3 hx2 z=>?_) (fun σ H3 z=>?_)⟩
  ·rw[hW2]
   exact⟨_,zs,rfl,g,hD2,by simpa using tb⟩
  ·rw[hW2] at z
   refine L2.put_away fun G'4386 h'4386=>?_
   obtain⟨_,_,_,g,_⟩:=z
   refine h'4386 ?_
   exact g.seq hS2
  ·rw[hW2] at z
   refine L2.put_away fun G'4389 h'4389=>?_
   obtain⟨o3,zs3,rfl,g3,hD3,tb3⟩:=z
   refine h'4389 ?_
   refine L2.put_away fun G'4390 h'4390=>?_
   obtain⟨p2,v,f1,rfl,f3⟩:=hP2.at hx2
   refine h'4390 ?_
   have mv:=List.mem_of_getElem? f1
   have lj:=(List.getElem?_eq_some_iff.mp f1).1
   walk_at "wpd"
   refine⟨.inl ⟨rfl,_,SqL.of hD3⟩,fun P1 nP1 P2 nP2=>?_⟩
   have gA:=z0H nP1 (.lst [V.ref p])
   have hA:=z0F (H:=H3) (a:=P1) (o:=.lst [V.ref p])
   generalize upd H3 P1 (.lst [V.ref p])=H4 at gA hA nP2 ⊢
   have gB:=z0H nP2 (.lst [V.ref p2])
   have hB:=z0F (H:=H4) (a:=P2) (o:=.lst [V.ref p2])
   generalize upd H4 P2 (.lst [V.ref p2])=H5 at gB hB ⊢
   have G35:=gA.trans gB
   have one:∀ {q0:Addr} {t:T3},H5 q0=some (tupW t)->Pl H5 [V.ref q0] [t]:=fun {q0 t} h=>⟨rfl,fun i t' e=>by
    cases i with
    | zero=>cases e;exact⟨q0,rfl,h⟩
    | succ n=>simp at e⟩
   refine⟨P1,P2,_,_,[u],[v],wh,rfl,SqL.of (gB _ _ hA),one (G35 _ _ (g3 _ _ e3)),SqL.of hB,one (G35 _ _ (g3 _ _ f3)),(fun t ht=>by rw[List.mem_singleton.mp ht];exact hw u mu),(fun t ht=>by rw[List.mem_singleton.mp ht];exact hu v mv),by simp,by simp,w0,w1,fun D2 H6 g6 nD2 hD6=>?_⟩
   have G36:=G35.trans g6
   rw[y6k (hw u mu) (hu v mv) (dw u mu) (du v mv) w0] at hD6
   have ne2:D2≠D:=fun e=>by rw[e,G35 _ _ hD3] at nD2;cases nD2
   have l3:=tb3.1
   rw[List.length_map,List.length_append,List.length_map,List.length_take] at l3
   refine⟨D,_,_,rfl,rfl,G36 _ _ hD3,by rw[sizeLine_eq];omega,?_⟩
   rw[hW2]
   refine⟨_,_,rfl,(g3.trans G36).write nD _,z0F,?_⟩
   have ek:(shs (ws.take i) us++(us.take (j+1)).map (sh2 u)).map (tbl wh)=(shs (ws.take i) us++(us.take j).map (sh2 u)).map (tbl wh)++[tbl wh (sh2 u v)]:=by
    rw[List.take_add_one,f1]
    simp
   rw[ek]
   exact ((tb3.same G36).snoc ne2 hD6).upd
  ·rw[hW2] at z
   refine L2.put_away fun G'4421 h'4421=>?_
   obtain⟨o3,zs3,rfl,g3,hD3,tb3⟩:=z
   refine h'4421 ?_
   rw[hW]
   refine⟨_,_,zs3,rfl,g3,hD3,?_⟩
   rw[y1R e1]
   rw[ly,List.take_length] at tb3
   exact tb3
 ·rw[hW] at z
  refine L2.put_away fun G'4428 h'4428=>?_
  obtain⟨o1,o2,zs,rfl,g,hD2,tb⟩:=z
  refine h'4428 ?_
  walk_at "wpd"
  rw[lx,List.take_length] at tb
  exact q D zs H' g hD2 ⟨tb.1,fun i t e=>let ⟨p,e1,_,e2⟩:=tb.2 i t e;⟨p,e1,trivial,e2⟩⟩
noncomputable def z1V:Sp:=fun vs H Q _=>∃a b:Int,vs=[.int a,.int b]/\0<=a/\0<=b/\Q (.int (gcdI a b)) H
theorem z7w (T:TF K mg "_law_divisor" z2a):Has P w K mg base 1 "_law_divisor" ["one", "other"] z1V:=by
 refine T.has z3U (fun _ _ _ _ _ _=>L2.bnd2 fun _ _=>rfl) (fun vs H Q E h=>?_) (fun f cdv A outer s H vs Q E hr h=>?_)
 ·refine L2.put_away fun G'4436 h'4436=>?_
  obtain⟨a,b,rfl,_⟩:=h
  refine h'4436 ?_
  rfl
 refine L2.put_away fun G'4438 h'4438=>?_
 obtain⟨a,b,rfl,ha,hb,q⟩:=h
 refine h'4438 ?_
 refine⟨_,(z0B (z3w PassesOwn.never (z0L op_gt (pv 1) z0E (z0T _)) (z0D (y8A (i:=0) (j:=1) rfl z3U.nd rfl rfl (by decide) rfl rfl (z0A (pv 1) (z0A (pe_op z0f (pv 0) (pv 1)) z0C)) rfl))) (z0D (z0I (pv 0)))),?_⟩
 walk_at "wp"
 obtain⟨W,hW⟩:∃W:Nat->St->Hp->Prop,W=fun m σ H'=>∃(x y:Int),σ=[some (.int x),some (.int y)]/\H'=H/\0<=x/\0<=y/\gcdI x y=gcdI a b/\m=y.toNat:=⟨_,rfl⟩
 refine⟨W,⟨b.toNat,by rw[hW];exact⟨a,b,rfl,rfl,ha,hb,rfl,rfl⟩⟩,fun m σ H' h=>?_⟩
 rw[hW] at h
 refine L2.put_away fun G'4444 h'4444=>?_
 obtain⟨x,y,rfl,rfl,hx,hy,e,rfl⟩:=h
 refine h'4444 ?_
 walk_at "wp"
 refine⟨fun c=>?_,fun c=>?_⟩
 ·have m1:=Int.emod_nonneg x (show y≠0 by omega)
  have m2:=Int.emod_lt_of_pos x (show 0<y by omega)
  refine⟨_,fun _ _ h=>h,?_⟩
  walk_at "wp"
  refine⟨by omega,(x%y).toNat,by omega,?_⟩
  rw[hW]
  exact⟨y,x%y,rfl,rfl,hy,m1,by rw[z4C,e],rfl⟩
 ·have c':y=0:=by omega
  subst c'
  rw[z5w hx] at e
  rw[e]
  exact q
theorem rsGe {a b c:Int} (h:0<c) {i:Nat} (hi:a+i*c<b):i<(Builtin.Range.rangeSize a b c).toNat:=by
 have e:=rsN (a:=a) (b:=b) h
 have ic:0<=(i:Int)*c:=Int.mul_nonneg (by omega) (by omega)
 have:(i:Int)<Builtin.Range.rangeSize a b c:=by
  unfold Builtin.Range.rangeSize
  rw[if_pos h,if_pos (by omega)]
  have:=Int.le_ediv_of_mul_le h (show (i:Int)*c<=b-a-1 by omega)
  omega
 omega
theorem y5k {x:T3} {s r wh:Int} (hx:Wk x) (dx:x.1∣wh) (w0:1<=wh) (s1:1<=s):(∀j:Nat,j<(Builtin.Range.rangeSize (r%gcdI s wh) wh (gcdI s wh)).toNat->awk x (r%gcdI s wh+j*gcdI s wh)=true) ↔ liesB x s r=true:=by
 have gp:=z0m (a:=s) (b:=wh) (by omega)
 have gm:=modB3 r (show 1<=gcdI s wh by omega)
 constructor
 ·intro h
  unfold liesB
  refine decide_eq_true ((y1e hx.1 hx.2.2.2.1 hx.2.2.2.2).mpr fun k hk=>?_)
  obtain⟨k1,h1⟩:=z1z (r+s*k) wh
  obtain⟨k2,h2⟩:=z1z r (gcdI s wh)
  obtain⟨k3,h3⟩:=z0i s wh
  obtain⟨k4,h4⟩:=z0d s wh
  have m1:=modB3 (r+s*k) w0
  obtain⟨j,hj⟩:∃j:Int,(r+s*k)%wh=r%gcdI s wh+j*gcdI s wh:=by
   refine⟨k2+k3*k-k4*k1,?_⟩
   rw[Int.sub_mul,Int.add_mul,Int.mul_assoc,Int.mul_comm (k:Int),←Int.mul_assoc,Int.mul_comm k3,←h3,Int.mul_assoc,Int.mul_comm k1,←Int.mul_assoc,Int.mul_comm k4,←h4,Int.mul_comm k2]
   omega
  have j0:0<=j:=by
   rcases Int.lt_or_le j 0 with z|z
   ·have:=Int.mul_le_mul_of_nonneg_right (show j<=-1 by omega) (show 0<=gcdI s wh by omega)
    omega
   ·exact z
  have ej:((j.toNat:Nat):Int)=j:=by omega
  have a:=h j.toNat (rsGe gp (by rw[ej];omega))
  rw[ej,←hj,z8R] at a
  have e:r+s*k=(r+s*k)%wh+wh*k1:=by omega
  rw[e]
  exact (z8S (Int.dvd_trans dx ⟨k1,rfl⟩)).mpr a
 ·intro h j hj
  rw[z8R]
  obtain⟨t,⟨k,hk⟩,q2⟩:=crt (p:=s) (q:=wh) (A:=r) (B:=r%gcdI s wh+j*gcdI s wh) s1 w0 (by
   obtain⟨k2,h2⟩:=z1z r (gcdI s wh)
   refine⟨k2-j,?_⟩
   rw[Int.mul_sub,Int.mul_comm _ (j:Int)]
   omega)
  have l:=y5l hx h k
  have e:r+s*k=(r%gcdI s wh+j*gcdI s wh)+(t-(r%gcdI s wh+j*gcdI s wh)):=by omega
  rw[e] at l
  exact (z8S (Int.dvd_trans dx q2)).mp l
theorem z6C {n:Nat} {f:Nat->Bool} {b:Bool} (h:(∀j,j<n->f j=true) ↔ b=true):((List.range n).map f).all id=b:=by
 rw[Bool.eq_iff_iff,←h,List.all_map,List.all_eq_true]
 exact⟨fun z j hj=>z j (List.mem_range.mpr hj),fun z j hj=>z j (List.mem_range.mp hj)⟩
theorem y4v {xs:List V} {k:Int} {v:V} (k0:0<=k) (h:xs[k.toNat]?=some v):atI xs k=some v:=by
 have e:k=((k.toNat:Nat):Int):=by omega
 rw[e]
 exact z0X h
theorem y6J {wh t:Int} {x:T3} (t0:0<=t) (t1:t<wh):((tbl wh x).map V.bl)[t.toNat]?=some (.bl (awk x t)):=by
 unfold tbl
 rw[List.getElem?_map,List.getElem?_map,List.getElem?_range (by omega)]
 show some (V.bl (awk x ((t.toNat:Nat):Int)))=_
 rw[Int.toNat_of_nonneg t0]
theorem y1U {a b c:Int} (h:0<c) (a0:0<=a) (b1:b<=30):(Builtin.Range.rangeSize a b c).toNat<=1000000:=by
 rcases Nat.eq_zero_or_pos (Builtin.Range.rangeSize a b c).toNat with z|z
 ·omega
 ·have:=rsLt (a:=a) (b:=b) h (i:=(Builtin.Range.rangeSize a b c).toNat-1) (by omega)
  have m:=Int.mul_le_mul_of_nonneg_left (show 1<=c by omega) (show 0<=(((Builtin.Range.rangeSize a b c).toNat-1:Nat):Int) by omega)
  omega
noncomputable def z8d (K:PySem.W.Frag) (d:Nat):Sp:=fun vs H Q _=>∃(a:Addr) (v:V) (zs:List V) (ss:List T3) (wh s r:Int) (p:Pap),vs=[.ref a,.int wh,.int s,.int r,v]/\H a=some (.lst zs)/\TbAt (fun _=>True) H zs (ss.map (tbl wh))/\(∀x∈ss,Wk x)/\(∀x∈ss,x.1∣wh)/\1<=wh/\wh<=30/\1<=s/\PapIn K anyL H v p/\p.dep<d/\∀H',Same H H'->Q (.bl (z0Y ss s r p)) H'
theorem y0h (T:TF K mg "_law_right" z3c) (m_len:mg "len" = none) (m_range:mg "range" = none) (m_all:mg "all" = none) (G_law_divisor:Has P w K mg base 1 "_law_divisor" ["one", "other"] z1V) :
  ∀d:Nat,Has P w K mg base (d+2) "_law_right" ["tables", "whole", "step", "rest", "paper"] (z8d K d):=by
 intro d
 induction d with
 | zero=>
  refine T.has z2C (fun _ _ _ _ _ _=>L2.bnd5 fun _ _ _ _ _=>rfl) (fun vs H Q E h=>?_) (fun f cdv A outer s H vs Q E hr h=>?_)
  ·refine L2.put_away fun G'4533 h'4533=>?_
   obtain⟨_,_,_,_,_,_,_,_,_,_,_,_,_,_,_,_,_,h,_⟩:=h
   refine h'4533 ?_
   exact absurd h (Nat.not_lt_zero _)
  ·refine L2.put_away fun G'4535 h'4535=>?_
   obtain⟨_,_,_,_,_,_,_,_,_,_,_,_,_,_,_,_,_,h,_⟩:=h
   refine h'4535 ?_
   exact absurd h (Nat.not_lt_zero _)
 | succ d ih=>
 have G_law_right:=ih
 refine T.has z2C (fun _ _ _ _ _ _=>L2.bnd5 fun _ _ _ _ _=>rfl) (fun vs H Q E h=>?_) (fun f cdv A outer s H vs Q E hr h=>?_)
 ·refine L2.put_away fun G'4540 h'4540=>?_
  obtain⟨a,v,zs,ss,wh,s,r,p,rfl,_⟩:=h
  refine h'4540 ?_
  rfl
 refine L2.put_away fun G'4542 h'4542=>?_
 obtain⟨a,v,zs,ss,wh,st,r,p,rfl,ha,tb,hw,hd,w0,w1,s1,hv,dp,q⟩:=h
 refine h'4542 ?_
 refine⟨_,(z0B (ps_if (z0L op_eq (pe_ix z0R (pv 4) z0E (fun _ _=>rfl)) z0N (z0T _)) (z0B (ps_if (z2F (y5O op_le op_lt z0E (pe_ix z0R (pv 4) z0E (fun _ _=>rfl)) (z0M z0Q rfl m_len PySem.boot_len (z0A (pv 0) z0C)))) (z0D (z0I pe_bl)) z0K) (z0B (z0P (i:=5) z2C.nd rfl (Or.inl rfl) (z0J (G_law_divisor.mono (by first|decide|omega)) hr (z0A (pv 2) (z0A (pv 1) z0C)))) (z0D (z0I (z0M (z4G rfl) rfl m_all (by decide +kernel) (z0A (z1F (CompSc.capt (own:=["shift"]) (capt:=["tables", "paper"]) (fr:=[0,4]) rfl ⟨rfl,rfl,rfl,rfl,rfl,⟨rfl,rfl,rfl,rfl,rfl,trivial⟩⟩ (by decide +kernel) (by decide +kernel) rfl (by decide +kernel)) rfl (z8z rfl m_range (z0A (pe_op z0f (pv 3) (pv 5)) (z0A (pv 1) (z0A (pv 5) z0C)))) (fun _ _ _=>(z0S (i:=0) (show (["shift", "tables", "paper"]:List Str).Nodup from by decide +kernel) rfl (Or.inl rfl) (Or.inr rfl))) (fun _ _ _=>z0v) (fun _ _ _=>(pe_ix (z4B (K:=K) rfl) (pe_ix (z4B (K:=K) rfl) (pv 1) (pe_ix (z7d (K:=K) rfl) (pv 2) z0E (fun _ _=>rfl)) (fun _ _=>rfl)) (pv 0) (fun _ _=>rfl)))) z0C)))))) z0K) (z0B (ps_if (PW.pt (pw_or (z0L op_lt (pe_ix z0R (pv 4) z0E (fun _ _=>rfl)) z0E (z0T _)) (z6g (z0L op_ne (z0M z0Q rfl m_len PySem.boot_len (z0A (pe_ix z0R (pv 4) z0E (fun _ _=>rfl)) z0C)) (pe_ix z0R (pv 4) z0E (fun _ _=>rfl)) (z0T _))))) (z0D (z0I pe_bl)) z0K) (z0B (z1S PassesOwn.never rfl (z1f rfl m_range (z0A (pe_ix z0R (pv 4) z0E (fun _ _=>rfl)) z0C)) (z0S (i:=6) z2C.nd rfl (Or.inl rfl)) (z0D (ps_if (z2F (z1C (z0J (G_law_right.mono (by first|decide|omega)) hr (z0A (pv 0) (z0A (pv 1) (z0A (pe_op z1l (pv 2) (pe_ix z0R (pv 4) z0E (fun _ _=>rfl))) (z0A (pe_op z1M (pv 3) (pe_op z1l (pv 2) (pv 6))) (z0A (pe_ix z0b (pe_ix z0R (pv 4) z0E (fun _ _=>rfl)) (pv 6) (fun _ _=>rfl)) z0C)))))) (fun _=>rfl))) (z0D (z0I pe_bl)) z0K))) (z0D (z0I pe_bl))))),?_⟩
 have lz:=tb.1
 rw[List.length_map] at lz
 cases hv with
 | @inn b k hb=>
  have hT:SqT K H b [.str "in",.int k]:=SqT.of hb
  walk_at "wpd"
  have q1:=q H (Same.refl H)
  unfold z0Y at q1
  refine⟨_,_,_,.str "in",rfl,rfl,hT,rfl,rfl,_,rfl,fun _=>?_,fun c=>absurd (decide_eq_true rfl) c⟩
  refine⟨_,_,_,.int k,rfl,rfl,hT,rfl,?_⟩
  walk_at "wpd"
  refine⟨fun c0=>⟨a,zs,rfl,.inl (SqL.of ha),?_⟩,fun c0=>?_⟩
  ·rw[decide_eq_true c0,Bool.true_and] at q1
   walk_at "wpd"
   refine⟨fun c=>?_,fun c=>?_⟩
   ·rw[decide_eq_false (by rw[←lz];exact c),Bool.false_and] at q1
    exact q1
   have kz:k<zs.length:=by omega
   have kl:k.toNat<ss.length:=by omega
   rw[decide_eq_true (show k<ss.length by omega),Bool.true_and,List.getD_eq_getElem?_getD,List.getElem?_eq_getElem kl] at q1
   have mx:=List.getElem_mem kl
   obtain⟨p,e1,_,hp⟩:=tb.2 k.toNat (tbl wh ss[k.toNat]) (by rw[List.getElem?_map,List.getElem?_eq_getElem kl];rfl)
   generalize hx:ss[k.toNat]=x at q1 mx hp
   have q1:Q (.bl (liesB x st r)) H:=q1
   have gp:=z0m (a:=st) (b:=wh) (by omega)
   have gl:gcdI st wh<=wh:=by rw[z4D];exact z0n _ (by omega)
   have rm:=modB3 r (show 1<=gcdI st wh by omega)
   refine⟨st,wh,rfl,by omega,by omega,_,_,rfl,rfl,gp,_,_,_,(Builtin.Range.rangeSize (r%gcdI st wh) wh (gcdI st wh)).toNat,rfl,gp,by omega,rsN gp,?_⟩
   have lt:=y5k (r:=r) (hw x mx) (hd x mx) w0 s1
   refine y4j (rest:=[some (.ref a),some (.ref b)]) (fun j=>.bl (awk x (r%gcdI st wh+j*gcdI st wh))) rfl (y1U gp rm.1 w1) (fun j H2 R hj g2 hR=>?_) fun D H2 g2 nD hD=>?_
   ·have jl:=rsLt gp hj
    have j0:0<=(j:Int)*gcdI st wh:=Int.mul_nonneg (by omega) (by omega)
    walk_at "wpd"
    exact⟨_,_,_,.int k,rfl,rfl,Same.seqT g2 hT,rfl,z0W (SqL.of (g2 _ _ ha)) (y4v c0 e1) (z0W (SqL.of (g2 _ _ hp)) (y4v (by omega) (y6J (by omega) (by omega))) (hR H2 (Same.refl H2)))⟩
   ·have el:(List.range (Builtin.Range.rangeSize (r%gcdI st wh) wh (gcdI st wh)).toNat).map (fun j:Nat=>V.bl (awk x (r%gcdI st wh+j*gcdI st wh)))=((List.range (Builtin.Range.rangeSize (r%gcdI st wh) wh (gcdI st wh)).toNat).map fun j:Nat=>awk x (r%gcdI st wh+j*gcdI st wh)).map V.bl:=by rw[List.map_map];rfl
    rw[el] at hD
    refine⟨D,_,rfl,SqL.of hD,?_⟩
    rw[z6C lt]
    have q2:=q H2 g2
    unfold z0Y at q2
    rw[decide_eq_true c0,decide_eq_true (show k<ss.length by omega),Bool.true_and,Bool.true_and,List.getD_eq_getElem?_getD,List.getElem?_eq_getElem kl,hx] at q2
    exact q2
  ·rw[decide_eq_false c0,Bool.false_and] at q1
   exact q1
 | @par b l bb ys ps hb hl _ lz2 hs=>
  have hT:SqT K H b [.str "parted",.int bb,.ref l]:=SqT.of hb
  simp only [Pap.dep] at dp
  have hlen:=hs.len
  walk_at "wpd"
  refine⟨_,_,_,.str "parted",rfl,rfl,hT,rfl,rfl,_,rfl,fun c=>absurd (of_decide_eq_true c) (by decide +kernel),fun _=>?_⟩
  refine⟨_,_,_,.int bb,rfl,rfl,hT,rfl,?_⟩
  walk_at "wpd"
  refine⟨fun c1=>?_,fun c1=>?_⟩
  ·have q1:=q H (Same.refl H)
   unfold z0Y at q1
   rw[decide_eq_false (show ¬2<=bb by omega),Bool.false_and] at q1
   exact q1
  ·refine⟨_,_,_,.ref l,rfl,rfl,hT,rfl,?_⟩
   refine⟨_,_,rfl,.inl (SqL.of hl),?_⟩
   refine⟨_,_,_,.int bb,rfl,rfl,hT,rfl,?_⟩
   walk_at "wpd"
   refine⟨fun c2=>?_,fun c2=>?_⟩
   ·have q1:=q H (Same.refl H)
    unfold z0Y at q1
    rw[decide_eq_true (show 2<=bb by omega),decide_eq_false (show ¬(ps.length:Int)=bb by rw[←hlen];exact c2)] at q1
    simpa using q1
   ·have c2':(ys.length:Int)=bb:=by omega
    refine⟨_,_,_,.int bb,rfl,rfl,hT,rfl,?_⟩
    refine⟨_,rfl,by omega,by omega,?_⟩
    obtain⟨W,hW⟩:∃W:Nat->St->Hp->Prop,W=fun i σ H'=>∃o1 o2:Option V,σ=[some (.ref a),some (.int wh),some (.int st),some (.int r),some (.ref b),o1,o2]/\Same H H'/\z0h ss st r bb 0 (ps.take i)=true:=⟨_,rfl⟩
    refine z1r W ?_ (fun i σ H' hi z=>?_) (fun σ H' z=>?_)
    ·rw[hW]
     exact⟨none,none,rfl,Same.refl _,by simp [z0h]⟩
    ·rw[hW] at z
     refine L2.put_away fun G'4618 h'4618=>?_
     obtain⟨o1,o2,rfl,g,hr2⟩:=z
     refine h'4618 ?_
     have hi2:i<ys.length:=by omega
     refine L2.put_away fun G'4620 h'4620=>?_
     obtain⟨p,e1,hp⟩:=hs.at (List.getElem?_eq_getElem hi2)
     refine h'4620 ?_
     have e0:(0:Int)+(i:Int)=i:=by omega
     walk_at "wpd"
     rw[e0]
     refine⟨_,_,_,.int bb,rfl,rfl,Same.seqT g hT,rfl,?_⟩
     walk_at "wpd"
     have sp:1<=st*bb:=by
      have:=Int.mul_le_mul s1 (show 1<=bb by omega) (by decide) (by omega)
      omega
     refine⟨mokS (by omega) (by omega),mokS (by omega) (by omega),?_⟩
     refine⟨_,_,_,.ref l,rfl,rfl,Same.seqT g hT,rfl,?_⟩
     refine z0W (SqL.of (g _ _ hl)) (v:=ys[i]) (z0X (List.getElem?_eq_getElem hi2)) ?_
     refine⟨a,_,zs,ss,wh,st*bb,r+st*i,p,rfl,g _ _ ha,tb.same g,hw,hd,w0,w1,sp,hp.mono g,?_,fun H3 g3=>?_⟩
     ·have:=Pap.dep_mem (List.mem_of_getElem? e1)
      omega
     have gg:=g.trans g3
     cases c:z0Y ss (st*bb) (r+st*i) p with
     | true=>
      walk_at "wpd"
      rw[hW]
      refine⟨_,_,rfl,gg,?_⟩
      rw[z2E e1,hr2,Nat.zero_add,c]
      rfl
     | false=>
      walk_at "wpd"
      have q1:=q H3 gg
      unfold z0Y at q1
      rw[z2f e1 (by rw[Nat.zero_add];exact c),Bool.and_false,Bool.and_false] at q1
      exact q1
    ·rw[hW] at z
     refine L2.put_away fun G'4650 h'4650=>?_
     obtain⟨o1,o2,rfl,g,hr2⟩:=z
     refine h'4650 ?_
     have et:bb.toNat=ps.length:=by omega
     rw[et,List.take_length] at hr2
     walk_at "wpd"
     have q1:=q H' g
     unfold z0Y at q1
     rw[decide_eq_true (show 2<=bb by omega),decide_eq_true (show (ps.length:Int)=bb by omega),hr2] at q1
     exact q1
noncomputable def y1G (K:PySem.W.Frag) (d:Nat):Sp:=fun vs H Q _=>∃(a b:Addr) (v:V) (xs ys:List V) (ws us:List T3) (p:Pap) (ss:List T3) (s r:Int),vs=[.ref a,.ref b,v]/\SqL K H a xs/\Pl H xs ws/\SqL K H b ys/\Pl H ys us/\(∀u∈ws,1<=u.1/\u.1<=30)/\(∀u∈us,1<=u.1/\u.1<=30)/\us.length<=100/\ss.length=ws.length*us.length/\PapIn K anyL H v p/\p.kn<=1000/\p.dep<d/\z0Y ss s r p=true/\∀M H',Same H H'->IsMx (prd ws us) p.nm M->Q (.int M) H'
theorem y2S (T:TF K mg "_law_wait" z4N) (m_len:mg "len" = none) (m_max:mg "max" = none) (G_law_divisor:Has P w K mg base 1 "_law_divisor" ["one", "other"] z1V) :
  ∀d:Nat,Has P w K mg base (d+2) "_law_wait" ["one", "other", "paper"] (y1G K d):=by
 intro d
 induction d with
 | zero=>
  refine T.has z2S (fun _ _ _ _ _ _=>L2.bnd3 fun _ _ _=>rfl) (fun vs H Q E h=>?_) (fun f cdv A outer s H vs Q E hr h=>?_)
  ·refine L2.put_away fun G'4665 h'4665=>?_
   obtain⟨_,_,_,_,_,_,_,_,_,_,_,_,_,_,_,_,_,_,_,_,_,_,h,_⟩:=h
   refine h'4665 ?_
   exact absurd h (Nat.not_lt_zero _)
  ·refine L2.put_away fun G'4667 h'4667=>?_
   obtain⟨_,_,_,_,_,_,_,_,_,_,_,_,_,_,_,_,_,_,_,_,_,_,h,_⟩:=h
   refine h'4667 ?_
   exact absurd h (Nat.not_lt_zero _)
 | succ d ih=>
 have G_law_wait:=ih
 refine T.has z2S (fun _ _ _ _ _ _=>L2.bnd3 fun _ _ _=>rfl) (fun vs H Q E h=>?_) (fun f cdv A outer s H vs Q E hr h=>?_)
 ·refine L2.put_away fun G'4672 h'4672=>?_
  obtain⟨a,b,v,xs,ys,ws,us,p,ss,s,r,rfl,_⟩:=h
  refine h'4672 ?_
  rfl
 refine L2.put_away fun G'4674 h'4674=>?_
 obtain⟨a,b,v,xs,ys,ws,us,p,ss,st,r,rfl,hS,hP,hS2,hP2,hw,hu,lu,ls,hv,kp,dp,hr2,q⟩:=h
 refine h'4674 ?_
 refine⟨_,(z0B (ps_if (z0L op_eq (pe_ix z0R (pv 2) z0E (fun _ _=>rfl)) z0N (z0T _)) (z0B (z0P (i:=3) z2S.nd rfl (Or.inl rfl) (pe_ix z0R (pe_ix z0b (pv 0) (pe_op z0l (pe_ix z0R (pv 2) z0E (fun _ _=>rfl)) (z0M z0Q rfl m_len PySem.boot_len (z0A (pv 1) z0C))) (fun _ _=>rfl)) z0E (fun _ _=>rfl))) (z0B (z0P (i:=4) z2S.nd rfl (Or.inl rfl) (pe_ix z0R (pe_ix z0b (pv 1) (pe_op z0f (pe_ix z0R (pv 2) z0E (fun _ _=>rfl)) (z0M z0Q rfl m_len PySem.boot_len (z0A (pv 1) z0C))) (fun _ _=>rfl)) z0E (fun _ _=>rfl))) (z0D (z0I (pe_op z1l (pe_op z0l (pv 3) (z0J (G_law_divisor.mono (by first|decide|omega)) hr (z0A (pv 3) (z0A (pv 4) z0C)))) (pv 4)))))) z0K) (z0D (z0I (z0M (z6B rfl) rfl m_max (by decide +kernel) (z0A (z1F (CompSc.capt (own:=["part"]) (capt:=["other", "one"]) (fr:=[1,0]) rfl ⟨rfl,rfl,rfl,rfl,rfl,⟨rfl,rfl,rfl,rfl,rfl,trivial⟩⟩ (by decide +kernel) (by decide +kernel) rfl (by decide +kernel)) rfl (z0q (pe_ix z0R (pv 2) z0E (fun _ _=>rfl))) (fun _ _ _=>(z0S (i:=0) (show (["part", "other", "one"]:List Str).Nodup from by decide +kernel) rfl (Or.inl rfl) (Or.inr rfl))) (fun _ _ _=>z0v) (fun _ _ _=>(z0J (G_law_wait.mono (by first|decide|omega)) hr (z0A (pv 2) (z0A (pv 1) (z0A (pv 0) z0C)))))) z0C))))),?_⟩
 cases hv with
 | @inn b0 k hb=>
  have hT:SqT K H b0 [.str "in",.int k]:=SqT.of hb
  have rn:=z5W hr2
  rw[ls] at rn
  have kb:=rn.1 k (by simp [Pap.nm])
  rw[Int.natCast_mul] at kb
  have ul:0<us.length:=by
   rcases Nat.eq_zero_or_pos us.length with z|z
   ·rw[z] at kb
    simp at kb
    omega
   ·exact z
  have ly:=hP2.1
  walk_at "wpd"
  refine⟨_,_,_,.str "in",rfl,rfl,hT,rfl,rfl,_,rfl,fun _=>?_,fun c=>absurd (decide_eq_true rfl) c⟩
  refine⟨_,_,_,.int k,rfl,rfl,hT,rfl,?_⟩
  refine⟨b,_,rfl,.inl hS2,?_⟩
  rw[ly]
  have q0:0<=k/(us.length:Int):=Int.ediv_nonneg kb.1 (by omega)
  have q1:k/(us.length:Int)<ws.length:=Int.ediv_lt_of_lt_mul (by omega) kb.2
  have r0:=Int.emod_nonneg k (show (us.length:Int)≠0 by omega)
  have r1:=Int.emod_lt_of_pos k (show (0:Int)<us.length by omega)
  refine L2.put_away fun G'4699 h'4699=>?_
  obtain⟨p1,t1,e1,f1,m1,z1⟩:=hP.ix q0 q1
  refine h'4699 ?_
  refine L2.put_away fun G'4700 h'4700=>?_
  obtain⟨p2,t2,e2,f2,m2,z2⟩:=hP2.ix r0 r1
  refine h'4700 ?_
  refine⟨_,_,rfl,rfl,divA 20 (by omega) (by omega) (by decide),z0W hS e1 ⟨p1,_,_,_,rfl,rfl,SqT.of z1,z0X (j:=0) rfl,?_⟩⟩
  refine⟨_,_,_,.int k,rfl,rfl,hT,rfl,b,_,rfl,.inl hS2,?_⟩
  rw[ly]
  refine⟨_,_,rfl,rfl,by show (0:Int)<_;omega,z0W hS2 e2 ⟨p2,_,_,_,rfl,rfl,SqT.of z2,z0X (j:=0) rfl,?_⟩⟩
  have b1:=hw t1 m1
  have b2:=hu t2 m2
  have gp:=z0m (a:=t1.1) (b:=t2.1) (by omega)
  have gl:gcdI t1.1 t2.1<=t1.1:=z0n _ (by omega)
  have dl:t1.1/gcdI t1.1 t2.1<=t1.1:=Int.ediv_le_self _ (by omega)
  have d0:0<=t1.1/gcdI t1.1 t2.1:=Int.ediv_nonneg (by omega) (by omega)
  refine⟨_,_,rfl,by omega,by omega,?_⟩
  refine⟨_,_,rfl,rfl,divA 20 gp (by omega) (by decide),_,_,rfl,rfl,mokS (by omega) (by omega),?_⟩
  refine q _ H (Same.refl H) ?_
  have ep:t1.1/gcdI t1.1 t2.1*t2.1=prd ws us k:=by
   rw[y8D b1.1 b2.1]
   unfold prd
   rw[List.getD_eq_getElem?_getD,f1,List.getD_eq_getElem?_getD,f2]
   rfl
  rw[ep]
  exact⟨⟨k,by simp [Pap.nm],rfl⟩,fun j hj=>by
   simp only [Pap.nm,List.mem_cons,List.not_mem_nil,or_false] at hj
   rw[hj]
   exact Int.le_refl _⟩
 | @par b0 l bb zs ps hb hl _ lz2 hs=>
  have hT:SqT K H b0 [.str "parted",.int bb,.ref l]:=SqT.of hb
  simp only [Pap.dep] at dp
  simp only [z0Y,Bool.and_eq_true,decide_eq_true_eq] at hr2
  have hlen:=hs.len
  have kl:=Pap.kns_len ps
  simp only [Pap.kn] at kp
  walk_at "wpd"
  refine⟨_,_,_,.str "parted",rfl,rfl,hT,rfl,rfl,_,rfl,fun c=>absurd (of_decide_eq_true c) (by decide +kernel),fun _=>?_⟩
  refine⟨_,_,_,.ref l,rfl,rfl,hT,rfl,?_⟩
  refine⟨l,rfl,⟨_,SqL.of hl⟩,?_⟩
  obtain⟨Sv,hSv⟩:∃Sv:St->Prop,Sv=fun σ=>∃o1,σ=[o1,some (.ref b),some (.ref a)]:=⟨_,rfl⟩
  obtain⟨Pv,hPv⟩:∃Pv:Addr->Nat->List V->Hp->Prop,Pv=fun D2 i ws2 H4=>H D2=none/\Same H H4/\∃Ms:List Int,ws2=Ms.map V.int/\Ms.length=i/\∀(j:Nat) (m:Int) (p:Pap),Ms[j]?=some m->ps[j]?=some p->IsMx (prd ws us) p.nm m:=⟨_,rfl⟩
  refine z0z (xs:=zs) Sv Pv (by rw[hSv];exact⟨none,rfl⟩) (fun D2 hD2=>?_) (fun D2 i ys2 H4 hD2 h=>?_) (fun D2 i x ys2 σ H4 hx hi hs2 hD2 hy h=>?_) (fun D2 ys2 H4 hD2 h=>?_)
  ·rw[hPv]
   exact⟨hD2,z0H hD2 _,[],rfl,rfl,fun j m p e=>by simp at e⟩
  ·rw[hPv] at h
   exact SqL.of (h.2.1 _ _ hl)
  ·rw[hSv] at hs2
   rw[hPv] at h
   obtain⟨o1,rfl⟩:=hs2
   refine L2.put_away fun G'4745 h'4745=>?_
   obtain⟨nD2,g,Ms,rfl,lM,hM⟩:=h
   refine h'4745 ?_
   refine L2.put_away fun G'4746 h'4746=>?_
   obtain⟨p,e1,hp⟩:=hs.at hx
   refine h'4746 ?_
   have mp:=List.mem_of_getElem? e1
   have k1:=Pap.kn_mem mp
   have k2:=Pap.dep_mem mp
   walk_at "wpd"
   refine⟨a,b,x,xs,ys,ws,us,p,ss,_,_,rfl,g.seq hS,hP.same g,g.seq hS2,hP2.same g,hw,hu,lu,ls,hp.mono g,by omega,by omega,z5V hr2.2.2 e1,fun M H5 g5 hM5=>?_⟩
   refine CompP.mk (g5 _ _ hD2) hy (by rw[sizeLine_eq];omega) (by rw[hSv];exact⟨_,rfl⟩) (by
    rw[hPv]
    refine⟨nD2,(g.trans g5).write nD2 _,Ms++[M],by simp,by simp [lM],fun j m p' e f=>?_⟩
    by_cases c:j<Ms.length
    ·rw[List.getElem?_append_left c] at e
     exact hM j m p' e f
    ·rw[List.getElem?_append_right (by omega)] at e
     have ej:j-Ms.length=0:=by
      cases z:j-Ms.length with
      | zero=>rfl
      | succ n=>rw[z] at e;simp at e
     rw[ej] at e
     cases e
     have:j=i:=by omega
     rw[this,e1] at f
     cases f
     exact hM5)
  ·rw[hPv] at h
   refine L2.put_away fun G'4770 h'4770=>?_
   obtain⟨nD2,g,Ms,rfl,lM,hM⟩:=h
   refine h'4770 ?_
   refine⟨D2,Ms,rfl,SqL.of hD2,fun e=>?_,fun M h1 h2=>q M H4 g ?_⟩
   ·rw[e] at lM
    simp at lM
    omega
   ·exact y5s (by omega) hM h1 h2
noncomputable def z8g (K:PySem.W.Frag):Sp:=fun vs H Q _=>∃(a:Addr) (zs:List V) (ss:List T3) (wh s r c:Int),vs=[.ref a,.int wh,.int s,.int r,.int c]/\H a=some (.lst zs)/\TbAt (fun _=>True) H zs (ss.map (tbl wh))/\ss.length<=100/\1<=wh/\wh<=30/\1<=s/\∀k H',Same H H'->0<=k->k<=100->Q (.int k) H'
theorem y0j (T:TF K mg "_law_named" z3e) (m_len:mg "len" = none) (m_range:mg "range" = none) (m_all:mg "all" = none) (G_law_divisor:Has P w K mg base 1 "_law_divisor" ["one", "other"] z1V):Has P w K mg base 2 "_law_named" ["tables", "whole", "step", "rest", "cell"] (z8g K):=by
 refine T.has z2p (fun _ _ _ _ _ _=>L2.bnd5 fun _ _ _ _ _=>rfl) (fun vs H Q E h=>?_) (fun f cdv A outer s H vs Q E hr h=>?_)
 ·refine L2.put_away fun G'4780 h'4780=>?_
  obtain⟨a,zs,ss,wh,s,r,c,rfl,_⟩:=h
  refine h'4780 ?_
  rfl
 refine L2.put_away fun G'4782 h'4782=>?_
 obtain⟨a,zs,ss,wh,st,r,c,rfl,ha,tb,ls,w0,w1,s1,q⟩:=h
 refine h'4782 ?_
 refine⟨_,(z0B (z0P (i:=5) z2p.nd rfl (Or.inl rfl) (z0J (G_law_divisor.mono (by first|decide|omega)) hr (z0A (pv 2) (z0A (pv 1) z0C)))) (z0B (z1S PassesOwn.never rfl (z1f rfl m_range (z0A (z0M z0Q rfl m_len PySem.boot_len (z0A (pv 0) z0C)) z0C)) (z0S (i:=6) z2p.nd rfl (Or.inr rfl)) (z0D (ps_if (z1C (z0M (z4G rfl) rfl m_all (by decide +kernel) (z0A (z1F (CompSc.capt (own:=["shift"]) (capt:=["tables", "k"]) (fr:=[0,6]) rfl ⟨rfl,rfl,rfl,rfl,rfl,⟨rfl,rfl,rfl,rfl,rfl,trivial⟩⟩ (by decide +kernel) (by decide +kernel) rfl (by decide +kernel)) rfl (z8z rfl m_range (z0A (pe_op z0f (pv 3) (pv 5)) (z0A (pv 1) (z0A (pv 5) z0C)))) (fun _ _ _=>(z0S (i:=0) (show (["shift", "tables", "k"]:List Str).Nodup from by decide +kernel) rfl (Or.inl rfl) (Or.inr rfl))) (fun _ _ _=>z0v) (fun _ _ _=>(pe_ix (z4B (K:=K) rfl) (pe_ix (z4B (K:=K) rfl) (pv 1) (pv 2) (fun _ _=>rfl)) (pv 0) (fun _ _=>rfl)))) z0C)) (fun _=>rfl)) (z0D (z0I (pv 6))) z0K))) (z0D (z0I (pe_op z0f (pv 4) z0E))))),?_⟩
 have lz:=tb.1
 rw[List.length_map] at lz
 have gp:=z0m (a:=st) (b:=wh) (by omega)
 have gl:gcdI st wh<=wh:=by rw[z4D];exact z0n _ (by omega)
 have rm:=modB3 r (show 1<=gcdI st wh by omega)
 walk_at "wpd"
 refine⟨st,wh,rfl,by omega,by omega,a,zs,rfl,.inl (SqL.of ha),_,rfl,by omega,by omega,?_⟩
 obtain⟨W,hW⟩:∃W:Nat->St->Hp->Prop,W=fun i σ H'=>∃o1 o2:Option V,σ=[some (.ref a),some (.int wh),some (.int st),some (.int r),some (.int c),some (.int (gcdI st wh)),o1]/\Same H H':=⟨_,rfl⟩
 refine z1r W ?_ (fun i σ H' hi z=>?_) (fun σ H' z=>?_)
 ·rw[hW]
  exact⟨none,none,rfl,Same.refl _⟩
 ·rw[hW] at z
  refine L2.put_away fun G'4796 h'4796=>?_
  obtain⟨o1,o2,rfl,g⟩:=z
  refine h'4796 ?_
  have il:i<ss.length:=by omega
  obtain⟨p,e1,_,hp⟩:=tb.2 i (tbl wh ss[i]) (by rw[List.getElem?_map,List.getElem?_eq_getElem il];rfl)
  generalize ss[i]=x at hp
  have e0:(0:Int)+(i:Int)=i:=by omega
  walk_at "wpd"
  rw[e0]
  refine⟨gp,?_⟩
  refine⟨_,_,_,(Builtin.Range.rangeSize (r%gcdI st wh) wh (gcdI st wh)).toNat,rfl,gp,by omega,rsN gp,?_⟩
  refine y4j (rest:=[some (.ref a),some (.int (i:Int))]) (fun j=>.bl (awk x (r%gcdI st wh+j*gcdI st wh))) rfl (y1U gp rm.1 w1) (fun j H2 R hj g2 hR=>?_) fun D H2 g2 nD hD=>?_
  ·have jl:=rsLt gp hj
   have j0:0<=(j:Int)*gcdI st wh:=Int.mul_nonneg (by omega) (by omega)
   have G:=g.trans g2
   walk_at "wpd"
   exact z0W (SqL.of (G _ _ ha)) (z0X e1) (z0W (SqL.of (G _ _ hp)) (y4v (by omega) (y6J (by omega) (by omega))) (hR H2 (Same.refl H2)))
  ·have el:(List.range (Builtin.Range.rangeSize (r%gcdI st wh) wh (gcdI st wh)).toNat).map (fun j:Nat=>V.bl (awk x (r%gcdI st wh+j*gcdI st wh)))=((List.range (Builtin.Range.rangeSize (r%gcdI st wh) wh (gcdI st wh)).toNat).map fun j:Nat=>awk x (r%gcdI st wh+j*gcdI st wh)).map V.bl:=by rw[List.map_map];rfl
   rw[el] at hD
   have G:=g.trans g2
   refine⟨D,_,rfl,SqL.of hD,fun _=>q _ H2 G (by omega) (by omega),fun _=>?_⟩
   rw[hW]
   exact⟨_,none,rfl,G⟩
 ·rw[hW] at z
  refine L2.put_away fun G'4818 h'4818=>?_
  obtain⟨o1,o2,rfl,g⟩:=z
  refine h'4818 ?_
  walk_at "wpd"
  have c11:=modB c (show (0:Int)<11 by decide)
  exact⟨by decide,q _ H' g c11.1 (by omega)⟩
inductive Ful:Pap->Prop
 | inn (k:Int):Ful (.inn k)
 | par {b:Int} {ps:List Pap}:ps≠[]->(∀p∈ps,Ful p)->Ful (.par b ps)
theorem y0L:∀ {ps:List Pap},(∀p∈ps,POk p)->POks ps
 | [],_=>fun n hn=>by simp [numss] at hn
 | p::ps,h=>fun n hn=>by
  simp only [numss,List.mem_append] at hn
  rcases hn with hn|hn
  ·exact h p (by simp) n hn
  ·exact y0L (fun q hq=>h q (by simp [hq])) n hn
noncomputable def y1K (K:PySem.W.Frag) (d:Nat):Sp:=fun vs H Q _=>∃(a c:Addr) (zs:List V) (ss:List T3) (wh s r:Int) (cs:List Int),vs=[.ref a,.int wh,.int s,.int r,.ref c]/\H a=some (.lst zs)/\TbAt (fun _=>True) H zs (ss.map (tbl wh))/\ss.length<=100/\1<=wh/\wh<=30/\1<=s/\s<=wh/\wh<s*2^d/\H c=some (.lst (cs.map V.int))/\cs≠[]/\cs.length+d<=100/\
 ∀v p H',Same H H'->PapIn K (fun l=>H l=none) H' v p->p.dep<=d->POk p->Ful p->((p.kn:Int)+1)*s<=2*wh->Q v H'
theorem y0l (T:TF K mg "_law_grown" z3g) (m_len:mg "len" = none) (m_range:mg "range" = none) (G_law_named:Has P w K mg base 2 "_law_named" ["tables", "whole", "step", "rest", "cell"] (z8g K)) :
  ∀d:Nat,Has P w K mg base (d+3) "_law_grown" ["tables", "whole", "step", "rest", "cells"] (y1K K d):=by
 intro d
 induction d with
 | zero=>
  refine T.has z0r (fun _ _ _ _ _ _=>L2.bnd5 fun _ _ _ _ _=>rfl) (fun vs H Q E h=>?_) (fun f cdv A outer s H vs Q E hr h=>?_)
  ·refine L2.put_away fun G'4857 h'4857=>?_
   obtain⟨_,_,_,_,_,_,_,_,_,_,_,_,_,_,_,h1,h2,_⟩:=h
   refine h'4857 ?_
   omega
  ·refine L2.put_away fun G'4859 h'4859=>?_
   obtain⟨_,_,_,_,_,_,_,_,_,_,_,_,_,_,_,h1,h2,_⟩:=h
   refine h'4859 ?_
   omega
 | succ d ih=>
 have G_law_grown:=ih
 refine T.has z0r (fun _ _ _ _ _ _=>L2.bnd5 fun _ _ _ _ _=>rfl) (fun vs H Q E h=>?_) (fun f cdv A outer s H vs Q E hr h=>?_)
 ·refine L2.put_away fun G'4864 h'4864=>?_
  obtain⟨a,c,zs,ss,wh,s,r,cs,rfl,_⟩:=h
  refine h'4864 ?_
  rfl
 refine L2.put_away fun G'4866 h'4866=>?_
 obtain⟨a,c,zs,ss,wh,st,r,cs,rfl,ha,tb,ls,w0,w1,s1,s2,sd,hc,cne,cl,q⟩:=h
 refine h'4866 ?_
 refine⟨_,(z0B (z0P (i:=5) z0r.nd rfl (Or.inl rfl) (pe_op z0f (pe_ix z0b (pv 4) z0E (fun _ _=>rfl)) (pe_op y6T z0E z0E))) (z0B (z0P (i:=6) z0r.nd rfl (Or.inl rfl) (pe_op z1M z0E (pe_op z0f (pv 5) z0E))) (z0B (ps_if (PW.pt (pw_or (z0L op_gt (pe_op z1l (pv 2) (pv 6)) (pv 1) (z0T _)) (pw_or (z0L op_eq (pe_op z0f (pe_op z0l (pv 5) z0E) z0E) z0E (z0T _)) (z6g (z0L op_lt (z0M z0Q rfl m_len PySem.boot_len (z0A (pv 4) z0C)) z0E (z0T _)))))) (z0B (ps_if (z0L op_eq (pe_op z0f (pe_op z0l (pv 5) z0E) z0E) z0E (z0T _)) (z0D (z0I (z1y (z0A z0N (z0A (pe_op z0f (pe_op z0l (pv 5) z0E) z0E) z0C))))) z0K) (z0D (z0I (z1y (z0A z0N (z0A (z0J (G_law_named.mono (by first|decide|omega)) hr (z0A (pv 0) (z0A (pv 1) (z0A (pv 2) (z0A (pv 3) (z0A (pe_op z0l (pv 5) z0E) z0C)))))) z0C)))))) z0K) (z0B (z0P (i:=7) z0r.nd rfl (Or.inl rfl) (pe_op z0l (pe_op z2k (z0M z0Q rfl m_len PySem.boot_len (z0A (pv 4) z0C)) z0E) (pv 6))) (z0B (z0P (i:=8) z0r.nd rfl (Or.inl rfl) (z1T z0C)) (z0B (z1S PassesOwn.never rfl (z1f rfl m_range (z0A (pv 6) z0C)) (z0S (i:=9) z0r.nd rfl (Or.inl rfl)) (z0B (z0P (i:=10) z0r.nd rfl (Or.inl rfl) (z2G z9z (pv 4) (z1x (pe_op z1M z0E (pe_op z1l (pv 9) (pv 7)))) (z1x (pe_op z1M z0E (pe_op z1l (pe_op z1M (pv 9) z0E) (pv 7)))))) (z0D (z1k (pe_bm PySem.F.plainAttrs_list PySem.F.slot_list_append PySem.F.type_list_append z1g (pv 8) (z0A (z0J (G_law_grown.mono (by first|decide|omega)) hr (z0A (pv 0) (z0A (pv 1) (z0A (pe_op z1l (pv 2) (pv 6)) (z0A (pe_op z1M (pv 3) (pe_op z1l (pv 2) (pv 9))) (z0A (pe_op y6V (pv 10) (z1T (z0A (pe_op z0l (pv 5) (pe_op z1M (pv 9) z0E)) z0C))) z0C)))))) z0C)))))) (z0D (z0I (z1y (z0A z0N (z0A (pv 6) (z0A (pv 8) z0C)))))))))))),?_⟩
 walk_at "wpd"
 refine L2.put_away fun G'4869 h'4869=>?_
 obtain⟨c0,cr,ec⟩:=List.exists_cons_of_ne_nil cne
 refine h'4869 ?_
 refine z0W (SqL.of hc) (v:=.int c0) (by rw[ec];exact z0X (j:=0) rfl) ⟨⟨by decide,by decide,by decide⟩,_,_,rfl,rfl,by show (0:Int)<10^Int.toNat 40;decide,?_⟩
 walk_at "wpd"
 generalize c0%10^Int.toNat 40=cell
 have b2:=modB cell (show (0:Int)<2 by decide)
 have c11:=modB (cell/128) (show (0:Int)<11 by decide)
 have e100:(100:Int)<10^100:=by decide +kernel
 have leaf:∀(H1:Hp),Same H H1->∀k:Int,0<=k->k<=100->∀p,H1 p=none->Q (.ref p) (upd H1 p (.tup [.str "in",.int k])):=fun H1 g1 k k0 k1 p np=>q (.ref p) (.inn k) _ (g1.trans (z0H np _)) (.inn z0F) (Nat.zero_le _) (fun n hn=>by
  simp only [nums,List.mem_cons,List.not_mem_nil,or_false] at hn
  rw[hn]
  exact dgOk k0 (by omega)) (.inn k) (by show ((1:Int)+1)*st<=2*wh;omega)
 have or2:∀ {c1 c2 B R D2 D3:Prop},B->D2->D3->(¬c1->¬c2->B->R)->(c1->B)/\(¬c1->D2/\D3/\(c2->B)/\(¬c2->R)):=fun b a2 a3 r=>⟨fun _=>b,fun n1=>⟨a2,a3,fun _=>b,fun n2=>r n1 n2 b⟩⟩
 refine⟨by decide,mokS (by omega) (by omega),or2 ⟨divA 10 (by decide) (by decide) (by decide),by decide,fun _=>⟨divA 10 (by decide) (by decide) (by decide),by decide,fun p np=>leaf H (Same.refl H) _ c11.1 (by omega) p np⟩,fun _=>⟨divA 10 (by decide) (by decide) (by decide),a,zs,ss,wh,st,r,_,rfl,ha,tb,ls,w0,w1,s1,fun k H1 g1 k0 k1 p np=>leaf H1 g1 k k0 k1 p np⟩⟩ (divA 10 (by decide) (by decide) (by decide)) (by decide) fun n1 n2 br=>⟨c,_,rfl,.inl (SqL.of hc),fun _=>br,fun n3=>⟨c,_,rfl,.inl (SqL.of hc),divA 10 (by omega) (by omega) (by decide),fun D nD=>⟨_,rfl,by omega,by omega,?_⟩⟩⟩⟩
 clear br
 generalize hby:2+cell%2=by_ at n1 ⊢
 have by2:2<=by_/\by_<=3:=by omega
 rw[List.length_map] at n3 ⊢
 have gD:=z0H nD (.lst [])
 have hD:=z0F (H:=H) (a:=D) (o:=.lst [])
 generalize upd H D (.lst [])=H1 at gD hD ⊢
 have sz0:0<=((cs.length:Int)-1)/by_:=Int.ediv_nonneg (by omega) (by omega)
 have sz1:((cs.length:Int)-1)/by_<=(cs.length:Int)-1:=Int.ediv_le_self _ (by omega)
 generalize ((cs.length:Int)-1)/by_=sz at sz0 sz1 ⊢
 have sb1:1<=st*by_:=by
  have:=Int.mul_le_mul s1 (show 1<=by_ by omega) (by decide) (by omega)
  omega
 have sbd:wh<st*by_*2^d:=by
  have e:st*2^(d+1)=st*2*2^d:=by rw[Int.pow_succ,Int.mul_comm (2^d) 2,Int.mul_assoc]
  have h1:=Int.mul_le_mul_of_nonneg_left by2.1 (show 0<=st by omega)
  have h2:=Int.mul_le_mul_of_nonneg_right h1 (show 0<=(2:Int)^d from Int.le_of_lt (Int.pow_pos (by decide)))
  rw[e] at sd
  omega
 obtain⟨W,hW⟩:∃W:Nat->St->Hp->Prop,W=fun i σ H3=>∃(o1 o2:Option V) (ys:List V) (ps:List Pap),σ=[some (.ref a),some (.int wh),some (.int st),some (.int r),some (.ref c),some (.int cell),some (.int by_),some (.int sz),some (.ref D),o1,o2]/\Same H H3/\H3 D=some (.lst ys)/\PapsIn K (fun l=>H l=none/\l≠D) H3 ys ps/\ps.length=i/\(∀p∈ps,p.dep<=d)/\(∀p∈ps,POk p)/\(∀p∈ps,Ful p)/\((Pap.kns ps:Int)+ps.length)*(st*by_)<=2*wh*ps.length:=⟨_,rfl⟩
 refine z1r W ?_ (fun i σ H3 hi z=>?_) (fun σ H3 z=>?_)
 ·rw[hW]
  exact⟨none,none,[],[],rfl,gD,hD,.nil,rfl,(fun p hp=>nomatch hp),(fun p hp=>nomatch hp),(fun p hp=>nomatch hp),by simp [Pap.kns]⟩
 ·rw[hW] at z
  refine L2.put_away fun G'4906 h'4906=>?_
  obtain⟨o1,o2,ys,ps,rfl,g,hD3,hps,pl,pd,pok,pf,knb⟩:=z
  refine h'4906 ?_
  have e0:(0:Int)+(i:Int)=i:=by omega
  rw[e0]
  walk_at "wpd"
  have i2:(i:Int)<=2:=by omega
  refine⟨mokS (by omega) (by omega),mokS (by omega) (by omega),c,_,rfl,SqL.of (g _ _ hc),fun p np=>?_⟩
  rw[y1r]
  have lc:∀lo hi:Option Int,(cutI cs lo hi).length<=cs.length:=fun lo hi=>by unfold cutI;simp;omega
  have lc:=lc (some (1+(i:Int)*sz)) (some (1+((i:Int)+1)*sz))
  generalize cutI cs (some (1+(i:Int)*sz)) (some (1+((i:Int)+1)*sz))=own at lc ⊢
  have gp:=z0H np (.lst (own.map V.int))
  have hp:=z0F (H:=H3) (a:=p) (o:=.lst (own.map V.int))
  generalize upd H3 p (.lst (own.map V.int))=H4 at gp hp ⊢
  refine⟨.inl ⟨rfl,_,SqL.of (gp _ _ hD3)⟩,mokS (by omega) (by omega),mokS (by omega) (by omega),divA 20 (by omega) (by omega) (by decide),fun p2 np2=>?_⟩
  have g2:=z0H np2 (.lst [V.int (cell/((i:Int)+7))])
  have hp2:=z0F (H:=H4) (a:=p2) (o:=.lst [V.int (cell/((i:Int)+7))])
  generalize upd H4 p2 (.lst [V.int (cell/((i:Int)+7))])=H5 at g2 hp2 ⊢
  refine⟨p,p2,_,_,rfl,rfl,g2 _ _ hp,hp2,by rw[sizeLine_eq,List.length_map];show _+1<=_;omega,fun p3 np3=>?_⟩
  have g3:=z0H np3 (.lst (own.map V.int++[V.int (cell/((i:Int)+7))]))
  have hp3:=z0F (H:=H5) (a:=p3) (o:=.lst (own.map V.int++[V.int (cell/((i:Int)+7))]))
  generalize upd H5 p3 (.lst (own.map V.int++[V.int (cell/((i:Int)+7))]))=H6 at g3 hp3 ⊢
  have G:=(gp.trans g2).trans g3
  have GH:=g.trans G
  refine⟨a,p3,zs,ss,wh,st*by_,r+st*(i:Int),own++[cell/((i:Int)+7)],rfl,GH _ _ ha,tb.same GH,ls,w0,w1,sb1,by omega,sbd,by rw[hp3,List.map_append];rfl,by simp,by simp;omega,fun v p1 H7 g7 hp1 d1 ok1 f1 kn1=>?_⟩
  have hD6:=G _ _ hD3
  have hD7:=g7 _ _ hD6
  have lys:=hps.len
  refine⟨D,_,_,rfl,rfl,hD7,by rw[sizeLine_eq];omega,?_⟩
  rw[hW]
  refine⟨_,_,_,ps++[p1],rfl,(GH.trans g7).write nD _,z0F,?_,by simp [pl],fun p hp=>?_,fun p hp=>?_,fun p hp=>?_,?_⟩
  ·refine PapsIn.write hD7 (fun l h=>h.2) ((hps.mono (G.trans g7)).snoc (hp1.imp fun l hl=>⟨?_,fun e=>?_⟩))
   ·cases e:H l with
    | none=>rfl
    | some o=>
     rw[GH _ _ e] at hl
     cases hl
   ·rw[e,hD6] at hl
    cases hl
  ·rcases List.mem_append.mp hp with z|z
   ·exact pd p z
   ·rw[List.mem_singleton.mp z]
    exact d1
  ·rcases List.mem_append.mp hp with z|z
   ·exact pok p z
   ·rw[List.mem_singleton.mp z]
    exact ok1
  ·rcases List.mem_append.mp hp with z|z
   ·exact pf p z
   ·rw[List.mem_singleton.mp z]
    exact f1
  ·have ek:Pap.kns (ps++[p1])=Pap.kns ps+p1.kn:=z7b ps p1
   rw[ek,List.length_append]
   have e1:(((Pap.kns ps+p1.kn:Nat):Int)+((ps.length + [p1].length:Nat):Int))*(st*by_)=((Pap.kns ps:Int)+ps.length)*(st*by_)+((p1.kn:Int)+1)*(st*by_):=by
    rw[←Int.add_mul]
    congr 1
    simp
    omega
   have e2:2*wh*((ps.length + [p1].length:Nat):Int)=2*wh*ps.length+2*wh:=by
    rw[show ((ps.length + [p1].length:Nat):Int)=(ps.length:Int)+1 by simp,Int.mul_add,Int.mul_one]
   rw[e1,e2]
   omega
 ·rw[hW] at z
  refine L2.put_away fun G'4968 h'4968=>?_
  obtain⟨o1,o2,ys,ps,rfl,g,hD3,hps,pl,pd,pok,pf,knb⟩:=z
  refine h'4968 ?_
  walk_at "wpd"
  intro q1 nq
  have gq:=z0H nq (.tup [V.str "parted",.int by_,.ref D])
  have lys:=hps.len
  have lb:(ps.length:Int)=by_:=by omega
  have pne:ps≠[]:=fun e=>by rw[e] at lb;simp at lb;omega
  refine q (.ref q1) (.par by_ ps) _ (g.trans gq) (.par z0F (gq _ _ hD3) nD (by omega) ((hps.mono gq).imp fun l hl=>hl.1)) ?_ ?_ (.par pne pf) ?_
  ·have:=z8J pd
   show Pap.deps ps+1<=d+1
   omega
  ·intro n hn
   simp only [nums,List.mem_cons] at hn
   rcases hn with rfl|hn
   ·exact dgOk (by omega) (by omega)
   ·exact y0L pok n hn
  ·rw[lb] at knb
   have h1:(((Pap.kns ps:Int)+by_)*st)*by_<=(2*wh)*by_:=by rw[Int.mul_assoc];exact knb
   have h2:=Int.le_of_mul_le_mul_right h1 (show 0<by_ by omega)
   have h3:((((Pap.par by_ ps).kn:Nat):Int)+1)*st<=((Pap.kns ps:Int)+by_)*st:=Int.mul_le_mul_of_nonneg_right (by show ((Pap.kns ps+1:Nat):Int)+1<=_;omega) (by omega)
   omega
theorem y1Z {N:Addr->Prop} {H:Hp} {v:V} {p:Pap} (k:PapIn K N H v p):∀ {xs:List V} {ps:List Pap} {i:Nat},PapsIn K N H xs ps->PapsIn K N H (xs.set i v) (ps.set i p)
 | _,_,_,.nil=>.nil
 | _,_,0,.cons h hs=>.cons k hs
 | _,_,i+1,.cons h hs=>.cons h (y1Z k hs)
theorem y1q {p q:Pap} (e:p.dep=q.dep):∀ {ps:List Pap} {i:Nat},ps[i]?=some q->Pap.deps (ps.set i p)=Pap.deps ps
 | [],i,h=>by simp at h
 | _::ps,0,h=>by
  cases h
  simp only [List.set_cons_zero,Pap.deps]
  rw[e]
 | _::ps,i+1,h=>by
  simp only [List.set_cons_succ,Pap.deps]
  rw[y1q e (by simpa using h)]
theorem y3o {p q:Pap} (e:p.kn=q.kn):∀ {ps:List Pap} {i:Nat},ps[i]?=some q->Pap.kns (ps.set i p)=Pap.kns ps
 | [],i,h=>by simp at h
 | _::ps,0,h=>by
  cases h
  simp only [List.set_cons_zero,Pap.kns]
  rw[e]
 | _::ps,i+1,h=>by
  simp only [List.set_cons_succ,Pap.kns]
  rw[y3o e (by simpa using h)]
noncomputable def z6Y (K:PySem.W.Frag) (d:Nat):Sp:=fun vs H Q _=>∃(N:Addr->Prop) (v:V) (c:Int) (p:Pap),vs=[v,.int c]/\PapIn K N H v p/\p.dep<d/\POk p/\Ful p/\p.kn<=1000/\∀v' p' H',Same H H'->PapIn K (fun l=>N l∨H l=none) H' v' p'->p'.dep=p.dep->POk p'->p'.kn=p.kn->Q v' H'
theorem z7y (T:TF K mg "_law_changed" z2c) (m_len:mg "len" = none) (m_list:mg "list" = none) :
  ∀d:Nat,Has P w K mg base (d+1) "_law_changed" ["paper", "cell"] (z6Y K d):=by
 intro d
 induction d with
 | zero=>
  refine T.has z1a (fun _ _ _ _ _ _=>L2.bnd2 fun _ _=>rfl) (fun vs H Q E h=>?_) (fun f cdv A outer s H vs Q E hr h=>?_)
  ·refine L2.put_away fun G'5018 h'5018=>?_
   obtain⟨_,_,_,_,_,_,h1,_⟩:=h
   refine h'5018 ?_
   omega
  ·refine L2.put_away fun G'5020 h'5020=>?_
   obtain⟨_,_,_,_,_,_,h1,_⟩:=h
   refine h'5020 ?_
   omega
 | succ d ih=>
 have G_law_changed:=ih
 refine T.has z1a (fun _ _ _ _ _ _=>L2.bnd2 fun _ _=>rfl) (fun vs H Q E h=>?_) (fun f cdv A outer s H vs Q E hr h=>?_)
 ·refine L2.put_away fun G'5025 h'5025=>?_
  obtain⟨N,v,c,p,rfl,_⟩:=h
  refine h'5025 ?_
  rfl
 refine L2.put_away fun G'5027 h'5027=>?_
 obtain⟨N,v,c,p,rfl,hv,dp,ok,ful,kp,q⟩:=h
 refine h'5027 ?_
 refine⟨_,(z0B (ps_if (PW.pt (pw_or (z0L op_eq (pe_ix z0R (pv 0) z0E (fun _ _=>rfl)) z0N (z0T _)) (z6g (z0L op_eq (pe_op z0f (pv 1) z0E) z0E (z0T _))))) (z0D (z0I (pe_op y7M (z1y (z0A (pe_ix z0R (pv 0) z0E (fun _ _=>rfl)) (z0A (pe_op z0f (pe_op z1M (pe_op z1M (pe_ix z0R (pv 0) z0E (fun _ _=>rfl)) z0E) (pe_op z0f (pe_op z0l (pv 1) z0E) z0E)) z0E) z0C))) (z2G y7u (pv 0) (z1x z0E) z5Y)))) z0K) (z0B (z0P (i:=2) z1a.nd rfl (Or.inl rfl) (pe_op z0f (pe_op z0l (pv 1) z0E) (z0M z0Q rfl m_len PySem.boot_len (z0A (pe_ix z0R (pv 0) z0E (fun _ _=>rfl)) z0C)))) (z0B (z0P (i:=3) z1a.nd rfl (Or.inl rfl) (z1Q z4m rfl m_list (by decide +kernel) (z0A (pe_ix z0R (pv 0) z0E (fun _ _=>rfl)) z0C))) (z0B (y8C (z0J (G_law_changed.mono (by first|decide|omega)) hr (z0A (pe_ix z0b (pv 3) (pv 2) (fun _ _=>rfl)) (z0A (pe_op z0l (pv 1) z0E) z0C))) (y8G (pv 3) (pv 2) y5F)) (z0D (z0I (z1y (z0A z0N (z0A (pe_ix z0R (pv 0) z0E (fun _ _=>rfl)) (z0A (pv 3) z0C)))))))))),?_⟩
 cases hv with
 | @inn b0 k hb=>
  have hT:SqT K H b0 [.str "in",.int k]:=SqT.of hb
  walk_at "wpd"
  refine⟨_,_,_,.str "in",rfl,rfl,hT,rfl,rfl,_,rfl,fun _=>?_,fun c=>absurd (decide_eq_true rfl) c⟩
  refine⟨_,_,_,.str "in",rfl,rfl,hT,rfl,_,_,_,.int k,rfl,rfl,hT,rfl,?_⟩
  walk_at "wpd"
  have n11:=modB (k+1+c/4%3) (show (0:Int)<11 by decide)
  refine⟨divA 10 (by decide) (by decide) (by decide),by decide,by decide,fun p np=>?_⟩
  generalize (k+1+c/4%3)%11=n at n11 ⊢
  have gp:=z0H np (.tup [V.str "in",.int n])
  have hp:=z0F (H:=H) (a:=p) (o:=.tup [V.str "in",.int n])
  generalize upd H p (.tup [V.str "in",.int n])=H1 at gp hp ⊢
  refine⟨b0,_,rfl,SqT.of (gp _ _ hb),by show ¬(HT.sIx 2 0 (some 2)=0/\HT.sIx 2 2 none=2);decide,fun p2 np2=>?_⟩
  have ec:cutV [V.str "in",V.int k] (some 2) none=[]:=by
   rw[show (some (2:Int))=some ((2:Nat):Int) from rfl,z9Q]
   rfl
  rw[ec]
  have g2:=z0H np2 (.tup [])
  refine⟨p,p2,_,[],rfl,rfl,SqT.of (g2 _ _ hp),SqT.of z0F,by simp,by rw[sizeLine_eq];simp,fun _=>?_,fun z=>absurd rfl z⟩
  refine q (.ref p) (.inn n) _ (gp.trans g2) (.inn (g2 _ _ hp)) rfl (fun m hm=>?_) rfl
  simp only [nums,List.mem_cons,List.not_mem_nil,or_false] at hm
  have e100:(100:Int)<10^100:=by decide +kernel
  rw[hm]
  exact dgOk n11.1 (by omega)
 | @par b0 l bb zs ps hb hl nl lz2 hs=>
  have hT:SqT K H b0 [.str "parted",.int bb,.ref l]:=SqT.of hb
  simp only [Pap.dep] at dp
  cases ful with
  | par pne pf=>
  have hlen:=hs.len
  have zl:0<zs.length:=by rw[hlen];exact List.length_pos_iff.mpr pne
  obtain⟨okb,oks⟩:=ok.par
  simp only [Pap.kn] at kp
  walk_at "wpd"
  refine⟨_,_,_,.str "parted",rfl,rfl,hT,rfl,rfl,_,rfl,fun c=>absurd (of_decide_eq_true c) (by decide +kernel),fun _=>⟨by decide,fun c4=>?_,fun c4=>?_⟩⟩
  ·refine⟨_,_,_,.str "parted",rfl,rfl,hT,rfl,_,_,_,.int bb,rfl,rfl,hT,rfl,?_⟩
   walk_at "wpd"
   have n11:=modB (bb+1+c/4%3) (show (0:Int)<11 by decide)
   refine⟨divA 10 (by decide) (by decide) (by decide),by decide,by decide,fun p np=>?_⟩
   generalize (bb+1+c/4%3)%11=n at n11 ⊢
   have gp:=z0H np (.tup [V.str "parted",.int n])
   have hp:=z0F (H:=H) (a:=p) (o:=.tup [V.str "parted",.int n])
   generalize upd H p (.tup [V.str "parted",.int n])=H1 at gp hp ⊢
   refine⟨b0,_,rfl,SqT.of (gp _ _ hb),by show ¬(HT.sIx 3 0 (some 2)=0/\HT.sIx 3 3 none=3);decide,fun p2 np2=>?_⟩
   have ec:cutV [V.str "parted",V.int bb,V.ref l] (some 2) none=[V.ref l]:=by
    rw[show (some (2:Int))=some ((2:Nat):Int) from rfl,z9Q]
    rfl
   rw[ec]
   have g2:=z0H np2 (.tup [V.ref l])
   refine⟨p,p2,_,[V.ref l],rfl,rfl,SqT.of (g2 _ _ hp),SqT.of z0F,by simp,by rw[sizeLine_eq];simp,fun z=>absurd z (by simp),fun _ p3 np3=>?_⟩
   have g3:=z0H np3 (.tup ([V.str "parted",V.int n]++[V.ref l]))
   have G:=(gp.trans g2).trans g3
   refine q (.ref p3) (.par n ps) _ G (.par z0F (G _ _ hl) (.inl nl) lz2 ((hs.mono G).imp fun _ h=>.inl h)) rfl (fun m hm=>?_) rfl
   simp only [nums,List.mem_cons] at hm
   have e100:(100:Int)<10^100:=by decide +kernel
   rcases hm with rfl|hm
   ·exact dgOk n11.1 (by omega)
   ·exact oks m hm
  ·refine⟨divA 10 (by decide) (by decide) (by decide),_,_,_,.ref l,rfl,rfl,hT,rfl,l,zs,rfl,.inl (SqL.of hl),by omega,_,_,_,.ref l,rfl,rfl,hT,rfl,l,zs,rfl,.inl (SqL.of hl),fun D nD=>?_⟩
   have am:=modB (c/4) (show (0:Int)<zs.length by omega)
   obtain⟨j,hj⟩:∃j:Nat,c/4%(zs.length:Int)=(j:Int):=⟨_,(Int.toNat_of_nonneg am.1).symm⟩
   rw[hj] at am ⊢
   have jl:j<zs.length:=by omega
   have hs2:=z4V nD hs
   have gD:=z0H nD (.lst zs)
   have hD:=z0F (H:=H) (a:=D) (o:=.lst zs)
   generalize upd H D (.lst zs)=H2 at gD hD ⊢
   have hs3:=hs2.mono gD
   refine L2.put_away fun G'5098 h'5098=>?_
   obtain⟨p,e1,hp⟩:=hs3.at (List.getElem?_eq_getElem jl)
   refine h'5098 ?_
   have mp:=List.mem_of_getElem? e1
   have k1:=Pap.kn_mem mp
   have k2:=Pap.dep_mem mp
   refine z0W (SqL.of hD) (z0X (List.getElem?_eq_getElem jl)) ⟨divA 10 (by decide) (by decide) (by decide),_,zs[j],c/16,p,rfl,hp,by omega,oks.mem p mp,pf p mp,by omega,fun v' p' H' g' hv' d' ok' kn'=>?_⟩
   have hD':=g' _ _ hD
   have f1:∀x,(N x/\x≠D)∨H2 x=none->(N x∨H x=none)/\x≠D:=fun x hx=>by
    rcases hx with⟨n,ne⟩|hn
    ·exact⟨.inl n,ne⟩
    ·refine⟨.inr ?_,fun e=>?_⟩
     ·cases e:H x with
      | none=>rfl
      | some o=>
       rw[gD _ _ e] at hn
       cases hn
     ·rw[e,hD] at hn
      cases hn
   refine⟨D,zs,(j:Int),j,rfl,rfl,hD',by unfold ixN;rw[if_pos (by omega),if_pos (by omega)];simp,?_⟩
   have hT3:SqT K (upd H' D (.lst (zs.set j v'))) b0 [.str "parted",.int bb,.ref l]:=SqT.of (z9b hD' (g' _ _ (gD _ _ hb)))
   refine⟨_,_,_,.int bb,rfl,rfl,hT3,rfl,fun p5 np5=>?_⟩
   have g5:=z0H np5 (.tup [V.str "parted",.int bb,.ref D])
   have hs5:PapsIn K (fun x=>(N x∨H x=none)/\x≠D) (upd H' D (.lst (zs.set j v'))) (zs.set j v') (ps.set j p'):=PapsIn.write hD' (fun x h=>h.2) (y1Z (hv'.imp f1) ((hs3.mono g').imp fun x hx=>f1 x (.inl hx)))
   refine q (.ref p5) (.par bb (ps.set j p')) _ (((gD.trans g').write nD _).trans g5) (.par z0F (g5 _ _ z0F) (.inr nD) (by rw[List.length_set];exact lz2) ((hs5.mono g5).imp fun x h=>h.1)) ?_ ?_ ?_
   ·show Pap.deps (ps.set j p')+1=Pap.deps ps+1
    rw[y1q d' e1]
   ·intro m hm
    simp only [nums,List.mem_cons] at hm
    rcases hm with rfl|hm
    ·exact okb
    ·refine y0L (fun r hr=>?_) m hm
     rcases List.mem_or_eq_of_mem_set hr with h|h
     ·exact oks.mem r h
     ·rw[h]
      exact ok'
   ·show Pap.kns (ps.set j p')+1=Pap.kns ps+1
    rw[y3o kn' e1]
end
end SMk93
namespace SMk93
open PySem L2 SM
section
variable {P:Program} {w:World} {K:PySem.W.Frag} {mg:Str->Option Value} {base:Heap}
local macro_rules | `(tactic| walk_at "wpd")=>`(tactic| try simp only [z9g,y0w,y1j,y0v,y2s,z6O,y1S,z8Y,y6M,z9o,z9u,z8D,z9i,z6x,z7A,z5C,z7H,z7G,tC_ap,y2k,y2j,y2o,y2l,y3R,rI_ap,rU_ap,y0J,y0I,z6w,tB_ap,ex_bl,y4X,y4Y,z9v,y2n,z9l,z7L,z9k,z6z,y2q,z9m,z7I,z9f,z9n,z7K,y2u,z5B,z9j,y4W,z9t,y3y,y2m,z4I,z6y,y2v,z9s,z6v,y0o,z8E,y0p,z9p,z7k,z7j,z7h,z7i,z7g,z7l,z9h,z7m,y0X,y0Z,y0W,z7f,z7n,z5o,y0Y,z9q,y0T,z7c,z7F,z9r,y0H,z4R,z7C,z7E,z3X,z7B,z7D,z7J,y0U,L2.start,y4g,z8K,z5y,List.map_cons,List.map_nil,List.length_cons,List.length_nil,List.replicate,List.cons_append,List.nil_append,List.append_nil,List.set_cons_zero,List.set_cons_succ,decide_eq_true_eq,Bool.not_eq_true',decide_eq_false_iff_not,Bool.not_eq_eq_eq_not,Bool.not_true,Bool.not_false,sizeLine_eq,oV,reduceCtorEq,y3v,y3w,y3u,y3x,Nat.reduceAdd,Nat.reduceSub,Nat.reduceLeDiff,Nat.zero_add,true_and,and_true,forall_const,Bool.false_eq_true,if_true,if_false,false_implies,true_implies,not_false_eq_true,not_true_eq_false,implies_true])
noncomputable def sp_law (K:PySem.W.Frag):Sp:=fun vs H Q _=>∃(a:Addr) (ns:List Int),vs=[.ref a]/\SqL K H a (ns.map V.int)/\ns.length<=63/\(∀z∈ns,Builtin.Int.intBits z<=2^20)/\∀H',Q (.bl true) H'
theorem sp_start (K:PySem.W.Frag) (H:Hp) (a:Addr) (ns:List Int) (h1:ns.length<=63) (hb:∀z∈ns,Builtin.Int.intBits z<=2^20) (h2:SqL K H a (ns.map V.int)):sp_law K [.ref a] H (fun v _=>v=.bl true) fun _ _ _=>False:=⟨a,ns,rfl,h2,h1,hb,fun _=>rfl⟩
noncomputable def annL:List Nat:=[97,110,110]
noncomputable def bobL:List Nat:=[98,111,98]
noncomputable def annS:Str:=tx annL
noncomputable def bobS:Str:=tx bobL
theorem z6u (k l:List Nat):tx k++tx l=tx (k++l):=by
 show Str.mk _=Str.mk _
 congr 1
 simp [tx]
theorem td_no (v:V):List.lookup (Str.ofString "told") [((Str.ofString "plans"),v)]=none:=by
 rw[List.lookup_cons,show ((Str.ofString "told") == (Str.ofString "plans"))=false by decide +kernel]
 rfl
theorem y1b (z y:Str) (hi i f:Nat):∀(n k:Nat),(forIn (List.range' k n) (#[i],f) (StrLaws.occBody z y hi 1)).run=(#[i],f)
 | 0,k=>rfl
 | n+1,k=>by
  show (forIn (k::List.range' (k+1) n) (#[i],f) (StrLaws.occBody z y hi 1)).run=_
  rw[List.forIn_cons]
  have hb:StrLaws.occBody z y hi 1 k (#[i],f)=pure (ForInStep.yield (#[i],f)):=by
   unfold StrLaws.occBody
   exact if_neg fun h=>by have:=h.1.1.1;simp at this
  rw[hb]
  exact y1b z y hi i f n (k+1)
theorem y1a (z y:Str) (hi i m:Nat) (h1:i+y.length<=hi) (h2:Builtin.Str.subAt z y i=true):∀(n k:Nat),k+n=i->(∀j,k<=j->j<i->Builtin.Str.subAt z y j=false)->(forIn (List.range' k (n+(m+1))) (#[],0) (StrLaws.occBody z y hi 1)).run=(#[i],i+y.length)
 | 0,k,e,_=>by
  have e:k=i:=by omega
  subst e
  rw[Nat.zero_add]
  show (forIn (k::List.range' (k+1) m) (#[],0) (StrLaws.occBody z y hi 1)).run=_
  rw[List.forIn_cons]
  have hb:StrLaws.occBody z y hi 1 k (#[],0)=pure (ForInStep.yield (#[k],k+y.length)):=by
   unfold StrLaws.occBody
   exact if_pos ⟨⟨⟨by simp,Nat.zero_le _⟩,h1⟩,h2⟩
  rw[hb]
  exact y1b z y hi k _ m (k+1)
 | n+1,k,e,hn=>by
  rw[show n+1+(m+1)=(n+(m+1))+1 by omega]
  show (forIn (k::List.range' (k+1) (n+(m+1))) (#[],0) (StrLaws.occBody z y hi 1)).run=_
  rw[List.forIn_cons]
  have hb:StrLaws.occBody z y hi 1 k (#[],0)=pure (ForInStep.yield (#[],0)):=by
   unfold StrLaws.occBody
   exact if_neg fun h=>by rw[hn k (Nat.le_refl _) (by omega)] at h;exact nomatch h.2
  rw[hb]
  exact y1a z y hi i m h1 h2 n (k+1) (by omega) fun j h3 h4=>hn j (by omega) h4
theorem y3g {z y:Str} {i:Nat} (h1:i+y.length<=z.length) (h2:Builtin.Str.subAt z y i=true) (h3:∀j,j<i->Builtin.Str.subAt z y j=false):Builtin.Str.occurrences z y 0 z.length 1=[i]:=by
 rw[StrLaws.occ_eq]
 have e:z.length+1-0=i+((z.length-i)+1):=by omega
 rw[e,y1a z y z.length i (z.length-i) h1 h2 i 0 (by omega) fun j _ hj=>h3 j hj]
theorem y7K {l r:List Nat} (hl:∀c∈l,c≠32):Txt.partition (tx (l++bbL++r)) (tx bbL)=(tx l,tx bbL,tx r):=by
 have nb:bbL.length=4:=by decide +kernel
 have b0:bbL[0]?=some 32:=by decide +kernel
 have sb:∀j,Builtin.Str.subAt (tx (l++bbL++r)) (tx bbL) j=true->j+bbL.length<=(l++bbL++r).length->((l++bbL++r).drop j).take bbL.length=bbL:=fun j h h2=>by
  have:=y0x (l++bbL++r) bbL j (by rw[nb];decide)
  rw[h,z0V,z0V,decide_eq_true h2] at this
  exact of_decide_eq_true this.symm
 have occ:Builtin.Str.occurrences (tx (l++bbL++r)) (tx bbL) 0 (tx (l++bbL++r)).length 1=[l.length]:=by
  refine y3g ?_ ?_ fun j hj=>?_
  ·rw[z0V,z0V]
   simp only [List.length_append]
   omega
  ·have:=y0x (l++bbL++r) bbL l.length (by rw[nb];decide)
   have e:((l++bbL++r).drop l.length).take bbL.length=bbL:=by
    rw[List.append_assoc,List.drop_left,List.take_left]
   rw[decide_eq_true e] at this
   rw[Bool.and_eq_true] at this
   exact this.2
  ·cases c:Builtin.Str.subAt (tx (l++bbL++r)) (tx bbL) j with
   | false=>rfl
   | true=>
    exfalso
    have e:=sb j c (by simp only [List.length_append];omega)
    have e0:(((l++bbL++r).drop j).take bbL.length)[0]?=some 32:=by rw[e];exact b0
    rw[List.getElem?_take_of_lt (by omega),List.getElem?_drop,Nat.add_zero,List.append_assoc,List.getElem?_append_left hj] at e0
    exact hl 32 (List.mem_of_getElem? e0) rfl
 unfold Txt.partition
 rw[occ]
 show (Builtin.Str.strSub (tx (l++bbL++r)) 0 l.length,tx bbL,Builtin.Str.strSub (tx (l++bbL++r)) (l.length+(tx bbL).length) (tx (l++bbL++r)).length)=_
 have e1:Builtin.Str.strSub (tx (l++bbL++r)) 0 l.length=tx l:=by
  rw[z1U,z0a,List.drop_zero,Nat.sub_zero,List.append_assoc,List.take_left]
 have e2:Builtin.Str.strSub (tx (l++bbL++r)) (l.length+(tx bbL).length) (tx (l++bbL++r)).length=tx r:=by
  rw[z1U,z0a,z0V,z0V,List.drop_append_of_le_length (by simp),List.drop_of_length_le (by simp)]
  simp only [List.nil_append]
  rw[List.take_of_length_le]
  simp only [List.length_append]
  omega
 rw[e1,e2]
theorem y7J {l r:List Nat} (hl:∀c∈l,c≠32):(Txt.partition (tx (l++bbL++r)) (tx bbL)).2.2=tx r:=by
 rw[y7K hl]
mutual
theorem z5X:∀(p:Pap),POk p->∀c∈ptx p,c<128
 | .inn k,h=>fun c hc=>by
  simp only [ptx,List.mem_append] at hc
  rcases hc with hc|hc
  ·exact (show ∀z∈inL,z<128 by decide) c hc
  ·have:=h.inn.all c hc
   omega
 | .par b ps,h=>fun c hc=>by
  simp only [ptx,List.mem_append] at hc
  have hs:=y2I ps h.par.2 c
  have hb:=h.par.1.all c
  have l1:=(show ∀z∈byL,z<128 by decide) c
  have l2:=(show ∀z∈opL,z<128 by decide) c
  have l3:=(show ∀z∈clL,z<128 by decide) c
  rcases hc with h|h|h|h|h
  ·exact l1 h
  ·have:=hb h
   omega
  ·exact l2 h
  ·exact hs h
  ·exact l3 h
theorem y2I:∀(ps:List Pap),POks ps->∀c∈ptxs ps,c<128
 | [],_=>fun c hc=>by simp [ptxs] at hc
 | p::ps,h=>fun c hc=>by
  simp only [ptxs,List.mem_append] at hc
  rcases hc with hc|hc
  ·exact z5X p h.cons.1 c hc
  ·exact z6h ps h.cons.2 c hc
theorem z6h:∀(ps:List Pap),POks ps->∀c∈ptxr ps,c<128
 | [],_=>fun c hc=>by simp [ptxr] at hc
 | p::ps,h=>fun c hc=>by
  simp only [ptxr,List.mem_append] at hc
  have l1:=(show ∀z∈cmL,z<128 by decide) c
  have h1:=z5X p h.cons.1 c
  have h2:=z6h ps h.cons.2 c
  rcases hc with h|h|h
  ·exact l1 h
  ·exact h1 h
  ·exact h2 h
end
theorem y3F (l:List Nat) (k:Nat):Txt.slice (tx l) none (some (k:Int))=tx (l.take k):=by
 rcases Nat.le_total k l.length with h|h
 ·have e:Txt.slice (tx l) none (some (k:Int))=Txt.slice (tx l) (some ((0:Nat):Int)) (some (k:Int)):=by
   show StrLaws.sliceText _ _ _=StrLaws.sliceText _ _ _
   unfold StrLaws.sliceText
   have m0:max 0 (min 0 (l.length:Int))=0:=by omega
   rw[z0V]
   simp [Builtin.Str.strSliceIndices,m0]
  rw[e,z4t (Nat.zero_le _) h]
  simp
 ·have e:Txt.slice (tx l) none (some (k:Int))=Txt.slice (tx l) (some ((0:Nat):Int)) (some (l.length:Int)):=by
   show StrLaws.sliceText _ _ _=StrLaws.sliceText _ _ _
   unfold StrLaws.sliceText
   rw[z0V]
   have m0:max 0 (min 0 (l.length:Int))=0:=by omega
   have a:¬((k:Int)<0):=by omega
   have b:¬((l.length:Int)<0):=by omega
   have m1:min (k:Int) (l.length:Int)=l.length:=by omega
   simp [Builtin.Str.strSliceIndices,m0,m1,a,b]
  rw[e,z4t (Nat.zero_le _) (Nat.le_refl _),List.take_of_length_le h]
  simp
theorem y2w {H H':Hp} {c pd:Addr} {xs:List V} {kv:List (Key×V)} (h:SqL K H c xs) (hp:H pd=some (.dK kv)) (g:OffD pd H H'):SqL K H' c xs:=by
 rcases h with (h|⟨o,h⟩)|h
 ·exact .inl (.inl (g _ _ (ne_of h hp (by intro z;cases z)) h))
 ·exact .inl (.inr ⟨o,g _ _ (ne_of h hp (by intro z;cases z)) h⟩)
 ·exact .inr h
noncomputable def z9x (K:PySem.W.Frag) (C:Addr):Sp:=fun vs H Q _=>∃(d pd tb a b:Addr) (v:V) (n:Nat) (L:Book) (zs xs ys:List V) (ws us:List T3) (wh:Int) (p:Pap),vs=[.ref d,.ref tb,.int wh,.ref a,.ref b,v]/\Dsk C H d pd n L/\n<=1000/\L annS=some ws/\L bobS=some us/\Sml ws us wh/\H tb=some (.lst zs)/\TbAt (fun _=>True) H zs ((shs ws us).map (tbl wh))/\H a=some (.lst xs)/\Pl H xs ws/\H b=some (.lst ys)/\Pl H ys us/\PapIn K anyL H v p/\POk p/\p.dep<=13/\p.kn<64/\∀H',Same H H'->Q (.bl true) H'
theorem z7x {C:Addr} (cl_Desk:Cls K C) (T:TF K mg "_law_checked" z2b) (m_str:mg "str" = none) (m_isinstance:mg "isinstance" = none) (G_Desk_told:HasM P w K mg base 88 C "told" ["self", "row"] (z3p K C)) (G_shown_paper:Has P w K mg base 15 "shown_paper" ["paper"] (z4r K 14)) (G_law_right:Has P w K mg base 16 "_law_right" ["tables", "whole", "step", "rest", "paper"] (z8d K 14)) (G_law_wait:Has P w K mg base 16 "_law_wait" ["one", "other", "paper"] (y1G K 14)):Has P w K mg base 89 "_law_checked" ["desk", "tables", "whole", "one", "other", "paper"] (z9x K C):=by
 refine T.has z1Z (fun _ _ _ _ _ _=>L2.bnd6 fun _ _ _ _ _ _=>rfl) (fun vs H Q E h=>?_) (fun f cdv A outer s H vs Q E hr h=>?_)
 ·refine L2.put_away fun G'5305 h'5305=>?_
  obtain⟨d,pd,tb,a,b,v,n,L,zs,xs,ys,ws,us,wh,p,rfl,_⟩:=h
  refine h'5305 ?_
  rfl
 refine L2.put_away fun G'5307 h'5307=>?_
 obtain⟨d,pd,tb,a,b,v,n,L,zs,xs,ys,ws,us,wh,p,rfl,hk,hn,hA,hB,sm,htb,tbs,ha,hP,hb,hP2,hv,ok,dp,kp,q⟩:=h
 refine h'5307 ?_
 refine⟨_,(z0B (z1P (z0P (i:=6) z1Z.nd rfl (Or.inl rfl) (z1m (pv 0) cl_Desk (G_Desk_told.mono (by first|decide|omega)) hr (z0A (pe_op z3L z0N (z0J (G_shown_paper.mono (by first|decide|omega)) hr (z0A (pv 5) z0C))) z0C)))) (z0B (z1P (z0P (i:=7) z1Z.nd rfl (Or.inl rfl) z0N)) (z0B (z1P (ps_if (z1C (z0J (G_law_right.mono (by first|decide|omega)) hr (z0A (pv 1) (z0A (pv 2) (z0A z0E (z0A z0E (z0A (pv 5) z0C)))))) (fun _=>rfl)) (z0D (z0P (i:=7) z1Z.nd rfl (Or.inl rfl) (pe_op z3L z0N (z1Q z4k rfl m_str (by decide +kernel) (z0A (z0J (G_law_wait.mono (by first|decide|omega)) hr (z0A (pv 3) (z0A (pv 4) (z0A (pv 5) z0C)))) z0C))))) z0K)) (z0D (z0I (z5e (z0M z8O rfl m_isinstance (by decide +kernel) (z0A (pv 6) (z0A (y0M (v:=.ty "str") rfl m_str (by decide +kernel) rfl) z0C))) (z6i (z2h op_eq (pv 6) (pv 7) (z0T _))))))))),?_⟩
 walk_at "wpd"
 have l2:=z3A p ok
 have eC:Str.ofString "check ann bob " = tx (z3V++[32]++annL++[32]++bobL++[32]):=by decide +kernel
 have lC:(z3V++[32]++annL++[32]++bobL++[32]).length=14:=rfl
 have eG:z3V++[32]++annL++[32]++bobL++[32]++ptx p=glu 32 [z3V,annL,bobL,ptx p]:=by simp [glu]
 have hA':nmB annL=true:=by decide
 have hB':nmB bobL=true:=by decide
 have tok:TxOk (glu 32 [z3V,annL,bobL,ptx p]):=by
  refine⟨?_,z5v (Pz:=fun x=>x<128) (by decide) fun x hx=>?_⟩
  ·rw[←eG,List.length_append,lC]
   omega
  ·simp only [List.mem_cons,List.not_mem_nil,or_false] at hx
   rcases hx with rfl|rfl|rfl|rfl
   ·decide
   ·decide
   ·decide
   ·exact z5X p ok
 refine⟨fun σ H'=>∃z,σ=[some (.ref d),some (.ref tb),some (.int wh),some (.ref a),some (.ref b),some v,some (.str (tx z)),none]/\Same H H'/\ChkA ws us p z,?_,?_⟩
 ·walk_at "wpd"
  obtain⟨dx,hd⟩:=hk.1
  refine⟨d,dx,_,rfl,hd,td_no _,v,p,rfl,hv,ok,by omega,by omega,fun H1 g1=>?_⟩
  rw[eC]
  refine⟨_,_,rfl,rfl,by rw[z0V,z0V,lC];omega,?_⟩
  rw[z6u,eG]
  exact⟨d,pd,_,n,L,rfl,hk.same g1,hn,tok,.inr (.inr ⟨annL,bobL,p,ws,us,wh,y3P hA' hB',ok,dp,kp,hA,hB,sm,fun z H2 g2 hz=>⟨z,rfl,g1.trans g2,hz⟩⟩)⟩
 rintro σ H1 ⟨z,rfl,g1,hz⟩
 walk_at "wpd"
 refine⟨fun σ H'=>σ=[some (.ref d),some (.ref tb),some (.int wh),some (.ref a),some (.ref b),some v,some (.str (tx z)),some (.str "wrong")]/\H'=H1,?_,?_⟩
 ·walk_at "wpd"
 rintro σ H2 ⟨rfl,rfl⟩
 walk_at "wpd"
 refine L2.put_away fun G'5340 h'5340=>?_
 obtain⟨kw,ku,dw,du,W1,W3⟩:=sm
 refine h'5340 ?_
 have hw30:∀ {l:List T3},(∀u∈l,Wk u)->(∀u∈l,u.1∣wh)->∀u∈l,1<=u.1/\u.1<=30:=fun {l} h1 h2 u hu=>⟨(h1 u hu).1,Int.le_trans (Int.le_of_dvd (by omega) (h2 u hu)) W3⟩
 have dsh:∀x∈shs ws us,x.1∣wh:=fun x hx=>Int.dvd_trans (y3I dw du x hx) (z0i _ _)
 refine⟨fun σ H'=>σ=[some (.ref d),some (.ref tb),some (.int wh),some (.ref a),some (.ref b),some v,some (.str (tx z)),some (.str (tx z))]/\Same H H',?_,?_⟩
 ·walk_at "wpd"
  refine⟨tb,v,zs,shs ws us,wh,1,0,p,rfl,g1 _ _ htb,tbs.same g1,y3H kw.1 ku.1,dsh,W1,W3,by decide,hv.mono g1,by omega,fun H3 g3=>⟨_,rfl,fun c=>?_,fun c=>?_⟩⟩
  ·have G:=g1.trans g3
   refine⟨a,b,v,xs,ys,ws,us,p,shs ws us,1,0,rfl,SqL.of (G _ _ ha),hP.same G,SqL.of (G _ _ hb),hP2.same G,hw30 kw.1 dw,hw30 ku.1 du,by have:=ku.2.2;omega,z2Q ..,hv.mono G,by omega,by omega,c,fun M H4 g4 hM=>?_⟩
   rcases hz with⟨_,M',hM',dk,rfl⟩|⟨c',_⟩
   ·obtain rfl:=hM.uniq hM'
    have l1:=dk.len
    have t1:Str.ofString "right within " = tx rwL:=(z1c _).symm
    have n1:rwL.length=13:=by decide +kernel
    refine⟨M,rfl,dk.sz,?_⟩
    rw[z3m,t1]
    refine⟨_,_,rfl,rfl,by rw[z0V,z0V];omega,?_⟩
    rw[z6u]
    exact⟨rfl,G.trans g4⟩
   ·rw[c] at c'
    cases c'
  ·rcases hz with⟨c',_⟩|⟨_,rfl⟩
   ·exact absurd c' c
   ·rw[show tx wroL=Str.ofString "wrong" from z1c _]
    exact⟨rfl,g1.trans g3⟩
 rintro σ H3 ⟨rfl,g3⟩
 walk_at "wpd"
 refine⟨_,_,_,true,rfl,.str _,rfl,true,rfl,fun _=>eqT ?_,fun c=>absurd rfl c⟩
 rw[decide_eq_true rfl]
 exact q H3 g3
theorem PopR.ful {ws:List T3} {s r:Int} {ks:List Int} {p:Pap} (h:PopR ws s r ks p):Ful p:=by
 induction h with
 | inn=>exact .inn _
 | @par s r ks ms m0 b ps e1 e2 e3 e4 e5 e6 ih=>
  have b2:=e4.two
  refine .par (fun e=>by rw[e] at e5;simp at e5;omega) fun p hp=>?_
  obtain⟨i,hi⟩:=List.getElem?_of_mem hp
  exact ih i p hi
theorem h_law {C:Addr} (cl_Desk:Cls K C) (mk_Desk:PySem.W.makesIn K C=true) (kc_Desk:PySem.W.keepIn K (.ref C)=true) (mg_Desk:mg "Desk" = some (.ref C)) (T:TF K mg "law" s_law) (m_str:mg "str" = none) (m_isinstance:mg "isinstance" = none) (G_Desk___init__:HasM P w K mg base 1 C "__init__" ["self"] (y1L C)) (G_Desk_told:HasM P w K mg base 88 C "told" ["self", "row"] (z3p K C)) (G_law_cell_at:Has P w K mg base 1 "_law_cell_at" ["script", "k"] (z3H K)) (G_law_plan:Has P w K mg base 2 "_law_plan" ["script", "at", "whole"] (y1I K)) (G_law_text:Has P w K mg base 1 "_law_text" ["plan"] (y1H K)) (G_law_pairs:Has P w K mg base 4 "_law_pairs" ["one", "other", "whole"] (z8e K)) (G_law_grown:Has P w K mg base 8 "_law_grown" ["tables", "whole", "step", "rest", "cells"] (y1K K 5)) (G_read_paper:Has P w K mg base 87 "read_paper" ["text"] (z5G K)) (G_law_checked:Has P w K mg base 89 "_law_checked" ["desk", "tables", "whole", "one", "other", "paper"] (z9x K C)) (G_law_changed:Has P w K mg base 15 "_law_changed" ["paper", "cell"] (z6Y K 14)):Has P w K mg base 90 "law" ["script"] (sp_law K):=by
 refine T.has z2r (fun _ _ _ _ _ _=>L2.bnd1 fun _=>rfl) (fun vs H Q E h=>?_) (fun f cdv A outer s H vs Q E hr h=>?_)
 ·refine L2.put_away fun G'5379 h'5379=>?_
  obtain⟨a,ns,rfl,_⟩:=h
  refine h'5379 ?_
  rfl
 refine L2.put_away fun G'5381 h'5381=>?_
 obtain⟨a,ns,rfl,hS,h63,hbits,q⟩:=h
 refine h'5381 ?_
 refine⟨_,(z0B (z1P (z0P (i:=1) z2r.nd rfl (Or.inl rfl) (pe_ix z0b (z1T (z0A z0E (z0A z0E (z0A z0E (z0A z0E (z0A z0E z0C)))))) (pe_op z0f (z0J (G_law_cell_at.mono (by first|decide|omega)) hr (z0A (pv 0) (z0A z0E z0C))) z0E) (fun _ _=>rfl)))) (z0B (z1P (z0P (i:=2) z2r.nd rfl (Or.inl rfl) (z0J (G_law_plan.mono (by first|decide|omega)) hr (z0A (pv 0) (z0A z0E (z0A (pv 1) z0C)))))) (z0B (z1P (z0P (i:=3) z2r.nd rfl (Or.inl rfl) (z0J (G_law_plan.mono (by first|decide|omega)) hr (z0A (pv 0) (z0A z0E (z0A (pv 1) z0C)))))) (z0B (z1P (z0P (i:=4) z2r.nd rfl (Or.inl rfl) (y8I (G_Desk___init__.mono (by first|decide|omega)) mk_Desk kc_Desk hr rfl mg_Desk))) (z0B (z1P (ps_if (PW.pt (pw_or (z0L op_ne (z1m (pv 4) cl_Desk (G_Desk_told.mono (by first|decide|omega)) hr (z0A (pe_op z3L z0N (z0J (G_law_text.mono (by first|decide|omega)) hr (z0A (pv 2) z0C))) z0C)) z0N (z0T _)) (z6g (z0L op_ne (z1m (pv 4) cl_Desk (G_Desk_told.mono (by first|decide|omega)) hr (z0A (pe_op z3L z0N (z0J (G_law_text.mono (by first|decide|omega)) hr (z0A (pv 3) z0C))) z0C)) z0N (z0T _))))) (z0D (z0I pe_bl)) z0K)) (z0B (z1P (z0P (i:=5) z2r.nd rfl (Or.inl rfl) (z0J (G_law_pairs.mono (by first|decide|omega)) hr (z0A (pv 2) (z0A (pv 3) (z0A (pv 1) z0C)))))) (z0B (z1P (z0P (i:=6) z2r.nd rfl (Or.inl rfl) (z1m (pv 4) cl_Desk (G_Desk_told.mono (by first|decide|omega)) hr (z0A z0N z0C)))) (z0B (z1P (z0P (i:=7) z2r.nd rfl (Or.inl rfl) (pe_op y6V (z2G z9z (pv 0) (z1x z0E) (z1x z0E)) (z1T (z0A (z0J (G_law_cell_at.mono (by first|decide|omega)) hr (z0A (pv 0) (z0A z0E z0C))) z0C))))) (z0B (z1P (z0P (i:=8) z2r.nd rfl (Or.inl rfl) (z1T (z0A (z0J (G_law_grown.mono (by first|decide|omega)) hr (z0A (pv 5) (z0A (pv 1) (z0A z0E (z0A z0E (z0A (pv 7) z0C)))))) z0C)))) (z0B (z1P (ps_if (PW.pt (y3S (z1C (z0M z8O rfl m_isinstance (by decide +kernel) (z0A (pv 6) (z0A (y0M (v:=.ty "str") rfl m_str (by decide +kernel) rfl) z0C))) (fun _=>rfl)) (y0K (z0L op_eq (z2G y1P (pv 6) z5Y (z1x z0E)) z0N (z0T _))))) (z0D (z1k (pe_bm PySem.F.plainAttrs_list PySem.F.slot_list_append PySem.F.type_list_append z1g (pv 8) (z0A (z0J (G_read_paper.mono (by first|decide|omega)) hr (z0A (pe_ix z0R (pe_bm PySem.F.plainAttrs_str PySem.F.slot_str_partition PySem.F.type_str_partition z4i (z2G y1P (pv 6) (z1x z0E) z5Y) (z0A z0N z0C)) z0E (fun _ _=>rfl)) z0C)) z0C)))) z0K)) (z0B (z1P (z1S PassesOwn.never rfl (z0q (pv 8)) (z0S (i:=9) z2r.nd rfl (Or.inl rfl)) (z0B (ps_if (z2F (z1C (z0J (G_law_checked.mono (by first|decide|omega)) hr (z0A (pv 4) (z0A (pv 5) (z0A (pv 1) (z0A (pv 2) (z0A (pv 3) (z0A (pv 9) z0C))))))) (fun _=>rfl))) (z0D (z0I pe_bl)) z0K) (z0B (z0P (i:=10) z2r.nd rfl (Or.inl rfl) (z0J (G_law_changed.mono (by first|decide|omega)) hr (z0A (pv 9) (z0A (pe_op z0f (z0J (G_law_cell_at.mono (by first|decide|omega)) hr (z0A (pv 0) (z0A z0E z0C))) (pe_op y6T z0E z0E)) z0C)))) (z0D (ps_if (z2F (z1C (z0J (G_law_checked.mono (by first|decide|omega)) hr (z0A (pv 4) (z0A (pv 5) (z0A (pv 1) (z0A (pv 2) (z0A (pv 3) (z0A (pv 10) z0C))))))) (fun _=>rfl))) (z0D (z0I pe_bl)) z0K)))))) (z0D (z0I (z2h op_eq (z1m (pv 4) cl_Desk (G_Desk_told.mono (by first|decide|omega)) hr (z0A z0N z0C)) (pv 6) (z0T _))))))))))))))),?_⟩
 walk_at "wpd"
 refine⟨fun σ H'=>∃wh:Int,σ=[some (.ref a),some (.int wh),none,none,none,none,none,none,none,none,none]/\Same H H'/\12<=wh/\wh<=30,?_,?_⟩
 ·walk_at "wpd"
  intro p np
  have gp:=z0H np (.lst ([12,18,20,24,30].map V.int))
  have hp:=z0F (H:=H) (a:=p) (o:=.lst ([12,18,20,24,30].map V.int))
  change z3H K _ (upd H p (.lst ([12,18,20,24,30].map V.int))) _ _
  generalize upd H p (.lst ([12,18,20,24,30].map V.int))=H1 at gp hp ⊢
  refine⟨a,ns,0,rfl,gp.seq hS,by decide,_,_,rfl,rfl,by show (0:Int)<5;decide,?_⟩
  have c5:=modB (ns.getD (Int.toNat 0) 0) (show (0:Int)<5 by decide)
  have pl:=z8C (Pz:=fun z=>12<=z/\z<=30) (zs:=[12,18,20,24,30]) (i:=(ns.getD (Int.toNat 0) 0%5).toNat) (by decide) (by simp;omega)
  exact z0W (SqL.of hp) (z4H (zs:=[12,18,20,24,30]) c5.1 (by simp;omega)) ⟨_,rfl,gp,pl.1,pl.2⟩
 rintro σ H1 ⟨wh,rfl,g1,w0,w1⟩
 have hS1:=g1.seq hS
 walk_at "wpd"
 obtain⟨Gd,hGd⟩:∃Gd:Addr->List V->List T3->Hp->Prop,Gd=fun A xs ws H'=>H' A=some (.lst xs)/\Pl H' xs ws/\(∀u∈ws,Wk u)/\(∀u∈ws,u.1∣wh)/\1<=ws.length/\ws.length<=3:=⟨_,rfl⟩
 have gdS:∀ {A xs ws H2 H3},Gd A xs ws H2->Same H2 H3->Gd A xs ws H3:=fun {A xs ws H2 H3} h g=>by
  rw[hGd] at h ⊢
  exact⟨g _ _ h.1,h.2.1.same g,h.2.2⟩
 refine⟨fun σ H'=>∃A xs ws,σ=[some (.ref a),some (.int wh),some (.ref A),none,none,none,none,none,none,none,none]/\Same H1 H'/\Gd A xs ws H',?_,?_⟩
 ·walk_at "wpd"
  exact⟨a,ns,1,wh,rfl,hS1,by decide,by decide,by omega,w1,fun D xs ws H' g hD hP hw hd l1 l2=>⟨D,xs,ws,rfl,g,by rw[hGd];exact⟨hD,hP,hw,hd,l1,l2⟩⟩⟩
 rintro σ H2 ⟨A1,xs,ws,rfl,g2,hA⟩
 have hS2:=g2.seq hS1
 walk_at "wpd"
 refine⟨fun σ H'=>∃B ys us,σ=[some (.ref a),some (.int wh),some (.ref A1),some (.ref B),none,none,none,none,none,none,none]/\Same H2 H'/\Gd B ys us H',?_,?_⟩
 ·walk_at "wpd"
  exact⟨a,ns,5,wh,rfl,hS2,by decide,by decide,by omega,w1,fun D xs ws H' g hD hP hw hd l1 l2=>⟨D,xs,ws,rfl,g,by rw[hGd];exact⟨hD,hP,hw,hd,l1,l2⟩⟩⟩
 rintro σ H3 ⟨B1,ys,us,rfl,g3,hB⟩
 have hS3:=g3.seq hS2
 have hA:=gdS hA g3
 walk_at "wpd"
 obtain⟨M,hM⟩:∃M:Addr->Addr->Nat->Book->Hp->Prop,M=fun d pd n L H'=>Dsk C H' d pd n L/\Gd A1 xs ws H'/\Gd B1 ys us H'/\SqL K H' a (ns.map V.int):=⟨_,rfl⟩
 have mS:∀ {d pd n L H2 H3},M d pd n L H2->Same H2 H3->M d pd n L H3:=fun {d pd n L H2 H3} h g=>by
  rw[hM] at h ⊢
  exact⟨h.1.same g,gdS h.2.1 g,gdS h.2.2.1 g,g.seq h.2.2.2⟩
 have gdO:∀ {A xs ws H2 H3 pd kv},Gd A xs ws H2->H2 pd=some (.dK kv)->OffD pd H2 H3->Gd A xs ws H3:=fun {A xs ws H2 H3 pd kv} h hp off=>by
  rw[hGd] at h ⊢
  exact⟨off _ _ (ne_of h.1 hp (by intro z;cases z)) h.1,pl_by h.2.1 fun b ys e=>off _ _ (ne_of e hp (by intro z;cases z)) e,h.2.2⟩
 refine⟨fun σ H'=>∃d pd,σ=[some (.ref a),some (.int wh),some (.ref A1),some (.ref B1),some (.ref d),none,none,none,none,none,none]/\M d pd 0 (fun _=>none) H',?_,?_⟩
 ·walk_at "wpd"
  intro x dx nx ndx _
  refine⟨x,dx,rfl,z0F,fun pd H4 dk np off=>⟨rfl,x,pd,rfl,?_⟩⟩
  have S1:Same H3 H4:=fun b o e=>off b o (z0O e nx) (by rw[z0U (z0O e nx),z0U (z0O e ndx)];exact e)
  rw[hM]
  exact⟨dk,gdS hA S1,gdS hB S1,S1.seq hS3⟩
 have fA:Gd A1 xs ws H3:=hA
 have fB:Gd B1 ys us H3:=hB
 rw[hGd] at fA fB
 refine L2.put_away fun G'5432 h'5432=>?_
 obtain⟨_,_,hw,dw,lw1,lw3⟩:=fA
 refine h'5432 ?_
 refine L2.put_away fun G'5433 h'5433=>?_
 obtain⟨_,_,hu,du,lu1,lu3⟩:=fB
 refine h'5433 ?_
 have b30:∀ {l:List T3},(∀u∈l,Wk u)->(∀u∈l,u.1∣wh)->∀u∈l,u.1<=30:=fun {l} h1 h2 u hu=>Int.le_trans (Int.le_of_dvd (by omega) (h2 u hu)) w1
 have hw30:=b30 hw dw
 have hu30:=b30 hu du
 have wne:ws≠[]:=fun e=>by rw[e] at lw1;simp at lw1
 have une:us≠[]:=fun e=>by rw[e] at lu1;simp at lu1
 have e900:(30:Int)<2^900:=by decide +kernel
 have kw:KpP ws:=⟨hw,fun u h=>by have:=hw30 u h;omega,by omega⟩
 have ku:KpP us:=⟨hu,fun u h=>by have:=hu30 u h;omega,by omega⟩
 have sm:Sml ws us wh:=⟨kw,ku,dw,du,by omega,w1⟩
 refine L2.put_away fun G'5443 h'5443=>?_
 obtain⟨rdA,okA,lnA⟩:=y6Q wne hw hw30 (by omega)
 refine h'5443 ?_
 refine L2.put_away fun G'5444 h'5444=>?_
 obtain⟨rdB,okB,lnB⟩:=y6Q une hu hu30 (by omega)
 refine h'5444 ?_
 have isw:∀ {l:List T3},(∀u∈l,Wk u)->∀u∈l,isW u=true:=fun {l} h u hu=>by
  refine L2.put_away fun G'5446 h'5446=>?_
  obtain⟨a1,a2,a3,a4,a5⟩:=h u hu
  refine h'5446 ?_
  unfold isW
  simp [a1,a2,a3,a4,a5]
 have hA':nmB annL=true:=by decide
 have hB':nmB bobL=true:=by decide
 have tokP:∀ {nm:List Nat} {t:List Nat},nmB nm=true->TxOk t->t.length<=4000->TxOk (glu 32 [planL,nm,t]):=fun {nm t} h ht l4=>by
  have ln:=y5b h
  refine⟨Nat.le_trans (z5u (M:=4000) fun x hx=>?_) (by show 3*4001<=100000;decide),z5v (Pz:=fun x=>x<128) (by decide) fun x hx=>?_⟩
  ·simp only [List.mem_cons,List.not_mem_nil,or_false] at hx
   rcases hx with rfl|rfl|rfl
   ·decide
   ·omega
   ·omega
  ·simp only [List.mem_cons,List.not_mem_nil,or_false] at hx
   rcases hx with rfl|rfl|rfl
   ·decide
   ·exact ln.2
   ·exact ht.2
 have eA:Str.ofString "plan ann " = tx (planL++[32]++annL++[32]):=by decide +kernel
 have eB:Str.ofString "plan bob " = tx (planL++[32]++bobL++[32]):=by decide +kernel
 have lA:(planL++[32]++annL++[32]).length=9:=rfl
 have lB:(planL++[32]++bobL++[32]).length=9:=rfl
 rintro σ H4 ⟨d,pd,rfl,h⟩
 walk_at "wpd"
 have wokA:∀u∈ws,WOk u:=fun u h=>(z4y (hw u h) (hw30 u h)).1
 have wokB:∀u∈us,WOk u:=fun u h=>(z4y (hu u h) (hu30 u h)).1
 obtain⟨WA,hWA⟩:∃WA,WA=ptext ws false:=⟨_,rfl⟩
 obtain⟨WB,hWB⟩:∃WB,WB=ptext us false:=⟨_,rfl⟩
 rw[←hWA] at rdA okA lnA
 rw[←hWB] at rdB okB lnB
 have eGA:planL++[32]++annL++[32]++WA=glu 32 [planL,annL,WA]:=by simp [glu]
 have eGB:planL++[32]++bobL++[32]++WB=glu 32 [planL,bobL,WB]:=by simp [glu]
 obtain⟨L,hL⟩:∃L:Book,L=setB (setB (fun _=>none) annS ws) bobS us:=⟨_,rfl⟩
 refine⟨fun σ H'=>σ=[some (.ref a),some (.int wh),some (.ref A1),some (.ref B1),some (.ref d),none,none,none,none,none,none]/\M d pd 2 L H',?_,?_⟩
 ·walk_at "wpd"
  rw[hM] at h
  refine L2.put_away fun G'5482 h'5482=>?_
  obtain⟨hk,gA,gB,hS4⟩:=h
  refine h'5482 ?_
  obtain⟨dx,hd⟩:=hk.1
  refine L2.put_away fun G'5484 h'5484=>?_
  obtain⟨kv,hp,_⟩:=hk.2
  refine h'5484 ?_
  have gA':=gA
  rw[hGd] at gA'
  refine⟨d,dx,_,rfl,hd,td_no _,A1,xs,ws,rfl,SqL.of gA'.1,gA'.2.1,hw,hw30,wne,by omega,fun H5 g5=>?_⟩
  rw[eA,rdA]
  refine⟨_,_,rfl,rfl,by rw[z0V,z0V];omega,?_⟩
  rw[z6u,eGA]
  have hp5:=g5 _ _ hp
  refine⟨d,pd,_,0,_,rfl,hk.same g5,by decide,tokP hA' okA lnA,.inl ⟨annL,ws,by rw[←hWA];exact y1V hA',wokA,isw hw,kw,fun H6 off dk=>⟨rfl,_,rfl,(fun c=>absurd c (by simp)),fun _=>?_⟩⟩⟩
  obtain⟨dx2,hd2⟩:=dk.1
  refine L2.put_away fun G'5494 h'5494=>?_
  obtain⟨kv2,hp2,_⟩:=dk.2
  refine h'5494 ?_
  have gA6:=gdO (gdS gA g5) hp5 off
  have gB6:=gdO (gdS gB g5) hp5 off
  have hS6:=y2w (g5.seq hS4) hp5 off
  have gB6':=gB6
  rw[hGd] at gB6'
  refine⟨d,dx2,_,rfl,hd2,td_no _,B1,ys,us,rfl,SqL.of gB6'.1,gB6'.2.1,hu,hu30,une,by omega,fun H7 g7=>?_⟩
  rw[eB,rdB]
  refine⟨_,_,rfl,rfl,by rw[z0V,z0V];omega,?_⟩
  rw[z6u,eGB]
  have hp7:=g7 _ _ hp2
  refine⟨d,pd,_,1,_,rfl,dk.same g7,by decide,tokP hB' okB lnB,.inl ⟨bobL,us,by rw[←hWB];exact y1V hB',wokB,isw hu,ku,fun H8 off8 dk8=>⟨rfl,_,rfl,(fun c=>absurd c (by simp)),fun _=>?_⟩⟩⟩
  rw[hM]
  refine⟨?_,gdO (gdS gA6 g7) hp7 off8,gdO (gdS gB6 g7) hp7 off8,y2w (g7.seq hS6) hp7 off8⟩
  rw[hL]
  exact dk8
 have LA:L annS=some ws:=by
  rw[hL]
  unfold setB
  rw[if_neg (by decide +kernel),if_pos rfl]
 have LB:L bobS=some us:=by
  rw[hL]
  unfold setB
  rw[if_pos rfl]
 clear h
 rintro σ H5 ⟨rfl,h5⟩
 walk_at "wpd"
 refine⟨fun σ H'=>∃tb zs,σ=[some (.ref a),some (.int wh),some (.ref A1),some (.ref B1),some (.ref d),some (.ref tb),none,none,none,none,none]/\M d pd 2 L H'/\H' tb=some (.lst zs)/\TbAt (fun _=>True) H' zs ((shs ws us).map (tbl wh)),?_,?_⟩
 ·walk_at "wpd"
  have h5':=h5
  rw[hM] at h5'
  refine L2.put_away fun G'5525 h'5525=>?_
  obtain⟨_,gA,gB,_⟩:=h5'
  refine h'5525 ?_
  rw[hGd] at gA gB
  exact⟨A1,B1,xs,ys,ws,us,wh,rfl,SqL.of gA.1,gA.2.1,SqL.of gB.1,gB.2.1,hw,hu,dw,du,by omega,by omega,by omega,w1,fun D zs H' g hD tb=>⟨D,zs,rfl,mS h5 g,hD,tb⟩⟩
 rintro σ H6 ⟨tb,zs,rfl,h6,htb,tbs⟩
 clear h5
 walk_at "wpd"
 have eS:Str.ofString "sure ann bob" = tx (glu 32 [sureL,annL,bobL]):=by decide +kernel
 have tokS:TxOk (glu 32 [sureL,annL,bobL]):=⟨by decide,by decide⟩
 have sure:∀ {H7:Hp} {R:VK},M d pd 2 L H7->(∀z H',Same H7 H'->SureA ws us z->R (.str (tx z)) H')->∃(i dx:Addr) (fs:List (Str×V)),V.ref d=V.ref i/\H7 i=some (.ins C dx fs)/\List.lookup (Str.ofString "told") fs=none/\z3p K C [V.ref d,V.str (Str.ofString "sure ann bob")] H7 R E0:=fun {H7 R} h7 hq=>by
  rw[hM] at h7
  obtain⟨hk,_⟩:=h7
  obtain⟨dx,hd⟩:=hk.1
  refine⟨d,dx,_,rfl,hd,td_no _,?_⟩
  rw[eS]
  exact⟨d,pd,_,2,L,rfl,hk,by decide,tokS,.inr (.inl ⟨annL,bobL,ws,us,wh,y5K hA' hB',LA,LB,sm,hq⟩)⟩
 refine⟨fun σ H'=>∃z,σ=[some (.ref a),some (.int wh),some (.ref A1),some (.ref B1),some (.ref d),some (.ref tb),some (.str (tx z)),none,none,none,none]/\Same H6 H'/\SureA ws us z,?_,?_⟩
 ·walk_at "wpd"
  exact sure h6 fun z H' g hz=>⟨z,rfl,g,hz⟩
 rintro σ H7 ⟨z,rfl,g7,hz⟩
 have h7:=mS h6 g7
 have htb7:=g7 _ _ htb
 have tbs7:=tbs.same g7
 clear h6 htb tbs g7
 walk_at "wpd"
 refine⟨fun σ H'=>∃D cs,σ=[some (.ref a),some (.int wh),some (.ref A1),some (.ref B1),some (.ref d),some (.ref tb),some (.str (tx z)),some (.ref D),none,none,none]/\Same H7 H'/\H' D=some (.lst (cs.map V.int))/\cs≠[]/\cs.length<=64,?_,?_⟩
 ·walk_at "wpd"
  have h7':=h7
  rw[hM] at h7'
  have hS7:=h7'.2.2.2
  refine⟨a,_,rfl,hS7,fun p np=>?_⟩
  rw[y1r]
  have lc:(cutI ns (some 9) (some 49)).length<=63:=by unfold cutI;simp;omega
  generalize cutI ns (some 9) (some 49)=cs at lc ⊢
  have gq:=z0H np (.lst (cs.map V.int))
  have hq:=z0F (H:=H7) (a:=p) (o:=.lst (cs.map V.int))
  generalize upd H7 p (.lst (cs.map V.int))=H8 at gq hq ⊢
  refine⟨a,ns,1,rfl,gq.seq hS7,by decide,fun p2 np2=>?_⟩
  have gr:=z0H np2 (.lst [V.int (ns.getD (1:Int).toNat 0)])
  have hr2:=z0F (H:=H8) (a:=p2) (o:=.lst [V.int (ns.getD (1:Int).toNat 0)])
  generalize upd H8 p2 (.lst [V.int (ns.getD (1:Int).toNat 0)])=H9 at gr hr2 ⊢
  refine⟨p,p2,_,_,rfl,rfl,gr _ _ hq,hr2,by rw[sizeLine_eq,List.length_map];show _+1<=_;omega,fun p3 np3=>⟨p3,cs++[ns.getD (1:Int).toNat 0],rfl,?_⟩⟩
  have g3:=(gq.trans gr).trans (z0H np3 (.lst (cs.map V.int++[V.int (ns.getD (1:Int).toNat 0)])))
  exact⟨g3,by rw[z0F,List.map_append];rfl,by simp,by simp;omega⟩
 rintro σ H8 ⟨D,cs,rfl,g8,hD,cne,cl⟩
 have h8:=mS h7 g8
 have htb8:=g8 _ _ htb7
 have tbs8:=tbs7.same g8
 clear h7 htb7 tbs7 g8
 walk_at "wpd"
 obtain⟨Gp,hGp⟩:∃Gp:Pap->Prop,Gp=fun p=>POk p/\Ful p/\p.dep<=13/\p.kn<64:=⟨_,rfl⟩
 have lsh:(shs ws us).length<=100:=by
  rw[z2Q]
  exact Nat.le_trans (Nat.mul_le_mul lw3 lu3) (by decide)
 refine⟨fun σ H'=>∃D2 v p,σ=[some (.ref a),some (.int wh),some (.ref A1),some (.ref B1),some (.ref d),some (.ref tb),some (.str (tx z)),some (.ref D),some (.ref D2),none,none]/\Same H8 H'/\H8 D2=none/\H' D2=some (.lst [v])/\PapIn K (fun l=>l≠D2) H' v p/\Gp p,?_,?_⟩
 ·walk_at "wpd"
  refine⟨tb,D,zs,shs ws us,wh,1,0,cs,rfl,htb8,tbs8,lsh,by omega,w1,by decide,by omega,by show wh<1*2^5;omega,hD,cne,by omega,fun v p H9 g9 hp dp ok ful kn=>fun D2 nD2=>?_⟩
  have gn:=z0H nD2 (.lst [v])
  refine⟨D2,v,p,rfl,g9.trans gn,?_,z0F,((z5g nD2 hp).imp fun l hl=>hl.2).mono gn,?_⟩
  ·cases e:H8 D2 with
   | none=>rfl
   | some o=>
    rw[g9 _ _ e] at nD2
    cases nD2
  ·rw[hGp]
   exact⟨ok,ful,by omega,by omega⟩
 rintro σ H9 ⟨D2,v1,p1,rfl,g9,nD2,hD2,hp1,gp1⟩
 have h9:=mS h8 g9
 have htb9:=g9 _ _ htb8
 have tbs9:=tbs8.same g9
 walk_at "wpd"
 refine⟨fun σ H'=>∃vs ps,σ=[some (.ref a),some (.int wh),some (.ref A1),some (.ref B1),some (.ref d),some (.ref tb),some (.str (tx z)),some (.ref D),some (.ref D2),none,none]/\Same H8 H'/\H' D2=some (.lst vs)/\PapsIn K anyL H' vs ps/\(∀p∈ps,Gp p),?_,?_⟩
 ·walk_at "wpd"
  have e100:(100:Int)<10^100:=by decide +kernel
  have n1:lonL.length=10:=by decide +kernel
  have n2:suL.length=12:=by decide +kernel
  have n3:bbL.length=4:=by decide +kernel
  have zl:z.length<=100000:=by
   rcases hz with⟨i,e,rfl⟩|⟨_,p,M,_,_,dk,ok,kp,_,rfl⟩
   ·have ls:=y1g hw dw du (show 1<=wh by omega)
    have ib:0<=i/\i<100:=by
     rcases z4W (ws:=shs ws us) (n:=(lcms ((shs ws us).map (·.1))).toNat) with⟨j,e2,h2⟩|⟨e2,_⟩
     ·rw[e] at e2
      cases e2
      omega
     ·rw[e] at e2
      cases e2
    have:=(dgOk (n:=i) ib.1 (by omega)).len
    rw[List.length_append]
    omega
   ·have l1:=dk.len
    have l2:=z3A p ok
    simp only [List.length_append]
    omega
  refine⟨_,_,_,true,rfl,.str _,rfl,true,rfl,fun _=>⟨_,rfl,by rw[z0V,sizeLine_eq];omega,?_⟩,fun c=>absurd rfl c⟩
  have e12:Txt.slice (tx z) none (some 12)=tx (z.take 12):=y3F z 12
  rw[e12,show Str.ofString "sure within " = tx suL from (z1c _).symm,show Str.ofString " by " = tx bbL from (z1c _).symm]
  refine eqT ⟨_,rfl,fun c=>?_,fun _=>⟨[v1],[p1],g9,hD2,.cons hp1.any .nil,fun p hp=>by rw[List.mem_singleton.mp hp];exact gp1⟩⟩
  have c:=of_decide_eq_true c
  rcases hz with⟨i,e,rfl⟩|⟨_,p,M,po,_,dk,ok,kp,dp,rfl⟩
  ·exfalso
   have a1:((lonL++dg i).take 12)[0]?=some 108:=by
    rw[List.getElem?_take_of_lt (by decide),List.getElem?_append_left (by omega)]
    decide +kernel
   have a2:suL[0]?=some 115:=by decide +kernel
   rw[c,a2] at a1
   cases a1
  ·have l1:=dk.len
   have l2:=z3A p ok
   refine⟨.inl ⟨rfl,_,SqL.of hD2⟩,_,rfl,by rw[z0V,sizeLine_eq];omega,?_⟩
   have e13:Txt.slice (tx (suL++dg M++bbL++ptx p)) (some 12) none=tx (dg M++bbL++ptx p):=by
    have:=z6Z (l:=suL++dg M++bbL++ptx p) (i:=12) (by simp only [List.length_append];omega)
    have e2:(suL++dg M++bbL++ptx p).drop 12=dg M++bbL++ptx p:=by
     rw[List.append_assoc,List.append_assoc,←n2,List.drop_left,List.append_assoc]
    rw[e2] at this
    exact this
   rw[e13]
   refine⟨rfl,_,_,rfl,rfl,by rw[z0V,n3];rfl,by rw[z0V];simp only [List.length_append] at zl ⊢;omega,fun D3 nD3=>?_⟩
   rw[y7J fun x hx e=>by have:=dk.all x hx;omega]
   have g3:=z0H nD3 (.tup [V.str (Txt.partition (tx (dg M++bbL++ptx p)) (tx bbL)).1,V.str (Txt.partition (tx (dg M++bbL++ptx p)) (tx bbL)).2.1,V.str (tx (ptx p))])
   refine⟨_,_,_,.str (tx (ptx p)),rfl,rfl,SqT.of z0F,rfl,?_⟩
   refine⟨p,rfl,ok,by omega,by omega,fun v H' g hv=>?_⟩
   have hD3:=g3 _ _ hD2
   have hD':=g _ _ hD3
   have G:=g3.trans g
   refine⟨D2,[v1],v,rfl,rfl,hD',by rw[sizeLine_eq];show 1<_;decide,[v1,v],[p1,p],(g9.trans G).write nD2 _,z0F,?_,fun p' hp'=>?_⟩
   ·refine (PapsIn.write hD' (N:=fun l=>l≠D2) (fun l h=>h) (.cons (hp1.mono G) (.cons (hv.imp fun l hl e=>?_) .nil))).imp fun _ _=>trivial
    rw[e,hD3] at hl
    cases hl
   ·simp only [List.mem_cons,List.not_mem_nil,or_false] at hp'
    rcases hp' with rfl|rfl
    ·exact gp1
    ·rw[hGp]
     exact⟨ok,po.ful,dp,kp⟩
 rintro σ H10 ⟨vs,ps,rfl,g10,hD10,hps,gps⟩
 have h10:=mS h8 g10
 have htb10:=g10 _ _ htb8
 have tbs10:=tbs8.same g10
 clear h8 h9 htb8 htb9 tbs8 tbs9 g10 g9
 walk_at "wpd"
 refine⟨fun σ H'=>∃o1 o2,σ=[some (.ref a),some (.int wh),some (.ref A1),some (.ref B1),some (.ref d),some (.ref tb),some (.str (tx z)),some (.ref D),some (.ref D2),o1,o2]/\Same H10 H',?_,?_⟩
 ·walk_at "wpd"
  obtain⟨W,hW⟩:∃W:Nat->St->Hp->Prop,W=fun i σ H'=>∃o1 o2,σ=[some (.ref a),some (.int wh),some (.ref A1),some (.ref B1),some (.ref d),some (.ref tb),some (.str (tx z)),some (.ref D),some (.ref D2),o1,o2]/\Same H10 H':=⟨_,rfl⟩
  refine⟨⟨_,SqL.of hD10⟩,z1R (xs:=vs) W ?_ (fun i σ H' _ zz=>?_) (fun i x σ H' hx zz=>?_) (fun σ H' zz=>?_)⟩
  ·rw[hW]
   exact⟨none,none,rfl,Same.refl _⟩
  ·rw[hW] at zz
   refine L2.put_away fun G'5671 h'5671=>?_
   obtain⟨_,_,_,g⟩:=zz
   refine h'5671 ?_
   exact SqL.of (g _ _ hD10)
  ·rw[hW] at zz
   refine L2.put_away fun G'5674 h'5674=>?_
   obtain⟨o1,o2,rfl,g⟩:=zz
   refine h'5674 ?_
   refine L2.put_away fun G'5675 h'5675=>?_
   obtain⟨p,e1,hp⟩:=hps.at hx
   refine h'5675 ?_
   have gp:=gps p (List.mem_of_getElem? e1)
   rw[hGp] at gp
   refine L2.put_away fun G'5678 h'5678=>?_
   obtain⟨ok,ful,dp,kp⟩:=gp
   refine h'5678 ?_
   have chk:∀ {H2:Hp} {v:V} {p:Pap} {R:VK},Same H10 H2->PapIn K anyL H2 v p->POk p->p.dep<=13->p.kn<64->(∀H',Same H2 H'->R (.bl true) H')->z9x K C [V.ref d,V.ref tb,V.int wh,V.ref A1,V.ref B1,v] H2 R E0:=fun {H2 v p R} g2 hv ok dp kp hq=>by
    have h:=mS h10 g2
    rw[hM] at h
    refine L2.put_away fun G'5682 h'5682=>?_
    obtain⟨hk,gA,gB,_⟩:=h
    refine h'5682 ?_
    rw[hGd] at gA gB
    exact⟨d,pd,tb,A1,B1,v,2,L,zs,xs,ys,ws,us,wh,p,rfl,hk,by decide,LA,LB,sm,g2 _ _ htb10,tbs10.same g2,gA.1,gA.2.1,gB.1,gB.2.1,hv,ok,dp,kp,hq⟩
   walk_at "wpd"
   refine chk g (hp.mono g) ok dp kp fun H2 g2=>⟨_,rfl,(fun c=>nomatch c),fun _=>?_⟩
   have G:=g.trans g2
   have hS2:SqL K H2 a (ns.map V.int):=by
    have h:=mS h10 G
    rw[hM] at h
    exact h.2.2.2
   refine⟨a,ns,2,rfl,hS2,by decide,⟨by decide,by decide,by decide⟩,_,_,rfl,rfl,by show (0:Int)<10^Int.toNat 40;decide,?_⟩
   refine⟨anyL,x,_,p,rfl,hp.mono G,by omega,ok,ful,by omega,fun v' p' H3 g3 hv' d' ok' kn'=>?_⟩
   refine chk (G.trans g3) hv'.any ok' (by omega) (by omega) fun H4 g4=>⟨_,rfl,(fun c=>nomatch c),fun _=>?_⟩
   rw[hW]
   exact⟨_,_,rfl,(G.trans g3).trans g4⟩
  ·rw[hW] at zz
   exact zz
 rintro σ H11 ⟨o1,o2,rfl,g11⟩
 walk_at "wpd"
 refine sure (mS h10 g11) fun z2 H12 _ hz2=>eqT ?_
 rw[decide_eq_true (hz2.uniq hz)]
 exact q _
theorem fin {fa:Addr} {h:Heap} (KX:K.In h) (G:h.Ns mainGlobals mg) (hfa:mg "law" = some (.ref fa)) (T_divisor:TF K mg "divisor" z5U) (T_least_round:TF K mg "least_round" z2Z) (T_least_part:TF K mg "least_part" z2y) (T_lies_in:TF K mg "lies_in" z5Q) (T_right_for:TF K mg "right_for" z3Z) (T_part_of_part:TF K mg "part_of_part" z2J) (T_lets_by:TF K mg "lets_by" z5R) (T_lets_meet:TF K mg "lets_meet" z3b) (T_awake:TF K mg "awake" y0G) (T_plan_round:TF K mg "plan_round" z2v) (T_hole:TF K mg "hole" y3K) (T_cover_paper:TF K mg "cover_paper" z2e) (T_paper_of_part:TF K mg "paper_of_part" z1u) (T_meets:TF K mg "meets" y0F) (T_parting:TF K mg "parting" z5O) (T_shifts_of_two:TF K mg "shifts_of_two" z1t) (T_shifts:TF K mg "shifts" z7T) (T_lonely_shift:TF K mg "lonely_shift" z2K) (T_meeting_paper:TF K mg "meeting_paper" z1v) (T_paper_names:TF K mg "paper_names" z2Y) (T_pair_of:TF K mg "pair_of" z5P) (T_pair_round:TF K mg "pair_round" z2x) (T_paper_wait:TF K mg "paper_wait" z2w) (T_plan_of:TF K mg "plan_of" z5N) (T_is_waking:TF K mg "is_waking" z3i) (T_read_plan:TF K mg "read_plan" z3a) (T_read_waking:TF K mg "read_waking" z2W) (T_read_number:TF K mg "read_number" z2X) (T_is_figures:TF K mg "is_figures" z2z) (T_shown_paper:TF K mg "shown_paper" z2V) (T_read_paper:TF K mg "read_paper" z2u) (T_words_of:TF K mg "words_of" z4M) (T_fits:TF K mg "fits" y3L) (T_is_name:TF K mg "is_name" z5T) (T_is_turn:TF K mg "is_turn" z5S) (T_told_plan:TF K mg "told_plan" z3Y) (T_sure_answer:TF K mg "sure_answer" z2U) (T_check_answer:TF K mg "check_answer" z2L) (T_law_cell_at:TF K mg "_law_cell_at" z2d) (T_law_plan:TF K mg "_law_plan" z4P) (T_law_text:TF K mg "_law_text" z4O) (T_law_awake:TF K mg "_law_awake" z3h) (T_law_both:TF K mg "_law_both" z4Q) (T_law_meets:TF K mg "_law_meets" z3f) (T_law_divisor:TF K mg "_law_divisor" z2a) (T_law_pairs:TF K mg "_law_pairs" z3d) (T_law_right:TF K mg "_law_right" z3c) (T_law_wait:TF K mg "_law_wait" z4N) (T_law_named:TF K mg "_law_named" z3e) (T_law_grown:TF K mg "_law_grown" z3g) (T_law_changed:TF K mg "_law_changed" z2c) (T_law_checked:TF K mg "_law_checked" z2b) (T_law:TF K mg "law" s_law) (m_len:mg "len" = none) (m_min:mg "min" = none) (m_max:mg "max" = none) (m_all:mg "all" = none) (m_any:mg "any" = none) (m_zip:mg "zip" = none) (m_int:mg "int" = none) (m_str:mg "str" = none) (m_list:mg "list" = none) (m_tuple:mg "tuple" = none) (m_range:mg "range" = none) (m_isinstance:mg "isinstance" = none) (m_enumerate:mg "enumerate" = none) (m_set:mg "set" = none) (m_sorted:mg "sorted" = none) (D_FORMS:CDT P w K mg "FORMS" z6D) (c_MOST_FIGURES:CI mg "MOST_FIGURES" 100) (c_MOST_WAKINGS:CI mg "MOST_WAKINGS" 12) (c_MOST_DEPTH:CI mg "MOST_DEPTH" 40) (c_MOST_LETTERS:CI mg "MOST_LETTERS" 8) (c_PRIME_FIGURES:CI mg "PRIME_FIGURES" 12) (c_GRID_FIGURES:CI mg "GRID_FIGURES" 50) (c_LONGEST_ROUND:CI mg "LONGEST_ROUND" 5000) (c_FIGURES:CS mg "FIGURES" "0123456789") (c_LETTERS:CS mg "LETTERS" "abcdefghijklmnopqrstuvwxyz") (C_ALL_TURNS:CT K mg "ALL_TURNS" [1,0]) {c_MeetError c_NoPaper c_NoName c_NoRow:Addr} (O_MeetError:OX K mg "MeetError" c_MeetError VE) (O_NoPaper:OX K mg "NoPaper" c_NoPaper (.ref c_MeetError::VE)) (O_NoName:OX K mg "NoName" c_NoName (.ref c_MeetError::VE)) (O_NoRow:OX K mg "NoRow" c_NoRow (.ref c_MeetError::VE)) (ndE:[c_MeetError,c_NoPaper,c_NoName,c_NoRow].Nodup) {C_Desk:Addr} (cl_Desk:Cls K C_Desk) (na_Desk_plans:NoAttr K C_Desk "plans") (mk_Desk:PySem.W.makesIn K C_Desk=true) (kc_Desk:PySem.W.keepIn K (.ref C_Desk)=true) (mg_Desk:mg "Desk" = some (.ref C_Desk)) (T_Desk___init__:TM K C_Desk "__init__" "Desk.__init__" z1w) (T_Desk_told:TM K C_Desk "told" "Desk.told" z3j) (T_Desk_plan_by:TM K C_Desk "plan_by" "Desk.plan_by" z2M) {C_PaperReader:Addr} (cl_PaperReader:Cls K C_PaperReader) (na_PaperReader_text:NoAttr K C_PaperReader "text") (na_PaperReader_place:NoAttr K C_PaperReader "place") (mk_PaperReader:PySem.W.makesIn K C_PaperReader=true) (kc_PaperReader:PySem.W.keepIn K (.ref C_PaperReader)=true) (mg_PaperReader:mg "PaperReader" = some (.ref C_PaperReader)) (T_PaperReader___init__:TM K C_PaperReader "__init__" "PaperReader.__init__" z0u) (T_PaperReader_passes:TM K C_PaperReader "passes" "PaperReader.passes" z1E) (T_PaperReader_needs:TM K C_PaperReader "needs" "PaperReader.needs" z1K) (T_PaperReader_next_number:TM K C_PaperReader "next_number" "PaperReader.next_number" z0p) (T_PaperReader_next_papers:TM K C_PaperReader "next_papers" "PaperReader.next_papers" z0c) (T_PaperReader_next_paper:TM K C_PaperReader "next_paper" "PaperReader.next_paper" z0Z) :
  ∃fd:FuncData,(∀(s:Shared) (v:Value),BindsTo s fd ⟨[v],[]⟩ [("script",v)])/\∀base:Heap,K.In base->base.Ns mainGlobals mg->FnOk P w K mg base CX0 90 fa fd ["script"] (sp_law K):=
 y7S KX G hfa fun _ _ _=>
  have X:DkTx K C_Desk:=⟨cl_Desk,na_Desk_plans⟩
  have XR:RdTx K C_PaperReader:=⟨cl_PaperReader,na_PaperReader_text,na_PaperReader_place⟩
  have ca:=z7z T_law_cell_at m_len
  have fgM:=z8A T_is_figures m_len m_all c_FIGURES
  have rn:=z6I T_read_number m_int c_MOST_FIGURES fgM
  have rp:=y0e T_read_plan m_len c_MOST_WAKINGS (z7q T_read_waking m_len m_tuple rn) (y4H T_plan_of m_list (y0n T_is_waking))
  have ps:=y5w XR T_PaperReader_passes m_len
  have ne:=y7U cl_PaperReader T_PaperReader_needs ps
  have nn:=z7u XR T_PaperReader_next_number m_len c_FIGURES rn
  have np:=z6q cl_PaperReader T_PaperReader_next_paper T_PaperReader_next_papers c_MOST_DEPTH ps ne nn 41
  have rpa:=z9I XR cl_PaperReader mk_PaperReader kc_PaperReader mg_PaperReader T_read_paper m_len (y7T XR T_PaperReader___init__) np
  have sp:=z7p T_shown_paper 14
  have dv:=y4P T_divisor
  have sh:=y5v T_shifts (z5r T_shifts_of_two m_min dv)
  have li:=y4L T_lies_in dv
  have po:=z6J T_part_of_part
  have lr:=z7v T_least_round dv
  have ho:=y8T T_hole m_range c_LONGEST_ROUND (z9J T_plan_round lr) (y7X T_awake)
  have co:=z8B T_cover_paper m_len m_range m_list C_ALL_TURNS ho (z5s T_paper_of_part m_range (y7V T_meets dv) li (y4J T_parting dv (z9M T_least_part)) po 13)
  have lm:=y0g T_lets_meet sh (y4M T_lets_by C_ALL_TURNS (y0d T_right_for m_len m_enumerate li po 14))
  have pr:=z9K T_pair_round (y4K T_pair_of m_len) lr
  have pw:=z7r T_paper_wait m_max m_set m_sorted O_NoPaper lm (z7s T_paper_names 14) pr
  have sa:=z7o T_sure_answer (z5t T_meeting_paper sh co) (z6K T_lonely_shift sh ho) (y2Q pw fun _ _ _ _ z=>.inl z) sp
  have wo:=y2R T_words_of m_len m_zip m_isinstance m_str O_NoRow D_FORMS (y8U T_fits c_PRIME_FIGURES c_GRID_FIGURES fgM (y4O T_is_name m_len m_all c_LETTERS c_MOST_LETTERS) (y4N T_is_turn c_MOST_FIGURES fgM))
  have tdX:=y5u X cl_Desk T_Desk_told m_int wo (y0c T_told_plan rp) (y4I X T_Desk_plan_by O_NoName) rpa sa (z6L T_check_answer O_NoPaper (y8S pw))
  have td:=y0b tdX fun _ _ _ _ q=>q
  have ld:=z7w T_law_divisor
  have pa:=y0i T_law_pairs (y0k T_law_meets m_range m_any (y2V T_law_both (y0m T_law_awake m_any)))
  have ch:=z7x cl_Desk T_law_checked m_str m_isinstance td sp (y0h T_law_right m_len m_range m_all ld 14) (y2S T_law_wait m_len m_max ld 14)
  h_law cl_Desk mk_Desk kc_Desk mg_Desk T_law m_str m_isinstance (y7W X T_Desk___init__) td ca (y2U T_law_plan m_len m_range ca) (y2T T_law_text m_str) pa (y0l T_law_grown m_len m_range (y0j T_law_named m_len m_range m_all ld) 5) rpa ch (z7y T_law_changed m_len m_list 14)
end
end SMk93
local macro_rules | `(tactic| walk_at "cdt_one")=>`(tactic| (refine' L2.CPairs.cons ?kk ?hh ?vv ?ll ?cc ?dd ?zz ?ww ?rr;(case kk=>rfl);(case vv=>rfl);(case ll=>k_is);(case cc=>rfl);(case dd=>rfl);(case zz=>decide);(case hh=>rfl);(case ww=>repeat (first|exact Paired.nil|refine Paired.cons ⟨_,rfl⟩ ?_))))
local macro_rules | `(tactic| walk_at "cdt_all")=>`(tactic| (walk_at "cdt_one";walk_at "cdt_one";walk_at "cdt_one";walk_at "cdt_one";walk_at "cdt_one";walk_at "cdt_one";walk_at "cdt_one";walk_at "cdt_one";exact L2.CPairs.nil))
namespace PySem.W.Fast
def tw10019668413886326105:=0
def tw10044250149729829954:=0
def tw10058528139049510614:=0
def tw10087712418207278433:=0
def tw10135245304212810317:=0
def tw1020019431403945159:=0
def tw10209565244587084227:=0
def tw10219092063161909795:=0
def tw10227008885626952325:=0
def tw10229202331448151905:=0
def tw10261951957235730135:=0
def tw10305386423806663164:=0
def tw10336339191132475118:=0
def tw10353005744769724431:=0
def tw10413139032718073980:=0
def tw10441911212847494990:=0
def tw10449813977768992045:=0
def tw10481538412376058401:=0
def tw10514885041139226199:=0
def tw1053215349611723031:=0
def tw10542134302991188372:=0
def tw10557378675209240488:=0
def tw10609178688672235041:=0
def tw1061166442731909394:=0
def tw10632975306363635528:=0
def tw10644811909893352699:=0
def tw10663083334727690774:=0
def tw10665942539633903956:=0
def tw1067144897660386437:=0
def tw10695407058128955893:=0
def tw10739751176122625940:=0
def tw10770169790791673957:=0
def tw10808100393460786544:=0
def tw10852394712283342206:=0
def tw10874033464738680190:=0
def tw1090791689280330510:=0
def tw10922989097190347812:=0
def tw10957896094962153802:=0
def tw11023478516839653641:=0
def tw11027345037729476025:=0
def tw11051830644228920620:=0
def tw11073190183603464035:=0
def tw11077073321775325598:=0
def tw11082514876214147936:=0
def tw11139065064306877934:=0
def tw11200994982477251105:=0
def tw11254107146055316089:=0
def tw11317173025073695995:=0
def tw11319661598185974887:=0
def tw11330177878692569436:=0
def tw11354386622379719589:=0
def tw1137339602772806726:=0
def tw11400643280550172890:=0
def tw11461347989091893527:=0
def tw11475433395713006064:=0
def tw1147740565289228677:=0
def tw11482299997200572593:=0
def tw11488700296463462968:=0
def tw1153956524434285893:=0
def tw1154576589892390928:=0
def tw11552641344300553093:=0
def tw11580331077025469952:=0
def tw11584215659957591569:=0
def tw11621585844969681665:=0
def tw11671088031446436580:=0
def tw11725114349894243531:=0
def tw11747659661376519125:=0
def tw11798838378111354198:=0
def tw11812653295326342801:=0
def tw11814678142557895108:=0
def tw11814879352608286156:=0
def tw11839244249843110040:=0
def tw11861030903089889568:=0
def tw11862018074366966151:=0
def tw11867077984535935575:=0
def tw11878511927194466585:=0
def tw11888369243276150282:=0
def tw11904115280882217881:=0
def tw11906553743696944949:=0
def tw11930546311138834224:=0
def tw11966112193956075610:=0
def tw11974310524932634078:=0
def tw11989472197259026379:=0
def tw12043206241796509151:=0
def tw12043492867743776517:=0
def tw12049527012381245098:=0
def tw12055332819557513574:=0
def tw12065002900911136865:=0
def tw12077404056978913037:=0
def tw12133664977844026418:=0
def tw1214180931646425394:=0
def tw12147235381297558067:=0
def tw12157529618652867470:=0
def tw12175268485260371326:=0
def tw12180589596047232813:=0
def tw12189233754338619123:=0
def tw12220226673128476128:=0
def tw1224008852639117608:=0
def tw12272018457741346149:=0
def tw12280797458823215185:=0
def tw12298701397033676026:=0
def tw1230971447511697070:=0
def tw12322767810620771993:=0
def tw12361780470039950482:=0
def tw12362681675680017646:=0
def tw12386034142415574880:=0
def tw12406879173174268387:=0
def tw12518758082509221993:=0
def tw12535480304818527891:=0
def tw12603965438973624959:=0
def tw12617389984035417923:=0
def tw12628445941135459201:=0
def tw12632643554424034684:=0
def tw12672901656430858700:=0
def tw12709073848644176543:=0
def tw12762134932423130887:=0
def tw12779952585619068875:=0
def tw12784119484857265566:=0
def tw12803162158489362579:=0
def tw12821534979758499999:=0
def tw12847136374408529598:=0
def tw12861005299661111961:=0
def tw12867415963936350860:=0
def tw12872870781574053066:=0
def tw12891907763359789167:=0
def tw1290799691564870090:=0
def tw12918526039143613927:=0
def tw12923500529871136891:=0
def tw12964226892713982267:=0
def tw12971855988237992538:=0
def tw1297806830130022424:=0
def tw12995119719695415261:=0
def tw1299633453011511126:=0
def tw13057778765752586366:=0
def tw1311457231908622113:=0
def tw13168555660111345750:=0
def tw13195819802367786079:=0
def tw13199850974770321933:=0
def tw13221054859549709406:=0
def tw1323332194790467017:=0
def tw13236740159739050435:=0
def tw13248536481940322092:=0
def tw13251356319401964147:=0
def tw13271269265645787383:=0
def tw13324827415922530700:=0
def tw13339650429634726581:=0
def tw13376955201711662965:=0
def tw13401981191197494399:=0
def tw1340959182110350787:=0
def tw13481772941447271652:=0
def tw13491916386731500140:=0
def tw13536663723623403190:=0
def tw13568366059090526555:=0
def tw13635807844285899125:=0
def tw13637570439282722142:=0
def tw13645372659814391189:=0
def tw13651967915464203317:=0
def tw1366607633629432615:=0
def tw13666226606251813854:=0
def tw13673940032660590869:=0
def tw13684862044882140378:=0
def tw13684917929526021903:=0
def tw13689899170039241930:=0
def tw1371343822096849104:=0
def tw13753097491927372452:=0
def tw13754612480364956842:=0
def tw13805541767250164843:=0
def tw13867051385708293149:=0
def tw13907848371395154974:=0
def tw14043882856811234650:=0
def tw14061849979018097280:=0
def tw14082081077073366016:=0
def tw14130933310872426278:=0
def tw14139438387395580168:=0
def tw14153619458107655058:=0
def tw14168431852150108727:=0
def tw14177275684328654379:=0
def tw14182811102219005585:=0
def tw14207019956475126086:=0
def tw14230996955847600827:=0
def tw14271599382493266441:=0
def tw14289000740056990774:=0
def tw14292309750591976567:=0
def tw1430930096086227678:=0
def tw14329529360250475189:=0
def tw1433397200954846575:=0
def tw14349484821532843126:=0
def tw14374829147735146273:=0
def tw14430098669110053851:=0
def tw14464976459013200190:=0
def tw14483251957278031957:=0
def tw14487512209696318211:=0
def tw14508471265645708144:=0
def tw1451383784454983902:=0
def tw14522562390628588620:=0
def tw14529445109107063330:=0
def tw14530138810539613303:=0
def tw14567311442523039446:=0
def tw14576826566747005990:=0
def tw14586646868375466608:=0
def tw14596230514495027724:=0
def tw14653489796105433419:=0
def tw14670182452195558929:=0
def tw14687110681044009942:=0
def tw14708283151006914854:=0
def tw14727076700661239990:=0
def tw14785022905997179888:=0
def tw14788978975754162342:=0
def tw14792859607618645567:=0
def tw14792912864230120119:=0
def tw14832689140302297697:=0
def tw1485313410400336863:=0
def tw14857923704504700090:=0
def tw14864804479607582036:=0
def tw14884671388572926797:=0
def tw14890800778854499023:=0
def tw14935902514732545637:=0
def tw14937116713834804453:=0
def tw14949824492293049358:=0
def tw15000677783641513171:=0
def tw15031722682910043417:=0
def tw15050790240198868267:=0
def tw15057927657018694137:=0
def tw15110205590840649306:=0
def tw1511182288021190983:=0
def tw15147835003948442819:=0
def tw15153788627143425619:=0
def tw15154048551131536115:=0
def tw15195930449128140473:=0
def tw1521938016214917263:=0
def tw15219430557355061334:=0
def tw15225712248602065880:=0
def tw15239387562796312659:=0
def tw15281462818279061409:=0
def tw15282560705989107135:=0
def tw15290273292782221012:=0
def tw15295305957218617820:=0
def tw15312465283707825112:=0
def tw15379919254526714731:=0
def tw1539435872672573583:=0
def tw154622241386384407:=0
def tw15463765706468191099:=0
def tw15467373031256110810:=0
def tw15560660189770718629:=0
def tw15568458864661773676:=0
def tw15636371832553803473:=0
def tw156418347379423724:=0
def tw15651166269979375779:=0
def tw1572478487041287335:=0
def tw15844006489811249644:=0
def tw15887642642485010046:=0
def tw15916131140379890989:=0
def tw15980752353290577583:=0
def tw15997735710049895544:=0
def tw15998626139051255428:=0
def tw16036218789930175802:=0
def tw16056147668403943370:=0
def tw16079895647863950471:=0
def tw16105704981955950623:=0
def tw1613727716370208185:=0
def tw16137440822656471829:=0
def tw16158344743973096924:=0
def tw16178745127124841083:=0
def tw16205006467051760499:=0
def tw16245937787527891747:=0
def tw16249219296541333334:=0
def tw16267332644017344482:=0
def tw16282371236222789623:=0
def tw16289304509541071955:=0
def tw16304371977362370962:=0
def tw1630534743538962159:=0
def tw16326868581710261494:=0
def tw16365720437406941890:=0
def tw16392831965774863452:=0
def tw16396916525073958909:=0
def tw16450294769513217884:=0
def tw16450605502635273777:=0
def tw16498872576865441416:=0
def tw16547452786616760452:=0
def tw16643470995672038876:=0
def tw16659772362626357791:=0
def tw16710570321127041565:=0
def tw16722480805301999506:=0
def tw16722670914282237890:=0
def tw16744216171345088202:=0
def tw16759763022645951560:=0
def tw16788922034993628379:=0
def tw1680322778278307620:=0
def tw16825968531146922058:=0
def tw16856615135796997907:=0
def tw1694235900908900187:=0
def tw1697109668621858727:=0
def tw16972441203068059985:=0
def tw16973594739472108979:=0
def tw17064590245878705761:=0
def tw17065603358795945096:=0
def tw17080486111578562770:=0
def tw17094295241460459232:=0
def tw17101268105626824060:=0
def tw17101914885097700376:=0
def tw17114303464754725613:=0
def tw17120558600576026771:=0
def tw17126042878051329121:=0
def tw17148416407141282970:=0
def tw17165160755536158798:=0
def tw17177148738731899795:=0
def tw17236598837717631568:=0
def tw17250640494087305535:=0
def tw17262504483434815538:=0
def tw17289644644795596364:=0
def tw1729275337446923737:=0
def tw17294377547692348433:=0
def tw17297630630351419778:=0
def tw17298423518852671133:=0
def tw1732105298561649324:=0
def tw17328894148705186185:=0
def tw17366113523084364202:=0
def tw17380223109339094567:=0
def tw17439107605197211036:=0
def tw17494005172415010243:=0
def tw17518791403733591920:=0
def tw17520655493337781762:=0
def tw17570053652303498158:=0
def tw17597410076499300885:=0
def tw17599236020422579461:=0
def tw17626439233181766274:=0
def tw1763882325690160790:=0
def tw17639688684012051415:=0
def tw17648682867350618217:=0
def tw17722882487002527007:=0
def tw17733281873799484425:=0
def tw17736950369480268280:=0
def tw17783062267868986861:=0
def tw17833559634841067404:=0
def tw17834812119001937374:=0
def tw17861688490740944335:=0
def tw17880493701377862289:=0
def tw1789583184219051938:=0
def tw1789694231475289049:=0
def tw1793340938703597658:=0
def tw17982326330933183110:=0
def tw17989998569151477208:=0
def tw18001011525912593766:=0
def tw180153849378293901:=0
def tw18018881844974578632:=0
def tw18057842490656237533:=0
def tw1814535713758036253:=0
def tw18155810977547583853:=0
def tw18163302514247206166:=0
def tw18225227196770659394:=0
def tw18258656175530219015:=0
def tw18274522730814746225:=0
def tw18295677707814908801:=0
def tw18319997877646948241:=0
def tw18337253604626152079:=0
def tw18339802961439672801:=0
def tw18349670443030795303:=0
def tw183644604099699405:=0
def tw18393510583782204150:=0
def tw18438979105385951280:=0
def tw1846493912024459469:=0
def tw1859207455468281804:=0
def tw1875313279404850387:=0
def tw1882943043347978027:=0
def tw1887783270600477907:=0
def tw1891629649829197315:=0
def tw1905839894338106544:=0
def tw1911768123553516914:=0
def tw1924519087376161482:=0
def tw1935815048561492912:=0
def tw1974826816771778320:=0
def tw2010776985760285600:=0
def tw2025296546622359110:=0
def tw2036576476084816437:=0
def tw2087294957792134496:=0
def tw2104773525057332444:=0
def tw2131684710169922299:=0
def tw2139736274513560731:=0
def tw2227726998637040488:=0
def tw2243289279603619559:=0
def tw22767625140558385:=0
def tw2303343845679081832:=0
def tw2325608927037878727:=0
def tw2354645319517992921:=0
def tw2402201760971737051:=0
def tw2427147348993176216:=0
def tw2463559725311792776:=0
def tw2495821681876454822:=0
def tw2529862462122575022:=0
def tw2531537680813995984:=0
def tw2535326187463561160:=0
def tw2542664714944650056:=0
def tw254950078496428235:=0
def tw2571359563095300761:=0
def tw2579299349559552943:=0
def tw2590175977527241395:=0
def tw2620736902529291389:=0
def tw2646244259716564771:=0
def tw2710894046101573113:=0
def tw2729802005164984387:=0
def tw2746371489534703902:=0
def tw2777503323638900526:=0
def tw279837108613487394:=0
def tw2845259366724046099:=0
def tw2865591442015282538:=0
def tw2892595165927057496:=0
def tw2928399503016872894:=0
def tw2937701000909154193:=0
def tw2995725365761950327:=0
def tw3003418716264722857:=0
def tw3023677039068036760:=0
def tw3044391157827952064:=0
def tw3057257757481516486:=0
def tw3077681619531840582:=0
def tw3102511224227017947:=0
def tw3164424246373298291:=0
def tw3187100364470652838:=0
def tw3203360292121671268:=0
def tw3223175312221510499:=0
def tw3224118909022245861:=0
def tw324767905821650817:=0
def tw3259516357724373799:=0
def tw3283246402315513075:=0
def tw3289477725471957764:=0
def tw3289787471018925804:=0
def tw3291897923760179631:=0
def tw3307205506998076271:=0
def tw3316252017014148080:=0
def tw3339368150477285054:=0
def tw3339728112391406986:=0
def tw3354374725736754032:=0
def tw3380904865443228705:=0
def tw3423991030121533355:=0
def tw342707872385799208:=0
def tw344142039569398142:=0
def tw3457884549133342023:=0
def tw3471550702496688071:=0
def tw3492005813310365573:=0
def tw3507940551104202703:=0
def tw3545821326148556593:=0
def tw3551856122922962713:=0
def tw3558640736140386067:=0
def tw3562609971405431956:=0
def tw356652378229700323:=0
def tw3568551091550527347:=0
def tw3572058360652445179:=0
def tw3591196254158081374:=0
def tw3604788099689762316:=0
def tw3664272790531208608:=0
def tw3696714602254243703:=0
def tw3702195388727616605:=0
def tw3702524570064956737:=0
def tw3704639040366078201:=0
def tw3714722656332283521:=0
def tw3749107908803170541:=0
def tw3756246668989203898:=0
def tw3835415371373025012:=0
def tw3844252566798695157:=0
def tw3846567404581005204:=0
def tw3906592523496292385:=0
def tw3926717991022378531:=0
def tw3931773983121676901:=0
def tw3971387100844433504:=0
def tw3980098104510586491:=0
def tw4000827217971666024:=0
def tw4003858801843347966:=0
def tw4011531984777322677:=0
def tw4013207307801187480:=0
def tw4015958360861636078:=0
def tw4017917529380341206:=0
def tw4050315663968501612:=0
def tw4059797316330957180:=0
def tw4075751699321327280:=0
def tw4082655473806496638:=0
def tw4109667226226936695:=0
def tw4121569171607086208:=0
def tw4142367550463093777:=0
def tw4144284188171750718:=0
def tw4184830523202817988:=0
def tw4190237217709351493:=0
def tw4190882250268039500:=0
def tw4237133291228685849:=0
def tw4251488272929809911:=0
def tw4270391476816015167:=0
def tw4277147307940636940:=0
def tw429181035402252638:=0
def tw4292107269208794160:=0
def tw435592463107764542:=0
def tw4365634369961498899:=0
def tw4369348036516006617:=0
def tw4393568222633437454:=0
def tw4442926220750294065:=0
def tw4463990478151653088:=0
def tw4517408985518226446:=0
def tw4518747017656301729:=0
def tw4562060854646799928:=0
def tw4579968092331753031:=0
def tw4591657002699851442:=0
def tw4601987150464669026:=0
def tw4605772797475452866:=0
def tw4627758091082280182:=0
def tw4633661425670523384:=0
def tw4660140305711899029:=0
def tw4662572543938327544:=0
def tw4674685761622029118:=0
def tw4717755881970787457:=0
def tw476308202911640388:=0
def tw4776190979707496253:=0
def tw4776573866013204599:=0
def tw479323957988932631:=0
def tw4805846743756297462:=0
def tw4815181339431776857:=0
def tw4868543518944259604:=0
def tw4875234401479802281:=0
def tw4890744250193886386:=0
def tw4912755891268253297:=0
def tw4957273678754480580:=0
def tw4974930146995608996:=0
def tw4989525239077977418:=0
def tw5002698996059807103:=0
def tw5014531199451608020:=0
def tw5089789828719275516:=0
def tw5094488869979077625:=0
def tw5127223522336582935:=0
def tw5140858166228359487:=0
def tw5145562810343456201:=0
def tw5167245866291630396:=0
def tw5185899250822529558:=0
def tw524021077266922064:=0
def tw5297484309909424568:=0
def tw5319698198498386016:=0
def tw5346602520684310557:=0
def tw5380681985800571221:=0
def tw539392166876144222:=0
def tw5398768994327227818:=0
def tw5413963124112867991:=0
def tw5415563467363649159:=0
def tw5435962138452261220:=0
def tw5467690383693998400:=0
def tw5489705357225243901:=0
def tw5533419426824719725:=0
def tw5539838501389704304:=0
def tw5552926180828755723:=0
def tw5578738877440011307:=0
def tw5665298897252992649:=0
def tw5675977070588148758:=0
def tw5720226904525504169:=0
def tw5754613622132045748:=0
def tw5765917311569626786:=0
def tw5776521871060217602:=0
def tw5782642881458303889:=0
def tw5843643088162999710:=0
def tw5849934054033673792:=0
def tw5865655327426934780:=0
def tw5871802450215788896:=0
def tw5923110150366775445:=0
def tw5932167258697465094:=0
def tw5935411258817708969:=0
def tw5958778773328538419:=0
def tw5961691205591209791:=0
def tw5977150496429680562:=0
def tw5977789110583626441:=0
def tw5994857467549108702:=0
def tw6000291549655757232:=0
def tw6101978499539719066:=0
def tw6124990136818843003:=0
def tw6163721334374830327:=0
def tw6216661122153111492:=0
def tw6225156600223186291:=0
def tw626243470705387714:=0
def tw6280742680533540687:=0
def tw6313887597247081507:=0
def tw6321353859041838085:=0
def tw6323252051983439935:=0
def tw6357800790396086911:=0
def tw642714951711242753:=0
def tw6486938104829770211:=0
def tw6509884228283830130:=0
def tw6524197102013735720:=0
def tw6563019798192501499:=0
def tw656667527596232636:=0
def tw6603153114557986431:=0
def tw6608796290599143104:=0
def tw6667738645969572779:=0
def tw6712091687382055142:=0
def tw6715103099999300365:=0
def tw6717931188274048363:=0
def tw673619583249776573:=0
def tw6747033697703306510:=0
def tw6762831661204295729:=0
def tw6769211145486198706:=0
def tw6813400158272513330:=0
def tw6816380269409951907:=0
def tw6882533299108237841:=0
def tw6896912718980169461:=0
def tw6913725765771961614:=0
def tw6919202603044369722:=0
def tw6931291007342927340:=0
def tw693472903676296962:=0
def tw6943956866480480134:=0
def tw7020010212931398959:=0
def tw7035177442693874646:=0
def tw7037538227313810637:=0
def tw7073153690409403271:=0
def tw7104526499501188255:=0
def tw7106687298058415599:=0
def tw7127766173364194873:=0
def tw7132202331343237361:=0
def tw7160752407060186528:=0
def tw7230711124387698146:=0
def tw7240146534375590757:=0
def tw7243669425554254437:=0
def tw7254824490403120684:=0
def tw7286852572453419275:=0
def tw7310475924528450803:=0
def tw7328042907776663050:=0
def tw7383605232057315114:=0
def tw740568429918440069:=0
def tw7435222108156541572:=0
def tw7457786147423160493:=0
def tw7478691042543737151:=0
def tw7562989804498712780:=0
def tw760431195368924271:=0
def tw7625057692502987802:=0
def tw7673635732049860994:=0
def tw7684038780361257346:=0
def tw7699624042128598730:=0
def tw7705826635332683719:=0
def tw7764409340125691199:=0
def tw7794746598965259565:=0
def tw7801631400968573812:=0
def tw7869230547259651006:=0
def tw787813717256240319:=0
def tw7881223660441460500:=0
def tw7883539292849576803:=0
def tw7898776994642640502:=0
def tw792900750247258410:=0
def tw7935541755854584774:=0
def tw7956582439548389358:=0
def tw7960092234060739956:=0
def tw7961474520969255973:=0
def tw7965646379590914384:=0
def tw7968408576825504163:=0
def tw7990008865324307032:=0
def tw7991892899663710839:=0
def tw8049674620644835187:=0
def tw8062916294761496323:=0
def tw8065124150214835760:=0
def tw807915553613884977:=0
def tw8102146834604140457:=0
def tw8129098510330897861:=0
def tw8147312767271270587:=0
def tw8167449739729032757:=0
def tw8211218450187948848:=0
def tw8238935266701041881:=0
def tw82492593788509798:=0
def tw826890364882817266:=0
def tw8270381042348705565:=0
def tw8271616493435038369:=0
def tw8280074650010566744:=0
def tw8284494769054194926:=0
def tw8318901291002698261:=0
def tw8374415564482513041:=0
def tw8383666024513055626:=0
def tw8413521473466263023:=0
def tw8417240167645525558:=0
def tw8442351139912238914:=0
def tw8466502005910837327:=0
def tw847355036552318282:=0
def tw8480946087132836917:=0
def tw8481826921304245245:=0
def tw8510716395229608810:=0
def tw8550560286807648761:=0
def tw8562813870454408495:=0
def tw8566525638939162880:=0
def tw8575050519234054744:=0
def tw8680636754627353939:=0
def tw8693659068293247338:=0
def tw8693951529503446768:=0
def tw8748054979313275853:=0
def tw8777039771458742356:=0
def tw8782405328349890083:=0
def tw8787993513784060459:=0
def tw880811221006653291:=0
def tw8861043047027855668:=0
def tw9027057609274465840:=0
def tw9059793737338530368:=0
def tw9104920013608094814:=0
def tw9166721691763482111:=0
def tw9167147133286908523:=0
def tw9198582469364628408:=0
def tw9259993432304937621:=0
def tw9268507012283588205:=0
def tw9278852321589716710:=0
def tw9281849158199451869:=0
def tw9294488267736406303:=0
def tw9331081159763230546:=0
def tw9340622615642733477:=0
def tw9368814748251494054:=0
def tw9389940480098326580:=0
def tw9399057105628524693:=0
def tw9439159780195323011:=0
def tw9445607835600500861:=0
def tw9462674054644314659:=0
def tw953992611135093059:=0
def tw9564110522985259687:=0
def tw9622229599378046664:=0
def tw9626509159444949751:=0
def tw9649710747884899502:=0
def tw9683498965395346720:=0
def tw9695571814320964886:=0
def tw9714228056892375597:=0
def tw9737947876570733752:=0
def tw9748845227223490442:=0
def tw9771732004988427839:=0
def tw9805643966597821573:=0
def tw9853859463612730868:=0
def tw9884589796839827812:=0
def tw9905121732301798278:=0
def tw9949665971575824138:=0
def tw996188891461258251:=0
def tw9967891749042532421:=0
end PySem.W.Fast
set_option maxRecDepth 100000 in
set_option maxHeartbeats 0 in
theorem PySem.Challenge.cw_shiftmeet_k93_whole_papers_checked_holds : PySem.Challenge.rw_shiftmeet_k93_whole_papers_checked.Holds := by
  w_on;o_law;k_head;(case hw=>w_witness2)
  k_fill
  refine L2.law_walk (l:=PySem.Challenge.rw_shiftmeet_k93_whole_papers_checked) (k:=90) (sp:=SMk93.sp_law) rfl rfl ⟨rfl,by decide,by decide⟩ (fun w h Y=>PySem.W.kIn_of Y) ?F SMk93.sp_start
  case F=>
    intro w mg fa h KX G hmg
    refine' SMk93.fin KX G hmg (L2.tf_mk KX G ?a0 ?l0 ?c0 ?k0) (L2.tf_mk KX G ?a1 ?l1 ?c1 ?k1) (L2.tf_mk KX G ?a2 ?l2 ?c2 ?k2) (L2.tf_mk KX G ?a3 ?l3 ?c3 ?k3) (L2.tf_mk KX G ?a4 ?l4 ?c4 ?k4) (L2.tf_mk KX G ?a5 ?l5 ?c5 ?k5) (L2.tf_mk KX G ?a6 ?l6 ?c6 ?k6) (L2.tf_mk KX G ?a7 ?l7 ?c7 ?k7) (L2.tf_mk KX G ?a8 ?l8 ?c8 ?k8) (L2.tf_mk KX G ?a9 ?l9 ?c9 ?k9) (L2.tf_mk KX G ?a10 ?l10 ?c10 ?k10) (L2.tf_mk KX G ?a11 ?l11 ?c11 ?k11) (L2.tf_mk KX G ?a12 ?l12 ?c12 ?k12) (L2.tf_mk KX G ?a13 ?l13 ?c13 ?k13) (L2.tf_mk KX G ?a14 ?l14 ?c14 ?k14) (L2.tf_mk KX G ?a15 ?l15 ?c15 ?k15) (L2.tf_mk KX G ?a16 ?l16 ?c16 ?k16) (L2.tf_mk KX G ?a17 ?l17 ?c17 ?k17) (L2.tf_mk KX G ?a18 ?l18 ?c18 ?k18) (L2.tf_mk KX G ?a19 ?l19 ?c19 ?k19) (L2.tf_mk KX G ?a20 ?l20 ?c20 ?k20) (L2.tf_mk KX G ?a21 ?l21 ?c21 ?k21) (L2.tf_mk KX G ?a22 ?l22 ?c22 ?k22) (L2.tf_mk KX G ?a23 ?l23 ?c23 ?k23) (L2.tf_mk KX G ?a24 ?l24 ?c24 ?k24) (L2.tf_mk KX G ?a25 ?l25 ?c25 ?k25) (L2.tf_mk KX G ?a26 ?l26 ?c26 ?k26) (L2.tf_mk KX G ?a27 ?l27 ?c27 ?k27) (L2.tf_mk KX G ?a28 ?l28 ?c28 ?k28) (L2.tf_mk KX G ?a29 ?l29 ?c29 ?k29) (L2.tf_mk KX G ?a30 ?l30 ?c30 ?k30) (L2.tf_mk KX G ?a31 ?l31 ?c31 ?k31) (L2.tf_mk KX G ?a32 ?l32 ?c32 ?k32) (L2.tf_mk KX G ?a33 ?l33 ?c33 ?k33) (L2.tf_mk KX G ?a34 ?l34 ?c34 ?k34) (L2.tf_mk KX G ?a35 ?l35 ?c35 ?k35) (L2.tf_mk KX G ?a36 ?l36 ?c36 ?k36) (L2.tf_mk KX G ?a37 ?l37 ?c37 ?k37) (L2.tf_mk KX G ?a38 ?l38 ?c38 ?k38) (L2.tf_mk KX G ?a39 ?l39 ?c39 ?k39) (L2.tf_mk KX G ?a40 ?l40 ?c40 ?k40) (L2.tf_mk KX G ?a41 ?l41 ?c41 ?k41) (L2.tf_mk KX G ?a42 ?l42 ?c42 ?k42) (L2.tf_mk KX G ?a43 ?l43 ?c43 ?k43) (L2.tf_mk KX G ?a44 ?l44 ?c44 ?k44) (L2.tf_mk KX G ?a45 ?l45 ?c45 ?k45) (L2.tf_mk KX G ?a46 ?l46 ?c46 ?k46) (L2.tf_mk KX G ?a47 ?l47 ?c47 ?k47) (L2.tf_mk KX G ?a48 ?l48 ?c48 ?k48) (L2.tf_mk KX G ?a49 ?l49 ?c49 ?k49) (L2.tf_mk KX G ?a50 ?l50 ?c50 ?k50) (L2.tf_mk KX G ?a51 ?l51 ?c51 ?k51) (L2.tf_mk KX G ?a52 ?l52 ?c52 ?k52) (PySem.W.mg_none_of KX G ?z0) (PySem.W.mg_none_of KX G ?z1) (PySem.W.mg_none_of KX G ?z2) (PySem.W.mg_none_of KX G ?z3) (PySem.W.mg_none_of KX G ?z4) (PySem.W.mg_none_of KX G ?z5) (PySem.W.mg_none_of KX G ?z6) (PySem.W.mg_none_of KX G ?z7) (PySem.W.mg_none_of KX G ?z8) (PySem.W.mg_none_of KX G ?z9) (PySem.W.mg_none_of KX G ?z10) (PySem.W.mg_none_of KX G ?z11) (PySem.W.mg_none_of KX G ?z12) (PySem.W.mg_none_of KX G ?z13) (PySem.W.mg_none_of KX G ?z14) (L2.cdt_mk KX G ?de0 ?dl0 ?dm0 ?dx0 ?dd0 ?dc0 ?dn0) (L2.ci_mk KX G ?q1) (L2.ci_mk KX G ?q2) (L2.ci_mk KX G ?q3) (L2.ci_mk KX G ?q4) (L2.ci_mk KX G ?q5) (L2.ci_mk KX G ?q6) (L2.ci_mk KX G ?q7) (L2.cs_mk KX G ?q8) (L2.cs_mk KX G ?q9) (L2.ct_mk KX G ?t10 ?u10 ?v10 ?w10 ?x10 ?y10) (L2.ox_mk KX G ?ea0 ?el0 ?ex0) (L2.ox_mk KX G ?ea1 ?el1 ?ex1) (L2.ox_mk KX G ?ea2 ?el2 ?ex2) (L2.ox_mk KX G ?ea3 ?el3 ?ex3) ?nd ⟨?pg0,?hd0,?po0,?sa0⟩ ?nf0_0 ?mk0 ?kc0 (PySem.W.mg_of KX G ?aC0) (L2.tm_mk ?ma0_0 ?mi0_0 ?ml0_0 ?mc0_0 ?mp0_0) (L2.tm_mk ?ma0_1 ?mi0_1 ?ml0_1 ?mc0_1 ?mp0_1) (L2.tm_mk ?ma0_2 ?mi0_2 ?ml0_2 ?mc0_2 ?mp0_2) ⟨?pg1,?hd1,?po1,?sa1⟩ ?nf1_0 ?nf1_1 ?mk1 ?kc1 (PySem.W.mg_of KX G ?aC1) (L2.tm_mk ?ma1_0 ?mi1_0 ?ml1_0 ?mc1_0 ?mp1_0) (L2.tm_mk ?ma1_1 ?mi1_1 ?ml1_1 ?mc1_1 ?mp1_1) (L2.tm_mk ?ma1_2 ?mi1_2 ?ml1_2 ?mc1_2 ?mp1_2) (L2.tm_mk ?ma1_3 ?mi1_3 ?ml1_3 ?mc1_3 ?mp1_3) (L2.tm_mk ?ma1_4 ?mi1_4 ?ml1_4 ?mc1_4 ?mp1_4) (L2.tm_mk ?ma1_5 ?mi1_5 ?ml1_5 ?mc1_5 ?mp1_5)
    (case aC1=>k_is)
    (case aC0=>k_is)
    (case a0=>k_is);(case l0=>k_is);(case c0=>k_is);(case k0=>k_is)
    (case a1=>k_is);(case l1=>k_is);(case c1=>k_is);(case k1=>k_is)
    (case a2=>k_is);(case l2=>k_is);(case c2=>k_is);(case k2=>k_is)
    (case a3=>k_is);(case l3=>k_is);(case c3=>k_is);(case k3=>k_is)
    (case a4=>k_is);(case l4=>k_is);(case c4=>k_is);(case k4=>k_is)
    (case a5=>k_is);(case l5=>k_is);(case c5=>k_is);(case k5=>k_is)
    (case a6=>k_is);(case l6=>k_is);(case c6=>k_is);(case k6=>k_is)
    (case a7=>k_is);(case l7=>k_is);(case c7=>k_is);(case k7=>k_is)
    (case a8=>k_is);(case l8=>k_is);(case c8=>k_is);(case k8=>k_is)
    (case a9=>k_is);(case l9=>k_is);(case c9=>k_is);(case k9=>k_is)
    (case a10=>k_is);(case l10=>k_is);(case c10=>k_is);(case k10=>k_is)
    (case a11=>k_is);(case l11=>k_is);(case c11=>k_is);(case k11=>k_is)
    (case a12=>k_is);(case l12=>k_is);(case c12=>k_is);(case k12=>k_is)
    (case a13=>k_is);(case l13=>k_is);(case c13=>k_is);(case k13=>k_is)
    (case a14=>k_is);(case l14=>k_is);(case c14=>k_is);(case k14=>k_is)
    (case a15=>k_is);(case l15=>k_is);(case c15=>k_is);(case k15=>k_is)
    (case a16=>k_is);(case l16=>k_is);(case c16=>k_is);(case k16=>k_is)
    (case a17=>k_is);(case l17=>k_is);(case c17=>k_is);(case k17=>k_is)
    (case a18=>k_is);(case l18=>k_is);(case c18=>k_is);(case k18=>k_is)
    (case a19=>k_is);(case l19=>k_is);(case c19=>k_is);(case k19=>k_is)
    (case a20=>k_is);(case l20=>k_is);(case c20=>k_is);(case k20=>k_is)
    (case a21=>k_is);(case l21=>k_is);(case c21=>k_is);(case k21=>k_is)
    (case a22=>k_is);(case l22=>k_is);(case c22=>k_is);(case k22=>k_is)
    (case a23=>k_is);(case l23=>k_is);(case c23=>k_is);(case k23=>k_is)
    (case a24=>k_is);(case l24=>k_is);(case c24=>k_is);(case k24=>k_is)
    (case a25=>k_is);(case l25=>k_is);(case c25=>k_is);(case k25=>k_is)
    (case a26=>k_is);(case l26=>k_is);(case c26=>k_is);(case k26=>k_is)
    (case a27=>k_is);(case l27=>k_is);(case c27=>k_is);(case k27=>k_is)
    (case a28=>k_is);(case l28=>k_is);(case c28=>k_is);(case k28=>k_is)
    (case a29=>k_is);(case l29=>k_is);(case c29=>k_is);(case k29=>k_is)
    (case a30=>k_is);(case l30=>k_is);(case c30=>k_is);(case k30=>k_is)
    (case a31=>k_is);(case l31=>k_is);(case c31=>k_is);(case k31=>k_is)
    (case a32=>k_is);(case l32=>k_is);(case c32=>k_is);(case k32=>k_is)
    (case a33=>k_is);(case l33=>k_is);(case c33=>k_is);(case k33=>k_is)
    (case a34=>k_is);(case l34=>k_is);(case c34=>k_is);(case k34=>k_is)
    (case a35=>k_is);(case l35=>k_is);(case c35=>k_is);(case k35=>k_is)
    (case a36=>k_is);(case l36=>k_is);(case c36=>k_is);(case k36=>k_is)
    (case a37=>k_is);(case l37=>k_is);(case c37=>k_is);(case k37=>k_is)
    (case a38=>k_is);(case l38=>k_is);(case c38=>k_is);(case k38=>k_is)
    (case a39=>k_is);(case l39=>k_is);(case c39=>k_is);(case k39=>k_is)
    (case a40=>k_is);(case l40=>k_is);(case c40=>k_is);(case k40=>k_is)
    (case a41=>k_is);(case l41=>k_is);(case c41=>k_is);(case k41=>k_is)
    (case a42=>k_is);(case l42=>k_is);(case c42=>k_is);(case k42=>k_is)
    (case a43=>k_is);(case l43=>k_is);(case c43=>k_is);(case k43=>k_is)
    (case a44=>k_is);(case l44=>k_is);(case c44=>k_is);(case k44=>k_is)
    (case a45=>k_is);(case l45=>k_is);(case c45=>k_is);(case k45=>k_is)
    (case a46=>k_is);(case l46=>k_is);(case c46=>k_is);(case k46=>k_is)
    (case a47=>k_is);(case l47=>k_is);(case c47=>k_is);(case k47=>k_is)
    (case a48=>k_is);(case l48=>k_is);(case c48=>k_is);(case k48=>k_is)
    (case a49=>k_is);(case l49=>k_is);(case c49=>k_is);(case k49=>k_is)
    (case a50=>k_is);(case l50=>k_is);(case c50=>k_is);(case k50=>k_is)
    (case a51=>k_is);(case l51=>k_is);(case c51=>k_is);(case k51=>k_is)
    (case a52=>k_is);(case l52=>k_is);(case c52=>k_is);(case k52=>k_is)
    (case z0=>k_is)
    (case z1=>k_is)
    (case z2=>k_is)
    (case z3=>k_is)
    (case z4=>k_is)
    (case z5=>k_is)
    (case z6=>k_is)
    (case z7=>k_is)
    (case z8=>k_is)
    (case z9=>k_is)
    (case z10=>k_is)
    (case z11=>k_is)
    (case z12=>k_is)
    (case z13=>k_is)
    (case z14=>k_is)
    (case de0=>k_is);(case dl0=>k_is);(case dm0=>decide);(case dx0=>exact⟨rfl,rfl,rfl⟩);(case dd0=>rfl);(case dc0=>walk_at "cdt_all");(case dn0=>decide +kernel)
    (case q1=>k_is)
    (case q2=>k_is)
    (case q3=>k_is)
    (case q4=>k_is)
    (case q5=>k_is)
    (case q6=>k_is)
    (case q7=>k_is)
    (case q8=>k_is)
    (case q9=>k_is)
    (case t10=>k_is);(case u10=>k_is);(case v10=>rfl);(case w10=>rfl);(case x10=>decide);(case y10=>exact .cons ⟨_,rfl⟩ (.cons ⟨_,rfl⟩ .nil))
    (case ea0=>k_is);(case el0=>k_is);(case ex0=>k_exc)
    (case ea1=>k_is);(case el1=>k_is);(case ex1=>k_exc)
    (case ea2=>k_is);(case el2=>k_is);(case ex2=>k_exc)
    (case ea3=>k_is);(case el3=>k_is);(case ex3=>k_exc)
    (case nd=>decide +kernel)
    (case pg0=>k_is);(case hd0=>k_is);(case po0=>k_is);(case sa0=>k_is)
    (case nf0_0=>(unfold L2.NoAttr;k_is))
    (case mk0=>k_is);(case kc0=>k_is)
    (case ma0_0=>k_is);(case mi0_0=>k_is);(case ml0_0=>k_is);(case mc0_0=>k_is);(case mp0_0=>k_is)
    (case ma0_1=>k_is);(case mi0_1=>k_is);(case ml0_1=>k_is);(case mc0_1=>k_is);(case mp0_1=>k_is)
    (case ma0_2=>k_is);(case mi0_2=>k_is);(case ml0_2=>k_is);(case mc0_2=>k_is);(case mp0_2=>k_is)
    (case pg1=>k_is);(case hd1=>k_is);(case po1=>k_is);(case sa1=>k_is)
    (case nf1_0=>(unfold L2.NoAttr;k_is))
    (case nf1_1=>(unfold L2.NoAttr;k_is))
    (case mk1=>k_is);(case kc1=>k_is)
    (case ma1_0=>k_is);(case mi1_0=>k_is);(case ml1_0=>k_is);(case mc1_0=>k_is);(case mp1_0=>k_is)
    (case ma1_1=>k_is);(case mi1_1=>k_is);(case ml1_1=>k_is);(case mc1_1=>k_is);(case mp1_1=>k_is)
    (case ma1_2=>k_is);(case mi1_2=>k_is);(case ml1_2=>k_is);(case mc1_2=>k_is);(case mp1_2=>k_is)
    (case ma1_3=>k_is);(case mi1_3=>k_is);(case ml1_3=>k_is);(case mc1_3=>k_is);(case mp1_3=>k_is)
    (case ma1_4=>k_is);(case mi1_4=>k_is);(case ml1_4=>k_is);(case mc1_4=>k_is);(case mp1_4=>k_is)
    (case ma1_5=>k_is);(case mi1_5=>k_is);(case ml1_5=>k_is);(case mc1_5=>k_is);(case mp1_5=>k_is)

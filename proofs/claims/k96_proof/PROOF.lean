import PyProof.Rows.All
import Wide.All
import OpenK.AllK
import Wide.FinOn
import Lean
import PyProof.EqAt
import PyProof.EqKinds
import PyProof.TupleCall
import PySem.Challenge.RW_longrounds_k96_whole_any_rows
set_option Elab.async false
set_option linter.all false
set_option maxRecDepth 100000
set_option maxHeartbeats 4000000
noncomputable section
namespace L2
open PySem PySem.Spec PyProof.Rows
noncomputable abbrev Key:=Sum Int Str
noncomputable def x4e:Key->Value->Bool
 | .inl k,v=>Value.isInt k v
 | .inr x,v=>Value.isStrOf x v
noncomputable def keyH(w:World):Key->Int
 | .inl k=>hashInt k
 | .inr x=>hashStr w x
theorem z1u:∀{k:Key} {v:Value},x4e k v=true->(∃i t,k=Sum.inl i/\v=Value.int i t)∨(∃x t,k=Sum.inr x/\v=Value.str x t)
 | .inl i,v,h=>by
   obtain⟨t,e⟩:=Value.isInt_shape (k:=i) (v:=v) h
   exact .inl ⟨i,t,rfl,e⟩
 | .inr x,v,h=>by
   obtain⟨t,e⟩:=Value.isStrOf_shape (x:=x) (v:=v) h
   exact .inr ⟨x,t,rfl,e⟩
theorem x4d(a b:Int):decide ((Sum.inl a:Key)=Sum.inl b)=(a==b):=by
 by_cases e:a=b
 ·subst e;simp
 ·have h:¬(Sum.inl a:Key)=Sum.inl b:=fun q=>e (Sum.inl.inj q)
  rw[decide_eq_false h]
  exact(beq_eq_false_iff_ne.mpr e).symm
theorem x4a(a b:Str):decide ((Sum.inr a:Key)=Sum.inr b)=decide (a=b):=by
 by_cases e:a=b
 ·subst e;simp
 ·have h:¬(Sum.inr a:Key)=Sum.inr b:=fun q=>e (Sum.inr.inj q)
  rw[decide_eq_false h,decide_eq_false e]
theorem x4c(a:Int)(b:Str):decide ((Sum.inl a:Key)=Sum.inr b)=false:=decide_eq_false (fun q=>nomatch q)
theorem x4b(a:Str)(b:Int):decide ((Sum.inr a:Key)=Sum.inl b)=false:=decide_eq_false (fun q=>nomatch q)
noncomputable def y6x(prog:Program)(w:World):PySem.KeyKind prog w Key where
 is:=x4e
 hash:=keyH w
 inj:=fun v a b ha hb=>by
  rcases z1u ha with ⟨i,t,rfl,rfl⟩ | ⟨x,t,rfl,rfl⟩
  ·rcases z1u hb with ⟨j,u,rfl,e⟩ | ⟨y,u,rfl,e⟩
   ·injection e with e1 _;rw[e1]
   ·exact nomatch e
  ·rcases z1u hb with ⟨j,u,rfl,e⟩ | ⟨y,u,rfl,e⟩
   ·exact nomatch e
   ·injection e with e1 _;rw[e1]
 byValue:=fun k v h=>by
  rcases z1u h with ⟨i,t,rfl,rfl⟩ | ⟨x,t,rfl,rfl⟩<;>rfl
 pyHash:=fun hv h=>by
  rcases z1u hv with ⟨i,t,rfl,rfl⟩ | ⟨x,t,rfl,rfl⟩
  ·exact wpAny_pyHash_int h
  ·exact wpAny_pyHash_str h
 eqBool:=fun hu hv h=>by
  rcases z1u hu with ⟨i,t,rfl,rfl⟩ | ⟨x,t,rfl,rfl⟩
  ·rcases z1u hv with ⟨j,u,rfl,rfl⟩ | ⟨y,u,rfl,rfl⟩
   ·rw[x4d] at h;exact wpAny_eqBool_int h
   ·rw[x4c] at h;exact SeqAt.EqAt.int_str i t y u _ _ _ _ h
  ·rcases z1u hv with ⟨j,u,rfl,rfl⟩ | ⟨y,u,rfl,rfl⟩
   ·rw[x4b] at h;exact SeqAt.EqAt.str_int x t j u _ _ _ _ h
   ·rw[x4a] at h;exact wpAny_eqBool_str h
 «strs»:=fun k x t v h=>by
  rcases z1u h with ⟨i,u,rfl,e⟩ | ⟨y,u,rfl,e⟩
  ·exact nomatch e
  ·injection e with e1 _
   subst e1
   cases v<;>rfl
end L2
namespace L2
open PySem PySem.Spec PyProof.Rows
inductive V where
 | non | bl (b:Bool) | int (i:Int) | str (x:Str) | byt (b:Array UInt8) | flt (b:UInt64) | ref (a:Addr) | ty (n:String)
 deriving DecidableEq
noncomputable def RelV:V->Value->Prop
 | .non,u=>u=Value.none
 | .bl b,u=>u=Value.bool b
 | .int i,u=>∃t,u=Value.int i t
 | .str x,u=>∃t,u=Value.str x t
 | .byt b,u=>∃t,u=Value.bytes b t
 | .flt b,u=>∃t,u=Value.float b t
 | .ref a,u=>u=Value.ref a
 | .ty n,u=>u=Value.type n
noncomputable abbrev Vals:List V->List Value->Prop:=Paired RelV
theorem Vals.length{xs:List V}{us:List Value}(r:Vals xs us):xs.length=us.length:=Paired.length r
theorem Vals.get:∀{xs:List V} {us:List Value} {i:Nat} {x:V},Vals xs us->xs[i]? = some x->∃u,us[i]? = some u/\RelV x u
 | _,_,_,_,.nil,e=>by simp at e
 | _,_,0,_,.cons r _,e=>by simp at e;subst e;exact⟨_,rfl,r⟩
 | _,_,i+1,x,.cons _ t,e=>by
   obtain⟨u,h1,h2⟩:=Vals.get (i:=i) (x:=x) t (by simpa using e)
   exact⟨u,by simpa using h1,h2⟩
theorem Vals.set{x:V}{u:Value}(r:RelV x u):∀{xs:List V} {us:List Value} (i:Nat),Vals xs us->Vals (xs.set i x) (us.set i u)
 | _,_,_,.nil=>.nil
 | _,_,0,.cons _ t=>.cons r t
 | _,_,i+1,.cons q t=>.cons q (Vals.set r i t)
theorem Vals.append:∀{xs ys:List V} {us ws:List Value},Vals xs us->Vals ys ws->Vals (xs++ys) (us++ws)
 | _,_,_,_,.nil,s=>s
 | _,_,_,_,.cons r t,s=>.cons r (Vals.append t s)
theorem Vals.take:∀{xs:List V} {us:List Value} (n:Nat),Vals xs us->Vals (xs.take n) (us.take n)
 | _,_,0,_=>.nil
 | _,_,_+1,.nil=>.nil
 | _,_,n+1,.cons r t=>.cons r (Vals.take n t)
theorem Vals.drop:∀{xs:List V} {us:List Value} (n:Nat),Vals xs us->Vals (xs.drop n) (us.drop n)
 | _,_,0,r=>r
 | _,_,_+1,.nil=>.nil
 | _,_,n+1,.cons _ t=>Vals.drop n t
noncomputable def RelO:Option V->Option Value->Prop
 | some v,some u=>RelV v u
 | none,none=>True
 | _,_=>False
noncomputable def KV{κ:Type}:List (κ×V)->List (κ×Value)->Prop:=Paired fun(p:κ×V) (q:κ×Value)=>p.1=q.1/\RelV p.2 q.2
noncomputable def kV:Key->V
 | .inl i=>.int i
 | .inr x=>.str x
inductive HO where
 | lst (xs:List V)
 | tup (xs:List V)
 | dK (kvs:List (Key×V)) | dT (kvs:List (List Key×V))
 | set (S:Int->Bool) (n:Nat)
 | ins (C dx:Addr) (fs:List (Str×V))
 | own (x:Addr)
 | xd (fs:List (Str×V))
 | met (f x:Addr)
 | rng (lo hi:Int)
 | frz (o:Obj) (u:HO)
 | tbl (ps:Array Value)
 | ext (φ:Heap->Prop)
noncomputable abbrev Hp:=Addr->Option HO
noncomputable def upd(H:Hp)(a:Addr)(o:HO):Hp:=fun b=>if b=a then some o else H b
theorem z0n{H:Hp}{a:Addr}{o:HO}:upd H a o a=some o:=by unfold upd;rw[if_pos rfl]
theorem z0l{H:Hp}{a b:Addr}{o:HO}(h:b≠a):upd H a o b=H b:=by unfold upd;rw[if_neg h]
theorem z0k{H:Hp}{a b:Addr}{o:HO}(h:H a=some o)(h':H b=none):a≠b:=by
 intro e;subst e;rw[h] at h';cases h'
section
variable (P:Program)(w:World)
noncomputable def z5q(H:Hp)(h:Heap)(a:Addr):HO->Prop
 | .lst xs=>xs.length<=sizeLine/\∃(its:List Value) (n:Nat),Vals xs its/\h.get? a=some { cls:=.type "list",data:=.seq its.toArray n }
 | .tup xs=>xs.length<=sizeLine/\∃its:List Value,Vals xs its/\IsTup h a its.toArray
 | .dK kvs=>kvs.length<=sizeLine/\(a==sysModules)=false/\∃vs,KV kvs vs/\h.DictOf (y6x P w) a vs
 | .dT kvs=>kvs.length<=sizeLine/\(a==sysModules)=false/\∃xs:List (List Key×Addr×Value),
    Paired (fun(p:List Key×V) (q:List Key×Addr×Value)=>p.1=q.1/\H q.2.1=some (.tup (p.1.map kV))/\RelV p.2 q.2.2) kvs xs /\
    ∃o es ep,h.get? a=some o/\o.ExactDict/\o.data = .dict es ep/\es.toList=xs.map (entryOfKey (tupleKind (y6x P w)))/\(xs.map (·.1)).Nodup
 | .set S n=>h.SetOf (intKind P w) a S n
 | .ins C dx fs=>H dx=some (.own a)/\fs.length<=1000/\dx≠a/\h.get? a=some (PySem.W.instObj C dx) /\
    ∃mA,h.Ns1 dx mA/\(∀f,RelO (fs.lookup f) (mA f))/\PySem.Within mA (fs.map (·.1))
 | .own _=>∃o,h.get? a=some o
 | .xd fs=>∃mA,h.Ns1 a mA/\∀f,RelO (fs.lookup f) (mA f)
 | .rng lo hi=>∃t u v,h.get? a=some { cls:=.type "range",data:=.fields #[.int lo t,.int hi u,.int 1 v] }
 | .frz o u=>h.get? a=some o/\z5q H h a u
 | .tbl ps=>h.get? a=some { cls:=.none,data:=.fields ps }
 | .met f x=>h.get? a=some (PySem.W.methodObj (.ref f) (.ref x))
 | .ext φ=>φ h/\(∃o,h.get? a=some o)/\∀h1 h2:Heap,φ h1->(∀o,h1.get? a=some o->h2.get? a=some o)->φ h2
noncomputable def HOk(H:Hp)(h:Heap):Prop:=∀a o,H a=some o->z5q P w H h a o
end
section
variable {P:Program}{w:World}{H H':Hp}{h h':Heap}{a:Addr}{o:HO}
theorem z5q.lt(x:z5q P w H h a o):a<h.objs.size:=by
 cases o with
 | lst xs=>obtain⟨_,_,_,_,e⟩:=x;exact Heap.lt_size e
 | tup xs=>obtain⟨_,_,_,p⟩:=x;exact p.lt
 | dK kvs=>obtain⟨_,_,_,_,o,_,_,e,_⟩:=x;exact Heap.lt_size e
 | dT kvs=>obtain⟨_,_,_,_,o,_,_,e,_⟩:=x;exact Heap.lt_size e
 | set S n=>obtain⟨o,_,_,_,e,_⟩:=x;exact Heap.lt_size e
 | ins C dx fs=>obtain⟨_,_,_,e,_⟩:=x;exact Heap.lt_size e
 | own y=>obtain⟨_,e⟩:=x;exact Heap.lt_size e
 | xd fs=>obtain⟨_,⟨_,_,_,e,_⟩,_⟩:=x;exact Heap.lt_size e
 | rng lo hi=>obtain⟨_,_,_,e⟩:=x;exact Heap.lt_size e
 | frz ob u=>obtain⟨e,_⟩:=x;exact Heap.lt_size e
 | tbl ps=>exact Heap.lt_size (show h.get? a=some _ from x)
 | met f y=>exact Heap.lt_size (show h.get? a=some _ from x)
 | ext φ=>obtain⟨_,⟨_,e⟩,_⟩:=x;exact Heap.lt_size e
theorem Paired.mapP{α β:Type}{F G:α->β->Prop}:∀{l₁:List α} {l₂:List β},Paired F l₁ l₂->(∀a b,F a b->G a b)->Paired G l₁ l₂
 | _,_,.nil,_=>.nil
 | _,_,.cons r t,f=>.cons (f _ _ r) (Paired.mapP t f)
theorem z5q.stay(x:z5q P w H h a o)(k:∀b u,(b=a∨H b=some (.own a))->h.get? b=some u->h'.get? b=some u)
 (ho:∀b,H b=some (.own a)->H' b=some (.own a)) (ht:∀b xs,H b=some (.tup xs)->H' b=some (.tup xs)):z5q P w H' h' a o:=by
 induction o with
 | lst xs=>obtain⟨z,its,n,r,e⟩:=x;exact⟨z,its,n,r,k _ _ (.inl rfl) e⟩
 | tup xs=>obtain⟨z,its,r,ob,e,c⟩:=x;exact⟨z,its,r,ob,k _ _ (.inl rfl) e,c⟩
 | dK kvs=>obtain⟨z,y,vs,r,ob,es,ep,e,c⟩:=x;exact⟨z,y,vs,r,ob,es,ep,k _ _ (.inl rfl) e,c⟩
 | dT kvs =>
   obtain⟨z,y,xs,r,ob,es,ep,e,c⟩:=x
   exact⟨z,y,xs,Paired.mapP r fun p q z=>⟨z.1,ht _ _ z.2.1,z.2.2⟩,ob,es,ep,k _ _ (.inl rfl) e,c⟩
 | set S n=>obtain⟨ob,es,ep,t,e,c⟩:=x;exact⟨ob,es,ep,t,k _ _ (.inl rfl) e,c⟩
 | ins C dx fs =>
   obtain⟨d,z,ne,e,mA,⟨od,es,ep,e2,c⟩,r⟩:=x
   exact⟨ho _ d,z,ne,k _ _ (.inl rfl) e,mA,⟨od,es,ep,k _ _ (.inr d) e2,c⟩,r⟩
 | own y=>obtain⟨ob,e⟩:=x;exact⟨ob,k _ _ (.inl rfl) e⟩
 | xd fs=>obtain⟨mA,⟨od,es,ep,e,c⟩,r⟩:=x;exact⟨mA,⟨od,es,ep,k _ _ (.inl rfl) e,c⟩,r⟩
 | rng lo hi=>obtain⟨t,u,v,e⟩:=x;exact⟨t,u,v,k _ _ (.inl rfl) e⟩
 | frz ob u ih=>obtain⟨e,q⟩:=x;exact⟨k _ _ (.inl rfl) e,ih q⟩
 | tbl ps =>
   have e:h.get? a=some { cls:=.none,data:=.fields ps }:=x
   show h'.get? a=some { cls:=.none,data:=.fields ps }
   exact k a _ (.inl rfl) e
 | met f y =>
   have e:h.get? a=some (PySem.W.methodObj (.ref f) (.ref y)):=x
   show h'.get? a=some (PySem.W.methodObj (.ref f) (.ref y))
   exact k a _ (.inl rfl) e
 | ext φ=>obtain⟨p,⟨o,e⟩,st⟩:=x;exact⟨st _ _ p fun o q=>k _ _ (.inl rfl) q,⟨o,k _ _ (.inl rfl) e⟩,st⟩
theorem HOk.lt(x:HOk P w H h)(e:H a=some o):a<h.objs.size:=(x a o e).lt
theorem HOk.fresh(x:HOk P w H h)(e:h.objs.size<=a):H a=none:=by
 cases q:H a with
 | none=>rfl
 | some u=>exact absurd (Nat.lt_of_lt_of_le (x.lt q) e) (Nat.lt_irrefl _)
theorem HOk.kept(x:HOk P w H h)(k:∀b u,h.get? b=some u->h'.get? b=some u):HOk P w H h':=fun a o e =>
 (x a o e).stay (fun b u _ q=>k b u q) (fun _ q=>q) fun _ _ q=>q
theorem HOk.laid(x:HOk P w H h)(k:∀b u,h.get? b=some u->h'.get? b=some u)(hp:h.objs.size<=a)(new:z5q P w (upd H a o) h' a o):HOk P w (upd H a o) h':=fun b u e=>by
 have hn:=x.fresh hp
 by_cases hb:b=a
 ·subst hb;rw[z0n] at e;cases e;exact new
 ·rw[z0l hb] at e
  exact(x b u e).stay (fun c v _ q=>k c v q) (fun c q=>by rw[z0l (z0k q hn)];exact q) fun c xs q=>by rw[z0l (z0k q hn)];exact q
end
noncomputable def Rd(H:Hp)(a:Addr)(u:HO):Prop:=H a=some u∨∃o,H a=some (.frz o u)
theorem Rd.of{H:Hp}{a:Addr}{u:HO}(h:H a=some u):Rd H a u:=.inl h
theorem Rd.ok{P:Program}{w:World}{H:Hp}{h:Heap}{a:Addr}{u:HO}(r:Rd H a u)(x:HOk P w H h):z5q P w H h a u:=by
 rcases r with r | ⟨o,r⟩
 ·exact x a u r
 ·obtain⟨_,q⟩:=x a _ r
  exact q
noncomputable def Mut:Option HO->Prop
 | some (.lst _)=>True
 | some (.dK _)=>True
 | some (.dT _)=>True
 | some (.set _ _)=>True
 | some (.ins _ _ _)=>True
 | some (.ext _)=>True
 | _=>False
section
variable {P:Program}{w:World}{H:Hp}{h h':Heap}{x e:Addr}{o':HO}
theorem HOk.write(ok:HOk P w H h)(mu:Mut (H x))(he:e=x∨H e=some (.own x))(k:∀b u,b≠e->h.get? b=some u->h'.get? b=some u)(heo:∃u,h'.get? e=some u)
 (new:z5q P w (upd H x o') h' x o'):HOk P w (upd H x o') h':=fun b u q=>by
 have nown:∀c y,H c=some (.own y)->c≠x:=fun c y r z=>by subst z;rw[r] at mu;exact mu
 have ntup:∀c xs,H c=some (.tup xs)->c≠x:=fun c xs r z=>by subst z;rw[r] at mu;exact mu
 by_cases hb:b=x
 ·subst hb;rw[z0n] at q;cases q;exact new
 ·rw[z0l hb] at q
  by_cases hbe:b=e
  ·have q':H b=some (.own x):=by
    rcases he with z | z
    ·exact absurd (hbe.trans z) hb
    ·rw[hbe];exact z
   rw[q] at q';cases q'
   obtain⟨v,hv⟩:=heo
   exact⟨v,by rw[hbe];exact hv⟩
  ·refine(ok b u q).stay (fun c v hc r=>k c v ?_ r) (fun c r=>by rw[z0l (nown c b r)];exact r) fun c xs r=>by rw[z0l (ntup c xs r)];exact r
   rcases hc with rfl | hc
   ·exact hbe
   ·rintro rfl
    rcases he with z | z
    ·exact nown c b hc z
    ·rw[hc] at z;cases z;exact hb rfl
end
structure Un (fs ex:List Addr) (H H':Hp) (h h':Heap):Prop where
 keep:∀b o,h.get? b=some o->H b=none->b ∉ fs->b ∉ ex->h'.get? b=some o
 slot:∀b o,h.get? b=some o->H b=none->b∈fs->b ∉ ex->∃sl,h'.get? b=some { o with slots:=sl }
 free:∀b o,h.get? b=some o->H b=none->b ∉ ex->H' b=none
 there:∀b o,h.get? b=some o->b ∉ ex->∃o',h'.get? b=some o'
 tups:∀b xs,H b=some (.tup xs)->H' b=some (.tup xs)
 frzs:∀b o u,H b=some (.frz o u)->H' b=some (.frz o u)
 tbls:∀b ps,H b=some (.tbl ps)->∃more,H' b=some (.tbl (ps++more))
section
variable {fs fs' ex ex':List Addr}{H H1 H2:Hp}{h h1 h2 h':Heap}{a x e:Addr}{o:HO}
theorem Un.any(u:Un fs ex H H1 h h1){b:Addr}{ob:Obj}(q:h.get? b=some ob)(n:H b=none)(hx:b ∉ ex):∃sl,h1.get? b=some { ob with slots:=sl }:=by
 by_cases hb:b∈fs
 ·exact u.slot b ob q n hb hx
 ·exact⟨ob.slots,u.keep b ob q n hb hx⟩
theorem Un.trans(a:Un fs ex H H1 h h1)(b:Un fs ex H1 H2 h1 h2):Un fs ex H H2 h h2 where
 keep:=fun c ob q n hc hx=>b.keep c ob (a.keep c ob q n hc hx) (a.free c ob q n hx) hc hx
 slot:=fun c ob q n hc hx=>by
  obtain⟨sl,e1⟩:=a.slot c ob q n hc hx
  obtain⟨sl',e2⟩:=b.slot c _ e1 (a.free c ob q n hx) hc hx
  exact⟨sl',e2⟩
 free:=fun c ob q n hx=>by
  obtain⟨o',e1⟩:=a.there c ob q hx
  exact b.free c o' e1 (a.free c ob q n hx) hx
 there:=fun c ob q hx=>by
  obtain⟨o',e1⟩:=a.there c ob q hx
  exact b.there c o' e1 hx
 tups:=fun c xs q=>b.tups c xs (a.tups c xs q)
 frzs:=fun c ob xs q=>b.frzs c ob xs (a.frzs c ob xs q)
 tbls:=fun c ps q=>by
  obtain⟨m1,e1⟩:=a.tbls c ps q
  obtain⟨m2,e2⟩:=b.tbls c _ e1
  exact⟨m1++m2,by rw[e2,Array.append_assoc]⟩
theorem Un.kept(k:∀b u,h.get? b=some u->h'.get? b=some u):Un fs ex H H h h' :=
 ⟨fun b ob q _ _ _=>k b ob q,fun b ob q _ _ _=>⟨ob.slots,k b ob q⟩,fun _ _ _ n _=>n,fun b ob q _=>⟨ob,k b ob q⟩,fun _ _ q=>q,fun _ _ _ q=>q,fun _ ps q=>⟨#[],by rw[q];simp⟩⟩
theorem Un.refl:Un fs ex H H h h:=Un.kept fun _ _ q=>q
theorem Un.laid(k:∀b u,h.get? b=some u->h'.get? b=some u)(hp:h.objs.size<=a)(hn:H a=none):Un fs ex H (upd H a o) h h' where
 keep:=fun b u q _ _ _=>k b u q
 slot:=fun b u q _ _ _=>⟨u.slots,k b u q⟩
 free:=fun b u q n _=>by rw[z0l (Nat.ne_of_lt (Nat.lt_of_lt_of_le (Heap.lt_size q) hp))];exact n
 there:=fun b u q _=>⟨u,k b u q⟩
 tups:=fun b xs q=>by rw[z0l (z0k q hn)];exact q
 frzs:=fun b u xs q=>by rw[z0l (z0k q hn)];exact q
 tbls:=fun b ps q=>⟨#[],by rw[z0l (z0k q hn),q];simp⟩
theorem Un.write(mu:Mut (H x))(he:e=x∨H e=some (.own x))(k:∀b u,b≠e->h.get? b=some u->h'.get? b=some u)(heo:∃u,h'.get? e=some u):Un fs ex H (upd H x o) h h':=by
 have hx:∀b,H b=none->b≠x:=fun b n z=>by subst z;rw[n] at mu;exact mu
 have hb:∀b,H b=none->b≠e:=fun b n z=>by
  subst z
  rcases he with r | r
  ·exact hx b n r
  ·rw[n] at r;cases r
 have hm:∀b u,H b=some u->¬Mut (some u)->b≠x:=fun b u q nm z=>by subst z;rw[q] at mu;exact nm mu
 refine⟨fun b u q n _ _=>k b u (hb b n) q,fun b u q n _ _=>⟨u.slots,k b u (hb b n) q⟩,fun b u q n _=>by rw[z0l (hx b n)];exact n,fun b u q _=>?_,
  fun b xs q=>by rw[z0l (hm b _ q fun z=>z)];exact q,fun b u xs q=>by rw[z0l (hm b _ q fun z=>z)];exact q,fun b ps q=>⟨#[],by rw[z0l (hm b _ q fun z=>z),q];simp⟩⟩
 by_cases hbe:b=e
 ·subst hbe;exact heo
 ·exact⟨u,k b u hbe q⟩
theorem Un.mono(u:Un fs ex H H1 h h1)(hs:∀b∈fs,b∈fs')(hx:∀b∈ex,b∈ex'):Un fs' ex' H H1 h h1 :=
 ⟨fun b ob q n hb he=>u.keep b ob q n (fun z=>hb (hs b z)) fun z=>he (hx b z),fun _ _ q n _ he=>u.any q n fun z=>he (hx _ z),fun b ob q n he=>u.free b ob q n fun z=>he (hx b z),fun b ob q he=>u.there b ob q fun z=>he (hx b z),u.tups,u.frzs,u.tbls⟩
end
noncomputable def trk(h:Heap)(H:Hp):List Addr:=(List.range h.objs.size).filter fun a=>(H a).isSome
noncomputable def hidT(h:Heap)(H:Hp):Heap:=PySem.W.hideAll h (trk h H)
theorem y7m(h:Heap)(H:Hp):(hidT h H).objs.size=h.objs.size:=PySem.W.hideAll_size _ _
theorem y0e{h:Heap}{H:Hp}{b:Addr}{o:Obj}(e:h.get? b=some o)(n:H b=none):(hidT h H).get? b=some o :=
 PySem.W.hideAll_get _ e fun hm=>by
  have q:(H b).isSome=true:=(List.mem_filter.mp hm).2
  rw[n] at q;simp at q
theorem y2r{h:Heap}{H:Hp}{b:Addr}{o:Obj}(e:(hidT h H).get? b=some o):h.get? b=some o/\H b=none:=by
 have e':h.get? b=some o:=PySem.W.of_hideAll (trk h H) e
 refine⟨e',?_⟩
 cases q:H b with
 | none=>rfl
 | some x =>
   have hm:b∈trk h H:=List.mem_filter.mpr ⟨List.mem_range.mpr (Heap.lt_size e'),by simp[q]⟩
   have z:(hidT h H).get? b=none:=PySem.W.hideAll_none (trk h H) hm
   rw[z] at e;cases e
noncomputable def x2t(g h:Heap)(L:Addr):List (Addr×Obj):=(List.range h.objs.size).filterMap fun a=>if a=L∨(g.get? a).isSome=true then none else (h.get? a).map fun o=>(a,o)
noncomputable def rest(g h:Heap)(L d:Addr):List (Addr×Obj):=(x2t g h L).filter fun p=>decide (p.1≠d)
end L2
namespace L2
open PySem PySem.Spec PyProof.Rows
structure Mod (K:PySem.W.Frag) (mg:Str->Option Value) (base:Heap):Prop where
 kin:K.In base
 glob:base.Ns mainGlobals mg
 blt:∃mb,base.Ns builtinsNs mb/\∀x:Str,x≠"__name__"->mb x=bootBuiltins x
 nolimit:base.NoLimit
structure Cx where
 prog:Program
 w:World
 K:PySem.W.Frag
 mg:Str->Option Value
 base:Heap
 A:Around
 N:List Str
 s₀:Shared
 H₀:Hp
 env:Env
 outer:List Env
 stack:List Env
 ex:List Addr
 fn:Str->Bool
 calm:Bool
 pn:List (Addr×Obj)
 xe:Value->Shared->Prop
noncomputable def frs(l:List Env):List Addr:=l.filterMap (·.frame)
noncomputable abbrev Cx.fs (X:Cx):List Addr:=frs X.outer
noncomputable def Vis(sc:Scope)(x:Str):Prop:=sc.names.lookup x=some .local∨sc.names.lookup x=some .cell∨sc.names.lookup x=some .free
noncomputable def Loc(sc:Scope)(x:Str):Prop:=sc.names.lookup x=some .local∨sc.names.lookup x=some .cell
noncomputable def Look(env:Env)(h:Heap)(m:Str->Option Value)(x:Str)(u:Value):Prop :=
 (env.kindOf x=some .local/\m x=some u)∨((env.kindOf x=some .cell∨env.kindOf x=some .free)/\∃c,env.cells.lookup x=some c/\h.IsCell c (some u))
structure Cx.Ok (X:Cx):Prop where
 mod:Mod X.K X.mg X.base
 kind:X.env.scope.kind = .function
 glob:X.env.globals=mainGlobals
 blt:X.env.builtins=builtinsNs
 above:X.s₀.heap.objs.size<=X.env.locals
 inj:∀x y c,X.env.cells.lookup x=some c->X.env.cells.lookup y=some c->x=y
 has:∀x,(X.env.kindOf x=some .cell∨X.env.kindOf x=some .free)->∃c,X.env.cells.lookup x=some c
 cab:∀x c,X.fn x=true->X.env.cells.lookup x=some c->X.s₀.heap.objs.size<=c
 hd:X.calm=true->X.A.handled=none
 frames:X.A.frames=some X.stack
 stk:X.stack=X.outer∨(X.stack=X.env::X.outer/\X.env.frame=some X.env.locals)
 exf:∀b∈X.ex,b≠X.env.locals/\∀x c,X.env.cells.lookup x=some c->c≠b
 bs:∀b o,X.base.get? b=some o->X.s₀.heap.get? b=some o/\X.H₀ b=none
 bsz:X.base.objs.size<=X.s₀.heap.objs.size
 noex:∀b o,X.base.get? b=some o->b ∉ X.ex
 exfs:∀b∈X.ex,b ∉ X.fs
 funs:X.s₀.heap.FunFrames X.base X.outer
 frf:∀b∈X.fs,X.H₀ b=none
structure Inv (X:Cx) (pins:List (Addr×Obj)) (σ:List (Option V)) (H:Hp) (s:Shared):Prop where
 ok:X.Ok
 os:s.os=X.s₀.os
 bare:AllBare s.gens
 base:Un X.fs X.ex X.H₀ H X.s₀.heap s.heap
 loc:∃m,s.heap.Ns X.env.locals m/\∀(i:Nat) (x:Str) (v:V),X.N[i]? = some x->σ[i]? = some (some v)->Vis X.env.scope x->∃u,RelV v u/\Look X.env s.heap m x u
 cell:∀x c,X.env.cells.lookup x=some c->∃v,s.heap.IsCell c v
 free:H X.env.locals=none
 freeC:∀x c,X.env.cells.lookup x=some c->H c=none
 pin:∀p∈X.pn++pins,s.heap.get? p.1=some p.2/\H p.1=none/\p.1≠X.env.locals/\p.1 ∉ X.fs/\∀v,p.2.data ≠ .cell v
 hok:HOk X.prog X.w H s.heap
 len:σ.length=X.N.length
section
variable {X:Cx}{pins:List (Addr×Obj)}{σ:List (Option V)}{H H':Hp}{s:Shared}{h':Heap}
theorem Cx.Ok.nofr(ok:X.Ok){b:Addr}{o:Obj}(e:X.base.get? b=some o):b ∉ X.fs:=fun hb=>by
 have:=(ok.funs.mem hb).1
 rw[e] at this;cases this
theorem Inv.bs(I:Inv X pins σ H s):∀b o,X.base.get? b=some o->s.heap.get? b=some o/\H b=none:=fun b o e =>
 ⟨I.base.keep b o (I.ok.bs b o e).1 (I.ok.bs b o e).2 (I.ok.nofr e) (I.ok.noex b o e),I.base.free b o (I.ok.bs b o e).1 (I.ok.bs b o e).2 (I.ok.noex b o e)⟩
theorem Inv.bk(I:Inv X pins σ H s):∀b o,X.base.get? b=some o->s.heap.get? b=some o:=fun b o e=>(I.bs b o e).1
theorem Inv.mod(I:Inv X pins σ H s):Mod X.K X.mg X.base:=I.ok.mod
theorem Inv.kIn(I:Inv X pins σ H s):X.K.In s.heap:=I.ok.mod.kin.keeps I.bk
theorem Inv.nolimit(I:Inv X pins σ H s):s.heap.NoLimit:=I.ok.mod.nolimit.keeps I.bk
theorem Inv.fr(I:Inv X pins σ H s):∃m,Fr X.base X.env.locals s.heap m :=
 let ⟨m,hn,_⟩:=I.loc
 ⟨m,hn,I.bk,Nat.le_trans I.ok.bsz I.ok.above⟩
theorem Inv.lt(I:Inv X pins σ H s):X.env.locals<s.heap.objs.size:=let ⟨_,hn,_⟩:=I.loc;hn.lt
theorem Inv.sz(I:Inv X pins σ H s):X.s₀.heap.objs.size<=s.heap.objs.size:=Nat.le_trans I.ok.above (Nat.le_of_lt I.lt)
theorem Inv.nofs(I:Inv X pins σ H s){a:Addr}(h:s.heap.objs.size<=a):a ∉ X.fs:=fun hb=>by
 obtain⟨_,o,ho,_⟩:=I.ok.funs.mem hb
 exact absurd (Nat.lt_of_lt_of_le (Heap.lt_size ho) (Nat.le_trans I.sz h)) (Nat.lt_irrefl _)
theorem Inv.cne(I:Inv X pins σ H s):∀x c,X.env.cells.lookup x=some c->c≠X.env.locals:=fun x c e z=>by
 obtain⟨v,o,ho,hd⟩:=I.cell x c e
 obtain⟨m,⟨o',es,ep,ho',hd',_⟩,_⟩:=I.loc
 rw[z,ho'] at ho;cases ho;rw[hd'] at hd;cases hd
theorem Inv.funs(I:Inv X pins σ H s):s.heap.FunFrames X.base X.outer:=by
 have all:∀(l:List Env),(∀b∈frs l,b∈X.fs)->X.s₀.heap.FunFrames X.base l->s.heap.FunFrames X.base l:=by
  intro l
  induction l with
  | nil=>intro _ _;trivial
  | cons env r ih =>
    intro hs hl
    obtain⟨hk,⟨L,o,hf,hn,ho,hd⟩,hr⟩:=hl
    have hL:L∈X.fs:=hs L (by unfold frs;rw[List.filterMap_cons,hf];exact List.mem_cons_self)
    obtain⟨sl,e⟩:=I.base.slot L o ho (I.ok.frf L hL) hL fun z=>I.ok.exfs L z hL
    exact⟨hk,⟨L,_,hf,hn,e,hd⟩,ih (fun b hb=>hs b (by unfold frs;rw[List.filterMap_cons,hf];exact List.mem_cons_of_mem _ hb)) hr⟩
 exact all X.outer (fun _ hb=>hb) I.ok.funs
theorem Inv.stack(I:Inv X pins σ H s):s.heap.FunFrames X.base X.stack:=by
 rcases I.ok.stk with e | ⟨e,hf⟩
 ·rw[e];exact I.funs
 ·rw[e]
  obtain⟨m,hn,_⟩:=I.loc
  refine .cons (by rw[I.ok.kind];decide) hf hn ?_ I.funs
  exact Heap.get?_none_of_le (Nat.le_trans I.ok.bsz I.ok.above)
theorem Inv.stkSub(I:Inv X pins σ H s):∀b∈frs X.stack,b∈X.env.locals::X.fs:=fun b hb=>by
 rcases I.ok.stk with e | ⟨e,hf⟩
 ·rw[e] at hb;exact List.mem_cons_of_mem _ hb
 ·rw[e] at hb
  unfold frs at hb
  rw[List.filterMap_cons,hf] at hb
  exact hb
theorem Inv.stkFree(I:Inv X pins σ H s):∀b∈frs X.stack,H b=none:=fun b hb=>by
 rcases List.mem_cons.mp (I.stkSub b hb) with e | hb
 ·rw[e];exact I.free
 ·obtain⟨_,o,ho,_⟩:=I.ok.funs.mem hb
  exact I.base.free b o ho (I.ok.frf b hb) fun z=>I.ok.exfs b z hb
theorem Inv.step{g':Array GenState}{t':Nat}{d':Drawn}{ch:List Addr}(I:Inv X pins σ H s)
 (hch:∀b∈ch,(b∈X.ex∨X.s₀.heap.get? b=none)/\b≠X.env.locals/\(∀x c,X.env.cells.lookup x=some c->c≠b)/\∀p∈X.pn++pins,p.1≠b)
 (keep:∀b o,b≠X.env.locals->b ∉ X.fs->b ∉ ch->s.heap.get? b=some o->H b=none->h'.get? b=some o)
 (slot:∀b o,b≠X.env.locals->b∈X.fs->b ∉ ch->s.heap.get? b=some o->H b=none->∃sl,h'.get? b=some { o with slots:=sl }) (free:∀b o,b ∉ ch->s.heap.get? b=some o->H b=none->H' b=none)
 (there:∀b o,b ∉ ch->s.heap.get? b=some o->∃o',h'.get? b=some o')
 (tups:∀b xs,H b=some (.tup xs)->H' b=some (.tup xs)) (frzs:∀b o u,H b=some (.frz o u)->H' b=some (.frz o u)) (tbls:∀b ps,H b=some (.tbl ps)->∃more,H' b=some (.tbl (ps++more)))
 (ns:∀m,s.heap.Ns X.env.locals m->h'.Ns X.env.locals m) (hok:HOk X.prog X.w H' h') (hg:AllBare g') :
 Inv X pins σ H' { s with heap:=h',gens:=g',drawn:=d',toks:=t' }:=by
 have neL:∀b o,X.s₀.heap.get? b=some o->b≠X.env.locals:=fun b o e=>Nat.ne_of_lt (Nat.lt_of_lt_of_le (Heap.lt_size e) I.ok.above)
 have neC:∀b o,X.s₀.heap.get? b=some o->b ∉ X.ex->b ∉ ch:=fun b o e hx hb=>by
  rcases(hch b hb).1 with z | z
  ·exact hx z
  ·rw[e] at z;cases z
 have cellK:∀x c,X.env.cells.lookup x=some c->∀v,s.heap.IsCell c v->h'.IsCell c v:=fun x c e v ⟨o,ho,hd⟩=>by
  have nch:c ∉ ch:=fun z=>(hch c z).2.2.1 x c e rfl
  by_cases hc:c∈X.fs
  ·obtain⟨sl,q⟩:=slot c o (I.cne x c e) hc nch ho (I.freeC x c e)
   exact⟨_,q,hd⟩
  ·exact⟨o,keep c o (I.cne x c e) hc nch ho (I.freeC x c e),hd⟩
 refine⟨I.ok,I.os,hg,⟨fun b o e n hb hx=>?_,fun b o e n hb hx=>?_,fun b o e n hx=>?_,fun b o e hx=>?_,fun b xs e=>tups b xs (I.base.tups b xs e),fun b o xs e=>frzs b o xs (I.base.frzs b o xs e),fun b ps e=>?_⟩,?_,fun x c e=>?_,?_,fun x c e=>?_,fun p hp=>?_,hok,I.len⟩
 ·exact keep b o (neL b o e) hb (neC b o e hx) (I.base.keep b o e n hb hx) (I.base.free b o e n hx)
 ·obtain⟨sl,e1⟩:=I.base.slot b o e n hb hx
  obtain⟨sl',e2⟩:=slot b _ (neL b o e) hb (neC b o e hx) e1 (I.base.free b o e n hx)
  exact⟨sl',e2⟩
 ·obtain⟨o',e1⟩:=I.base.there b o e hx
  exact free b o' (neC b o e hx) e1 (I.base.free b o e n hx)
 ·obtain⟨o',e1⟩:=I.base.there b o e hx
  exact there b o' (neC b o e hx) e1
 ·obtain⟨m1,e1⟩:=I.base.tbls b ps e
  obtain⟨m2,e2⟩:=tbls b _ e1
  exact⟨m1++m2,by rw[e2,Array.append_assoc]⟩
 ·obtain⟨m,hn,hl⟩:=I.loc
  refine⟨m,ns m hn,fun i x v e1 e2 e3=>?_⟩
  obtain⟨u,r,l⟩:=hl i x v e1 e2 e3
  refine⟨u,r,?_⟩
  rcases l with l | ⟨k,c,e,z⟩
  ·exact .inl l
  ·exact .inr ⟨k,c,e,cellK x c e _ z⟩
 ·obtain⟨v,z⟩:=I.cell x c e
  exact⟨v,cellK x c e v z⟩
 ·obtain⟨m,⟨o,_,_,ho,_⟩,_⟩:=I.loc
  exact free _ o (fun z=>(hch _ z).2.1 rfl) ho I.free
 ·obtain⟨v,o,ho,hd⟩:=I.cell x c e
  exact free c o (fun z=>(hch c z).2.2.1 x c e rfl) ho (I.freeC x c e)
 ·obtain⟨e,n,ne,nf,d⟩:=I.pin p hp
  have nch:p.1 ∉ ch:=fun z=>(hch p.1 z).2.2.2 p hp rfl
  exact⟨keep p.1 p.2 ne nf nch e n,free p.1 p.2 nch e n,ne,nf,d⟩
theorem Inv.un{t':Nat}(I:Inv X pins σ H s)(u:Un X.fs [] H H' s.heap h')(hok:HOk X.prog X.w H' h'):Inv X pins σ H' { s with heap:=h',toks:=t' }:=by
 obtain⟨m,⟨o,es,ep,ho,r⟩,_⟩:=id I.loc
 obtain⟨sl,hL⟩:=u.any ho I.free (by simp)
 exact I.step (g':=s.gens) (d':=s.drawn) (ch:=[]) (fun _ z=>nomatch z) (fun b o _ hb _ e n=>u.keep b o e n hb (by simp)) (fun b o _ hb _ e n=>u.slot b o e n hb (by simp)) (fun b o _ e n=>u.free b o e n (by simp)) (fun b o _ e=>u.there b o e (by simp)) u.tups u.frzs u.tbls (fun m' hm=>by
  obtain⟨o',es',ep',ho',r'⟩:=hm
  rw[ho] at ho';cases ho'
  exact⟨_,es',ep',hL,r'⟩) hok I.bare
theorem Inv.call{g':Array GenState}{t':Nat}{d':Drawn}{ch:List Addr}(I:Inv X pins σ H s)(u:Un (frs X.stack) ch H H' s.heap h')(hok:HOk X.prog X.w H' h')(hg:AllBare g')
 (hch:∀b∈ch,(b∈X.ex∨X.s₀.heap.get? b=none)/\b≠X.env.locals/\(∀x c,X.env.cells.lookup x=some c->c≠b)/\∀p∈X.pn++pins,p.1≠b) :
 Inv X pins σ H' { s with heap:=h',gens:=g',drawn:=d',toks:=t' }:=by
 obtain⟨m,⟨o,es,ep,ho,r⟩,_⟩:=id I.loc
 obtain⟨sl,hL⟩:=u.any ho I.free fun z=>(hch _ z).2.1 rfl
 exact I.step (ch:=ch) hch (fun b o hL hb hc e n=>u.keep b o e n (fun z=>(List.mem_cons.mp (I.stkSub b z)).elim hL hb) hc) (fun b o _ _ hc e n=>u.any e n hc) (fun b o hc e n=>u.free b o e n hc) (fun b o hc e=>u.there b o e hc) u.tups u.frzs u.tbls (fun m' hm=>by
  obtain⟨o',es',ep',ho',r'⟩:=hm
  rw[ho] at ho';cases ho'
  exact⟨_,es',ep',hL,r'⟩) hok hg
theorem Inv.turned{t':Nat}{it:Addr}(I:Inv X pins σ H s)(k:∀b o,b≠it->s.heap.get? b=some o->h'.get? b=some o)(hn:H it=none)(hL:it≠X.env.locals)
 (h1:it∈X.ex∨X.s₀.heap.objs.size<=it) (h2:∀x c,X.env.cells.lookup x=some c->c≠it) (h3:∀p∈X.pn++pins,p.1≠it):Inv X pins σ H { s with heap:=h',toks:=t' }:=by
 have nit:∀b u,H b=some u->b≠it:=fun b u e z=>by rw[z,hn] at e;cases e
 refine I.step (g':=s.gens) (d':=s.drawn) (ch:=[it]) (fun b hb=>?_) (fun b o _ _ hc e _=>k b o (fun z=>hc (by simp[z])) e) (fun b o _ _ hc e _=>⟨o.slots,k b o (fun z=>hc (by simp[z])) e⟩) (fun _ _ _ _ n=>n)
  (fun b o hc e=>⟨o,k b o (fun z=>hc (by simp[z])) e⟩) (fun _ _ e=>e) (fun _ _ _ e=>e) (fun b ps e=>⟨#[],by rw[e];simp⟩) (fun m hm=>?_) (fun b u e=>?_) I.bare
 ·have e:b=it:=by simpa using hb
  subst e
  exact⟨h1.imp_right fun z=>Heap.get?_none_of_le z,hL,h2,h3⟩
 ·obtain⟨o,es,ep,ho,r⟩:=hm
  exact⟨o,es,ep,k _ o (Ne.symm hL) ho,r⟩
 ·refine(I.hok b u e).stay (fun c v hc q=>k c v ?_ q) (fun _ q=>q) fun _ _ q=>q
  rcases hc with z | z
  ·rw[z];exact nit b u e
  ·exact nit c _ z
theorem Inv.tok(I:Inv X pins σ H s)(t:Nat):Inv X pins σ H { s with toks:=t }:=I.un (h':=s.heap) (t':=t) Un.refl I.hok
theorem Inv.kept{t':Nat}(I:Inv X pins σ H s)(k:∀b u,s.heap.get? b=some u->h'.get? b=some u):Inv X pins σ H { s with heap:=h',toks:=t' }:=I.un (Un.kept k) (I.hok.kept k)
theorem Inv.laid{a:Addr}{o:HO}{t':Nat}(I:Inv X pins σ H s)(k:∀b u,s.heap.get? b=some u->h'.get? b=some u)(hp:s.heap.objs.size<=a)(new:z5q X.prog X.w (upd H a o) h' a o) :
 Inv X pins σ (upd H a o) { s with heap:=h',toks:=t' }:=I.un (Un.laid k hp (I.hok.fresh hp)) (I.hok.laid k hp new)
theorem Inv.write{x e:Addr}{o:HO}{t':Nat}(I:Inv X pins σ H s)(mu:Mut (H x))(he:e=x∨H e=some (.own x))(k:∀b u,b≠e->s.heap.get? b=some u->h'.get? b=some u)(heo:∃u,h'.get? e=some u)
 (new:z5q X.prog X.w (upd H x o) h' x o):Inv X pins σ (upd H x o) { s with heap:=h',toks:=t' }:=I.un (Un.write mu he k heo) (I.hok.write mu he k heo new)
theorem Inv.pins_of{pins':List (Addr×Obj)}(I:Inv X pins σ H s)(h:∀p∈pins',s.heap.get? p.1=some p.2/\H p.1=none/\p.1≠X.env.locals/\p.1 ∉ X.fs/\∀v,p.2.data ≠ .cell v):Inv X pins' σ H s :=
 ⟨I.ok,I.os,I.bare,I.base,I.loc,I.cell,I.free,I.freeC,fun p hp=>(List.mem_append.mp hp).elim (fun z=>I.pin p (List.mem_append_left _ z)) (h p),I.hok,I.len⟩
theorem y3v{N:List Str}(hN:N.Nodup){i j:Nat}{x:Str}(a:N[i]? = some x)(b:N[j]? = some x):i=j:=by
 obtain⟨h1,e1⟩:=List.getElem?_eq_some_iff.mp a
 obtain⟨h2,e2⟩:=List.getElem?_eq_some_iff.mp b
 exact(List.getElem_inj hN).mp (e1.trans e2.symm)
theorem z6d{M:Model}{A:Around}{E:Value->Shared->Prop}{i:Nat}{x:Str}{v:V}{u:Value}{Q:Unit->Shared->Prop}(I:Inv X pins σ H s)(hN:X.N.Nodup)(hi:X.N[i]? = some x)(hx:Loc X.env.scope x)(r:RelV v u)
 (h:∀s',Inv X pins (σ.set i (some v)) H s'->(∃a,Heap.SameBut a s.heap s'.heap/\(a=X.env.locals∨X.env.cells.lookup x=some a))->Q () s') (hf:X.fn x=true∨X.env.scope.names.lookup x=some .local:=by first | exact .inl rfl | exact .inr rfl | assumption):wpAny M A (storeName X.env x u) Q E s:=by
 obtain⟨m,hn,hl⟩:=id I.loc
 have hcls:(X.env.scope.kind == .class||(X.env.scope.kind == .module&&X.env.locals != X.env.globals))=false:=by rw[I.ok.kind];rfl
 have hiσ:i<σ.length:=by rw[I.len];exact(List.getElem?_eq_some_iff.mp hi).1
 have cne:=I.cne
 have tracked:∀{a:Addr} {h':Heap},(∃o,s.heap.get? a=some o/\H a=none)->Heap.SameBut a s.heap h'->HOk X.prog X.w H h':=fun {a h'} ha hs b ob e=>by
  obtain⟨_,_,hfree⟩:=ha
  refine(I.hok b ob e).stay (fun c w' hc q=>(hs.2 c ?_).trans q) (fun _ q=>q) fun _ _ q=>q
  rintro rfl
  rcases hc with rfl | hc
  ·rw[hfree] at e;cases e
  ·rw[hfree] at hc;cases hc
 rcases hx with hk | hk
 ·refine wpAny_storeName_local hk hn (fun h' hn' hs=>?_) hcls
  obtain⟨oL,_,_,hoL,_⟩:=id hn
  refine h _ ⟨I.ok,I.os,I.bare,⟨fun b o e n hb hx=>?_,fun b o e n hb hx=>?_,I.base.free,fun b o e hx=>?_,I.base.tups,I.base.frzs,I.base.tbls⟩,⟨_,hn',fun j y v' e1 e2 e3=>?_⟩,fun y c e=>?_,I.free,I.freeC,fun p hp=>?_,tracked ⟨oL,hoL,I.free⟩ hs,by simpa using I.len⟩ ⟨_,hs,.inl rfl⟩
  ·exact(hs.2 b (Nat.ne_of_lt (Nat.lt_of_lt_of_le (Heap.lt_size e) I.ok.above))).trans (I.base.keep b o e n hb hx)
  ·obtain⟨sl,e1⟩:=I.base.slot b o e n hb hx
   exact⟨sl,(hs.2 b (Nat.ne_of_lt (Nat.lt_of_lt_of_le (Heap.lt_size e) I.ok.above))).trans e1⟩
  ·obtain⟨o',e1⟩:=I.base.there b o e hx
   exact⟨o',(hs.2 b (Nat.ne_of_lt (Nat.lt_of_lt_of_le (Heap.lt_size e) I.ok.above))).trans e1⟩
  ·by_cases hj:j=i
   ·subst hj
    rw[hi] at e1;cases e1
    rw[List.getElem?_set_self hiσ] at e2
    cases e2
    exact⟨u,r,.inl ⟨hk,by simp⟩⟩
   ·rw[List.getElem?_set_ne (Ne.symm hj)] at e2
    obtain⟨u',r',q⟩:=hl j y v' e1 e2 e3
    refine⟨u',r',?_⟩
    rcases q with ⟨k,e⟩ | ⟨k,c,e,z⟩
    ·refine .inl ⟨k,?_⟩
     have:y≠x:=fun e=>hj (y3v hN e1 (e ▸ hi))
     simp[this,e]
    ·exact .inr ⟨k,c,e,z.sameBut hs (cne y c e)⟩
  ·obtain⟨w',z⟩:=I.cell y c e
   exact⟨w',z.sameBut hs (cne y c e)⟩
  ·obtain⟨e,n,ne,nf,d⟩:=I.pin p hp
   exact⟨(hs.2 p.1 ne).trans e,n,ne,nf,d⟩
 ·have hfn:X.fn x=true:=by
   rcases hf with z | z
   ·exact z
   ·rw[z] at hk;cases hk
  obtain⟨c,hc⟩:=I.ok.has x (.inl hk)
  obtain⟨w',z⟩:=I.cell x c hc
  refine wpAny_storeName_cell I.ok.kind hk hc z (fun h' hc' hs=>?_)
  obtain⟨oc,hoc,hocd⟩:=id z
  refine h { s with heap:=h' } ⟨I.ok,I.os,I.bare,⟨fun b o e n hb hx=>?_,fun b o e n hb hx=>?_,I.base.free,fun b o e hx=>?_,I.base.tups,I.base.frzs,I.base.tbls⟩,⟨m,hn.sameBut hs (Ne.symm (cne x c hc)),fun j y v' e1 e2 e3=>?_⟩,fun y c' e=>?_,I.free,I.freeC,fun p hp=>?_,tracked ⟨oc,hoc,I.freeC x c hc⟩ hs,by simpa using I.len⟩ ⟨c,hs,.inr hc⟩
  ·exact(hs.2 b (Nat.ne_of_lt (Nat.lt_of_lt_of_le (Heap.lt_size e) (I.ok.cab x c hfn hc)))).trans (I.base.keep b o e n hb hx)
  ·obtain⟨sl,e1⟩:=I.base.slot b o e n hb hx
   exact⟨sl,(hs.2 b (Nat.ne_of_lt (Nat.lt_of_lt_of_le (Heap.lt_size e) (I.ok.cab x c hfn hc)))).trans e1⟩
  ·obtain⟨o',e1⟩:=I.base.there b o e hx
   exact⟨o',(hs.2 b (Nat.ne_of_lt (Nat.lt_of_lt_of_le (Heap.lt_size e) (I.ok.cab x c hfn hc)))).trans e1⟩
  ·by_cases hj:j=i
   ·subst hj
    rw[hi] at e1;cases e1
    rw[List.getElem?_set_self hiσ] at e2
    cases e2
    exact⟨u,r,.inr ⟨.inl hk,c,hc,hc'⟩⟩
   ·rw[List.getElem?_set_ne (Ne.symm hj)] at e2
    obtain⟨u',r',q⟩:=hl j y v' e1 e2 e3
    refine⟨u',r',?_⟩
    rcases q with q | ⟨k,c',e,z'⟩
    ·exact .inl q
    ·refine .inr ⟨k,c',e,z'.sameBut hs ?_⟩
     rintro rfl
     exact hj (y3v hN e1 (I.ok.inj _ _ _ e hc ▸ hi))
  ·by_cases hcc:c'=c
   ·subst hcc;exact⟨_,hc'⟩
   ·obtain⟨w2,z2⟩:=I.cell y c' e
    exact⟨w2,z2.sameBut hs hcc⟩
  ·obtain⟨e,n,ne,nf,d⟩:=I.pin p hp
   refine⟨(hs.2 p.1 ?_).trans e,n,ne,nf,d⟩
   intro q
   rw[q,hoc] at e
   have q':oc=p.2:=Option.some.inj e
   exact d w' (by rw[<-q'];exact hocd)
theorem z7j{M:Model}{A:Around}{E:Value->Shared->Prop}{i:Nat}{x:Str}{v:V}{u:Value}{Q:Unit->Shared->Prop}(I:Inv X pins σ H s)(hN:X.N.Nodup)(hi:X.N[i]? = some x)(hx:Loc X.env.scope x)(r:RelV v u)
 (h:∀s',Inv X pins (σ.set i (some v)) H s'->Q () s') (hf:X.fn x=true∨X.env.scope.names.lookup x=some .local:=by first | exact .inl rfl | exact .inr rfl | assumption):wpAny M A (storeName X.env x u) Q E s :=
 z6d I hN hi hx r (fun s' I' _=>h s' I') hf
end
noncomputable abbrev XK:=Value->Option Addr->Hp->Prop
noncomputable abbrev St:=List (Option V)
noncomputable abbrev VK:=V->Hp->Prop
noncomputable abbrev TE:=St->Hp->VK->Prop
noncomputable abbrev TT:=St->Hp->(Bool->Hp->Prop)->Prop
noncomputable abbrev TA:=St->Hp->(List V->Hp->Prop)->Prop
structure Ends where
 nx:St->Hp->Prop
 rt:VK
 bk:St->Hp->Prop:=fun _ _=>False
 ct:St->Hp->Prop:=fun _ _=>False
noncomputable abbrev TS:=Ends->St->Hp->Prop
noncomputable def EP(X:Cx)(pins:List (Addr×Obj))(σ:St)(Q:VK)(u:Value)(s':Shared):Prop:=∃v H',Inv X pins σ H' s'/\RelV v u/\Q v H'
noncomputable def TP(X:Cx)(pins:List (Addr×Obj))(σ:St)(Q:Bool->Hp->Prop)(b:Bool)(s':Shared):Prop:=∃H',Inv X pins σ H' s'/\Q b H'
noncomputable def SP(X:Cx)(pins:List (Addr×Obj))(D:Ends)(f:Flow)(s':Shared):Prop :=
 match f with
 | .next=>∃σ' H',Inv X pins σ' H' s'/\D.nx σ' H'
 | .brk=>∃σ' H',Inv X pins σ' H' s'/\D.bk σ' H'
 | .cont=>∃σ' H',Inv X pins σ' H' s'/\D.ct σ' H'
 | .ret u=>∃v σ' H',Inv X pins σ' H' s'/\RelV v u/\D.rt v H'
noncomputable def PE(X:Cx)(e:Expr)(t:TE):Prop :=
 ∀(pins:List (Addr×Obj)) (s:Shared) (σ:St) (H:Hp) (Q:VK),Inv X pins σ H s->t σ H Q->wpAny (model X.prog X.w) X.A (eval e X.env) (EP X pins σ Q) X.xe s
noncomputable def PT(X:Cx)(e:Expr)(t:TT):Prop :=
 ∀(pins:List (Addr×Obj)) (s:Shared) (σ:St) (H:Hp) (Q:Bool->Hp->Prop),Inv X pins σ H s->t σ H Q->wpAny (model X.prog X.w) X.A (isTrue e X.env (eval e X.env)) (TP X pins σ Q) X.xe s
noncomputable def PW(X:Cx)(e:Expr)(t:TT):Prop :=
 ∀(whole:Sem Value) (pins:List (Addr×Obj)) (s:Shared) (σ:St) (H:Hp) (Q:Bool->Hp->Prop),Inv X pins σ H s->t σ H Q->wpAny (model X.prog X.w) X.A (isTrue e X.env whole) (TP X pins σ Q) X.xe s
theorem PW.pt{X:Cx}{e:Expr}{t:TT}(h:PW X e t):PT X e t:=h _
noncomputable def PSs(X:Cx)(st:List Stmt)(t:TS):Prop :=
 ∀(pins:List (Addr×Obj)) (s:Shared) (σ:St) (H:Hp) (D:Ends),Inv X pins σ H s->t D σ H->wpAny (model X.prog X.w) X.A (execs st X.env) (SP X pins D) X.xe s
theorem thn{α:Type}{t:Sem α}{Q Q':α->Shared->Prop}{M:Model}{A:Around}{E:Value->Shared->Prop}{s:Shared}(h:wpAny M A t Q E s)(hQ:∀a s,Q a s->Q' a s):wpAny M A t Q' E s:=wpAny_mono h hQ fun _ _ x=>x
end L2
namespace L2
open PySem PySem.Spec PyProof.Rows
section
variable {X:Cx}
noncomputable def tVar(i:Nat):TE:=fun σ H Q=>∃v,σ[i]? = some (some v)/\Q v H
noncomputable def tC(v:V):TE:=fun _ H Q=>Q v H
theorem y1d{i:Nat}{x:Str}{pos:Pos}(hN:X.N[i]? = some x)(hv:Vis X.env.scope x)(hd:(x==("__debug__":Str))=false:=by decide)(hcd:(x==("__classdict__":Str))=false:=by decide):PE X (.Name x pos) (tVar i):=by
 intro pins s σ H Q I h
 obtain⟨v,e,h⟩:=h
 obtain⟨m,hn,hl⟩:=I.loc
 obtain⟨u,r,l⟩:=hl i x v hN e hv
 have fin:EP X pins σ Q u s:=⟨v,H,I,r,h⟩
 rcases l with ⟨hk,hm⟩ | ⟨hk,c,hc,hcell⟩
 ·exact wpAny_Name (wpAny_loadName_local I.ok.kind hk hn hm fin) hd
 ·rcases hk with hk | hk
  ·exact wpAny_Name (wpAny_loadName_cell I.ok.kind hk hc hcell fin) hd
  ·exact wpAny_Name (wpAny_loadName_free I.ok.kind hk hc hcell fin hcd) hd
theorem x3m{i j pos}:PE X (.Constant (.int i) j pos) (tC (.int i)):=fun _ _ _ H _ I h=>wpAny_Constant_int ⟨.int i,H,I.tok _,⟨_,rfl⟩,h⟩
theorem x4x{b j pos}:PE X (.Constant (.bool b) j pos) (tC (.bl b)):=fun _ _ _ H _ I h=>Constant_bool ⟨.bl b,H,I,rfl,h⟩
theorem x3l{j pos}:PE X (.Constant .none j pos) (tC .non):=fun _ _ _ H _ I h=>Constant_none ⟨.non,H,I,rfl,h⟩
theorem x3k{x j pos}:PE X (.Constant (.str x) j pos) (tC (.str x)):=fun _ _ _ H _ I h=>Calls.Constant_str ⟨.str x,H,I.tok _,⟨_,rfl⟩,h⟩
noncomputable def Gl(X:Cx)(x:Str):Prop:=X.env.kindOf x=some .globalImplicit
theorem y0c{E:Value->Shared->Prop}{pins:List (Addr×Obj)}{s:Shared}{σ:St}{H:Hp}{x:Str}{u:Value}{pos:Pos}{Q:Value->Shared->Prop}(I:Inv X pins σ H s)(hg:Gl X x)(hm:X.mg x=some u)(h:Q u s)
 (hd:(x==("__debug__":Str))=false:=by decide):wpAny (model X.prog X.w) X.A (eval (.Name x pos) X.env) Q E s :=
 Calls.Name_function_global I.ok.kind hg (Calls.loadGlobal_global (by rw[I.ok.glob];exact I.mod.glob.keeps I.bk) hm h) hd
theorem z4j{E:Value->Shared->Prop}{pins:List (Addr×Obj)}{s:Shared}{σ:St}{H:Hp}{x:Str}{u:Value}{pos:Pos}{Q:Value->Shared->Prop}(I:Inv X pins σ H s)(hg:Gl X x)(hm:X.mg x=none)(hv:bootBuiltins x=some u)(h:Q u s)
 (hn:x≠"__name__":=by decide) (hd:(x==("__debug__":Str))=false:=by decide):wpAny (model X.prog X.w) X.A (eval (.Name x pos) X.env) Q E s:=by
 obtain⟨mb,h1,h2⟩:=I.mod.blt
 exact Calls.Name_function_global I.ok.kind hg (Calls.loadGlobal_builtin (by rw[I.ok.glob];exact I.mod.glob.keeps I.bk) hm (by rw[I.ok.blt];exact h1.keeps I.bk) ((h2 x hn).trans hv) h) hd
variable {a b:Expr}{ta tb:TE}{pos:Pos}
variable {tA tB':TT}{rest:List Expr}
end
end L2
namespace L2
open PySem PySem.Spec PyProof.Rows
noncomputable def SqL(K:PySem.W.Frag)(H:Hp)(a:Addr)(xs:List V):Prop :=
 Rd H a (.lst xs) ∨
  ∃(o:Obj) (its:Array Value) (n:Nat),K.lookup a=some o/\o.cls = .type "list"/\o.dict=none/\o.data = .seq its n/\its.size<=sizeLine/\Vals xs its.toList
noncomputable def SqT(K:PySem.W.Frag)(H:Hp)(a:Addr)(xs:List V):Prop :=
 Rd H a (.tup xs) ∨
  ∃(o:Obj) (its:Array Value) (n:Nat),K.lookup a=some o/\o.cls = .type "tuple"/\o.data = .seq its n/\its.size<=sizeLine/\Vals xs its.toList
noncomputable def absV:Value->Option V
 | .none=>some .non
 | .bool b=>some (.bl b)
 | .int i _=>some (.int i)
 | .str x _=>some (.str x)
 | .bytes b _=>some (.byt b)
 | .float b _=>some (.flt b)
 | .ref a=>some (.ref a)
 | .type n=>some (.ty n)
 | _=>none
theorem RelV.abs{x:V}{u:Value}(r:RelV x u):absV u=some x:=by
 cases x with
 | non=>cases r;rfl
 | bl _=>cases r;rfl
 | int _=>obtain⟨t,rfl⟩:=r;rfl
 | str _=>obtain⟨t,rfl⟩:=r;rfl
 | byt _=>obtain⟨t,rfl⟩:=r;rfl
 | flt _=>obtain⟨t,rfl⟩:=r;rfl
 | ref _=>cases r;rfl
 | ty _=>cases r;rfl
theorem RelV.inj{x y:V}{u:Value}(r:RelV x u)(q:RelV y u):x=y:=Option.some.inj (r.abs.symm.trans q.abs)
theorem Vals.inj:∀{xs ys:List V} {us:List Value},Vals xs us->Vals ys us->xs=ys
 | _,_,_,.nil,.nil=>rfl
 | _,_,_,.cons r t,.cons r' t'=>by rw[r.inj r',Vals.inj t t']
section
variable {X:Cx}{pins:List (Addr×Obj)}{σ:St}{H:Hp}{s:Shared}{a:Addr}{xs ys:List V}
theorem SqL.of{K:PySem.W.Frag}(h:H a=some (.lst xs)):SqL K H a xs:=.inl (.inl h)
theorem SqT.of{K:PySem.W.Frag}(h:H a=some (.tup xs)):SqT K H a xs:=.inl (.inl h)
theorem Inv.list(I:Inv X pins σ H s)(h:SqL X.K H a xs):∃its:List Value,Vals xs its/\PlainL s.heap a its.toArray/\xs.length<=sizeLine:=by
 rcases h with h | ⟨o,its,n,hk,hc,hd,hs,hz,r⟩
 ·obtain⟨z,its,n,r,e⟩:=h.ok I.hok
  exact⟨its,r,⟨_,n,e,rfl,rfl,rfl⟩,z⟩
 ·refine⟨its.toList,r,⟨o,n,I.kIn a o hk,hc,hd,by simpa using hs⟩,?_⟩
  have e:=r.length
  simp only[Array.length_toList] at e
  omega
theorem Inv.tuple(I:Inv X pins σ H s)(h:SqT X.K H a xs):∃its:List Value,Vals xs its/\IsTup s.heap a its.toArray/\xs.length<=sizeLine:=by
 rcases h with h | ⟨o,its,n,hk,hc,hs,hz,r⟩
 ·obtain⟨z,its,r,p⟩:=h.ok I.hok
  exact⟨its,r,p,z⟩
 ·refine⟨its.toList,r,⟨o,I.kIn a o hk,hc,n,by simpa using hs⟩,?_⟩
  have e:=r.length
  simp only[Array.length_toList] at e
  omega
theorem Inv.list_inj(I:Inv X pins σ H s)(h:SqL X.K H a xs)(h':SqL X.K H a ys):xs=ys:=by
 obtain⟨its,r,⟨o,n,e,_,_,d⟩,_⟩:=I.list h
 obtain⟨its',r',⟨o',n',e',_,_,d'⟩,_⟩:=I.list h'
 rw[e] at e';cases e'
 rw[d] at d'
 injection d' with d1 _
 have:its=its':=by simpa using congrArg Array.toList d1
 subst this
 exact r.inj r'
theorem Inv.tuple_inj(I:Inv X pins σ H s)(h:SqT X.K H a xs)(h':SqT X.K H a ys):xs=ys:=by
 obtain⟨its,r,⟨o,e,_,n,d⟩,_⟩:=I.tuple h
 obtain⟨its',r',⟨o',e',_,n',d'⟩,_⟩:=I.tuple h'
 rw[e] at e';cases e'
 rw[d] at d'
 injection d' with d1 _
 have:its=its':=by simpa using congrArg Array.toList d1
 subst this
 exact r.inj r'
end
noncomputable abbrev Cx.wish (X:Cx) (E:Value->Shared->Prop):Cx:={ X with xe:=E }
noncomputable abbrev Cx.nox (X:Cx):Cx:=X.wish fun _ _=>False
theorem Cx.Ok.wish{X:Cx}(ok:X.Ok)(E:Value->Shared->Prop):(X.wish E).Ok :=
 ⟨ok.mod,ok.kind,ok.glob,ok.blt,ok.above,ok.inj,ok.has,ok.cab,ok.hd,ok.frames,ok.stk,ok.exf,ok.bs,ok.bsz,ok.noex,ok.exfs,ok.funs,ok.frf⟩
theorem Cx.Ok.unwish{X:Cx}{E:Value->Shared->Prop}(ok:(X.wish E).Ok):X.Ok :=
 ⟨ok.mod,ok.kind,ok.glob,ok.blt,ok.above,ok.inj,ok.has,ok.cab,ok.hd,ok.frames,ok.stk,ok.exf,ok.bs,ok.bsz,ok.noex,ok.exfs,ok.funs,ok.frf⟩
section
variable {X:Cx}{pins:List (Addr×Obj)}{σ:St}{H:Hp}{s:Shared}{E:Value->Shared->Prop}
theorem Inv.wish(I:Inv X pins σ H s)(E:Value->Shared->Prop):Inv (X.wish E) pins σ H s:=⟨I.ok.wish E,I.os,I.bare,I.base,I.loc,I.cell,I.free,I.freeC,I.pin,I.hok,I.len⟩
theorem Inv.unwish(I:Inv (X.wish E) pins σ H s):Inv X pins σ H s:=⟨I.ok.unwish,I.os,I.bare,I.base,I.loc,I.cell,I.free,I.freeC,I.pin,I.hok,I.len⟩
theorem SP.unwish{D:Ends}{f:Flow}{s':Shared}(h:SP (X.wish E) pins D f s'):SP X pins D f s':=by
 cases f with
 | next=>obtain⟨σ',H',I,q⟩:=h;exact⟨σ',H',I.unwish,q⟩
 | brk=>obtain⟨σ',H',I,q⟩:=h;exact⟨σ',H',I.unwish,q⟩
 | cont=>obtain⟨σ',H',I,q⟩:=h;exact⟨σ',H',I.unwish,q⟩
 | ret u=>obtain⟨v,σ',H',I,r,q⟩:=h;exact⟨v,σ',H',I.unwish,r,q⟩
theorem PE.nox{e:Expr}{t:TE}(h:PE X.nox e t):PE X e t:=fun pins s σ H Q I hw =>
 wpAny_mono (h pins s σ H Q (I.wish _) hw) (fun _ _ ⟨v,H',I',r,q⟩=>⟨v,H',I'.unwish,r,q⟩) fun _ _ z=>False.elim z
theorem PT.nox{e:Expr}{t:TT}(h:PT X.nox e t):PT X e t:=fun pins s σ H Q I hw =>
 wpAny_mono (h pins s σ H Q (I.wish _) hw) (fun _ _ ⟨H',I',q⟩=>⟨H',I'.unwish,q⟩) fun _ _ z=>False.elim z
theorem PSs.nox{st:List Stmt}{t:TS}(h:PSs X.nox st t):PSs X st t:=fun pins s σ H D I hw =>
 wpAny_mono (h pins s σ H D (I.wish _) hw) (fun _ _ q=>q.unwish) fun _ _ z=>False.elim z
end
section
variable {X:Cx}{st:Stmt}{rest:List Stmt}{t u:TS}{e:Expr}{te:TE}{pos:Pos}
theorem Inv.quiet{pins:List (Addr×Obj)}{σ:St}{H:Hp}{s:Shared}(I:Inv X pins σ H s):interactive X.env=false:=by simp[interactive,I.ok.kind]
end
noncomputable abbrev TG:=V->St->Hp->(St->Hp->Prop)->Prop
noncomputable abbrev TGs:=List V->St->Hp->(St->Hp->Prop)->Prop
noncomputable def PG(X:Cx)(target:Expr)(t:TG):Prop :=
 ∀(pins:List (Addr×Obj)) (s:Shared) (σ:St) (H:Hp) (v:V) (u:Value) (Q:St->Hp->Prop),Inv X pins σ H s->RelV v u->t v σ H Q ->
  wpAny (model X.prog X.w) X.A (assign target X.env u) (fun _ s'=>∃σ' H',Inv X pins σ' H' s'/\Q σ' H') X.xe s
noncomputable def PGs(X:Cx)(ts:List Expr)(t:TGs):Prop :=
 ∀(pins:List (Addr×Obj)) (s:Shared) (σ:St) (H:Hp) (vs:List V) (us:List Value) (Q:St->Hp->Prop),Inv X pins σ H s->Vals vs us->t vs σ H Q ->
  wpAny (model X.prog X.w) X.A (assignInOrder ((assignEach ts X.env).map (·.2)) us) (fun _ s'=>∃σ' H',Inv X pins σ' H' s'/\Q σ' H') X.xe s
section
variable {X:Cx}{pos:Pos}
noncomputable def y1q(i:Nat):TG:=fun v σ H Q=>Q (σ.set i (some v)) H
theorem z5t{i:Nat}{x:Str}(hN:X.N.Nodup)(hi:X.N[i]? = some x)(hx:Loc X.env.scope x)(hf:X.fn x=true∨X.env.scope.names.lookup x=some .local:=by first | exact .inl rfl | exact .inr rfl | assumption):PG X (.Name x pos) (y1q i):=by
 intro pins s σ H v u Q I r h
 exact wpAny_assign_Name (z7j I hN hi hx r (fun s' I'=>⟨_,H,I',h⟩) hf)
noncomputable def gNil:TGs:=fun vs σ H Q=>vs=[]/\Q σ H
noncomputable def gCons(t:TG)(u:TGs):TGs:=fun vs σ H Q=>∃v r,vs=v::r/\t v σ H fun σ' H'=>u r σ' H' Q
theorem y6m:PGs X [] gNil:=by
 intro pins s σ H vs us Q I r h
 obtain⟨e,h⟩:=h
 subst e
 cases r
 exact assignInOrder_nil ⟨σ,H,I,h⟩
theorem z7l{e:Expr}{es:List Expr}{t:TG}{u:TGs}(h1:PG X e t)(h2:PGs X es u)
 (hs:(assignEach (e::es) X.env).map (·.2)=assign e X.env::(assignEach es X.env).map (·.2):=by rfl):PGs X (e::es) (gCons t u):=by
 intro pins s σ H vs us Q I r h
 obtain⟨v,vr,e1,h⟩:=h
 subst e1
 cases r with
 | cons r rr =>
   rw[hs]
   refine assignInOrder_cons (thn (h1 pins s σ H _ _ _ I r h) fun _ s1 ⟨σ1,H1,I1,q1⟩=>?_)
   exact h2 pins s1 σ1 H1 _ _ Q I1 rr q1
noncomputable def gTup(K:PySem.W.Frag)(n:Nat)(t:TGs):TG:=fun v σ H Q=>∃a xs,v = .ref a/\SqT K H a xs/\xs.length=n/\t xs σ H Q
theorem x0i{es:List Expr}{k:Nat}{t:TGs}{n:Nat}(hc:X.calm=true)(h:PGs X es t)
 (hn:(assignEach es X.env).length=n:=by rfl) (hst:(assignEach es X.env).findIdx? (·.1)=none:=by rfl):PG X (.Tuple es k pos) (gTup X.K n t):=by
 intro pins s σ H v u Q I r hw
 obtain⟨a,xs,e1,hq,hl,hw⟩:=hw
 subst e1
 cases r
 obtain⟨its,rv,ht,hz⟩:=I.tuple hq
 refine assign_Tuple_tuple (I.ok.hd hc) ht (by simp[hn,<-hl,rv.length]) hst fun h' hx=>?_
 have I1:Inv X pins σ H { s with heap:=h' }:=I.kept (t':=s.toks) fun b o e=>hx b o (Nat.ne_of_lt (Heap.lt_size e)) e
 exact h pins _ σ H xs _ Q I1 (by simpa using rv) hw
end
section
variable {X:Cx}{pos:Pos}
end
structure It where
 go:Nat->Hp->Prop
 yld:Nat->Hp->V->Hp->Prop
 stop:Nat->Hp->Prop
noncomputable def FpOk(X:Cx)(pins:List (Addr×Obj))(H:Hp)(b:Addr):Prop :=
 H b=none/\b≠X.env.locals/\b ∉ X.fs/\(b∈X.ex∨X.s₀.heap.objs.size<=b)/\(∀x c,X.env.cells.lookup x=some c->c≠b)/\∀p∈X.pn++pins,p.1≠b
theorem Inv.fpOk{X:Cx}{pins:List (Addr×Obj)}{σ:St}{H H':Hp}{s:Shared}{b:Addr}(I:Inv X pins σ H s)(hb:s.heap.objs.size<=b)(hn:H' b=none):FpOk X pins H' b:=by
 refine⟨hn,Nat.ne_of_gt (Nat.lt_of_lt_of_le I.lt hb),I.nofs hb,.inr (Nat.le_trans I.sz hb),fun x c e z=>?_,fun p hp z=>?_⟩
 ·obtain⟨v,q⟩:=I.cell x c e
  exact absurd (Nat.lt_of_lt_of_le q.lt (by rw[z];exact hb)) (Nat.lt_irrefl _)
 ·exact absurd (Nat.lt_of_lt_of_le (Heap.lt_size (I.pin p hp).1) (by rw[z];exact hb)) (Nat.lt_irrefl _)
structure Turn (P:Program) (w:World) (K:PySem.W.Frag) (tg:Expr) (J:It) (fp:List Addr) (it:Addr) (tn:Nat->Heap->Prop):Prop where
 mem:it∈fp
 obj:∀i h,tn i h->∀b∈fp,∃o,h.get? b=some o/\∀v,o.data ≠ .cell v
 keep:∀i h h',tn i h->(∀b∈fp,∀o,h.get? b=some o->h'.get? b=some o)->tn i h'
 item:∀(X:Cx),X.prog=P->X.w=w->X.K=K->X.calm=true->∀(i:Nat) (pins:List (Addr×Obj)) (s:Shared) (σ:St) (H:Hp) (E:Value->Shared->Prop),Inv X pins σ H s->(∀b∈fp,FpOk X pins H b)->tn i s.heap->J.go i H ->
  wpAny (model P w) X.A (pyNext (.ref it)) (fun r s1=>∃u,r=some u /\
   wpAny (model P w) X.A (letOwnedTupleGo tg (.ref it) u) (fun _ s2=>∃x H',Inv X pins σ H' s2/\RelV x u/\J.yld i H x H'/\tn (i+1) s2.heap/\∀b∈fp,H' b=none) E s1) E s
 done:∀(X:Cx),X.prog=P->X.w=w->X.K=K->X.calm=true->∀(i:Nat) (pins:List (Addr×Obj)) (s:Shared) (σ:St) (H:Hp) (E:Value->Shared->Prop),Inv X pins σ H s->(∀b∈fp,FpOk X pins H b)->tn i s.heap->J.stop i H ->
  wpAny (model P w) X.A (pyNext (.ref it)) (fun r s1=>r=none/\Inv X pins σ H s1) E s
 self:∀(A:Around) (i:Nat) (s:Shared) (Q:Value->Shared->Prop) (E:Value->Shared->Prop),tn i s.heap->Q (.ref it) s->wpAny (model P w) A (pyIter (.ref it)) Q E s
noncomputable abbrev TI:=St->Hp->(It->Hp->Prop)->Prop
noncomputable def PIE(X:Cx)(pins:List (Addr×Obj))(σ:St)(tg:Expr)(R:It->Hp->Prop)(itv:Value)(s2:Shared):Prop :=
 ∃(it:Addr) (fp:List Addr) (tn:Nat->Heap->Prop) (J:It) (H':Hp),itv = .ref it/\Inv X pins σ H' s2/\Turn X.prog X.w X.K tg J fp it tn/\tn 0 s2.heap/\(∀b∈fp,FpOk X pins H' b)/\R J H'
theorem x2j{M:Model}{A:Around}{E:Value->Shared->Prop}{s:Shared}{tg:Expr}{it:Addr}{u:Value}{o:Obj}{n:String}{vs:Array Value}{Q:Unit->Shared->Prop}(ho:s.heap.get? it=some o)(hc:o.cls = .type n)(hd:o.data = .fields vs)
 (hn:["enumerate","zip","dict_itemiterator","dict_reverseitemiterator","odict_iterator","itertools.zip_longest","itertools.pairwise"].contains n=false) (hQ:Q () s):wpAny M A (letOwnedTupleGo tg (.ref it) u) Q E s:=by
 unfold letOwnedTupleGo
 cases tg<;>first
  | exact wpAny_pure hQ
  | (cases u<;>first
      | exact wpAny_pure hQ
      | (refine wpAny_bind (wpAny_load ho ?_)
         rw[hc,hd]
         show wpAny M A (if (["enumerate","zip","dict_itemiterator","dict_reverseitemiterator","odict_iterator","itertools.zip_longest","itertools.pairwise"].contains n&&vs[0]? == some (rawInt _))=true then _ else _) Q E s
         rw[if_neg (by intro h;rw[hn,Bool.false_and] at h;cases h)]
         exact wpAny_pure hQ))
noncomputable def Itl(K:PySem.W.Frag)(a:Addr):It :=
 ⟨fun i H=>∃xs x,SqL K H a xs/\xs[i]? = some x,fun i H x H'=>H'=H/\∀xs,SqL K H a xs->xs[i]? = some x,fun i H=>∃xs,SqL K H a xs/\xs.length<=i⟩
noncomputable def Itt(K:PySem.W.Frag)(a:Addr):It :=
 ⟨fun i H=>∃xs x,SqT K H a xs/\xs[i]? = some x,fun i H x H'=>H'=H/\∀xs,SqT K H a xs->xs[i]? = some x,fun i H=>∃xs,SqT K H a xs/\xs.length<=i⟩
noncomputable def Itr(lo:Int)(n:Nat):It:=⟨fun i _=>i<n,fun i H x H'=>H'=H/\x = .int (lo+i),fun i _=>n<=i⟩
theorem y5t{P:Program}{w:World}{K:PySem.W.Frag}{tg:Expr}(a it:Addr):Turn P w K tg (Itl K a) [it] it (fun i h=>h.IsListIter it a i) where
 mem:=by simp
 obj:=fun i h st b hb=>by
  have e:b=it:=by simpa using hb
  subst e
  obtain⟨o,e,c,d⟩:=st
  exact⟨o,e,fun v z=>by rw[d] at z;cases z⟩
 keep:=fun i h h' st k=>st.at fun o e=>k it (by simp) o e
 item:=by
  intro X hP hw hK hc i pins s σ H E I hf st hg
  subst hP hw hK
  obtain⟨xs,x,hq,hx⟩:=hg
  obtain⟨its,rv,p,hz⟩:=I.list hq
  obtain⟨u,hu,ru⟩:=rv.get hx
  obtain⟨f0,f1,f2,f3,f4,f5⟩:=hf it (by simp)
  refine wpAny_pyNext_list_item st p.isList (x:=u) (by simpa using hu) fun h' st' sb=>?_
  have I1:Inv X pins σ H { s with heap:=h' }:=I.turned (t':=s.toks) (fun b o hb e=>(sb.2 b hb).trans e) f0 f1 f3 f4 f5
  obtain⟨o,e,c,d⟩:=id st'
  exact⟨u,rfl,x2j (s:={ s with heap:=h' }) e c d (by decide) ⟨x,H,I1,ru,⟨rfl,fun ys hy=>by rw[I.list_inj hy hq];exact hx⟩,st',fun b hb=>(hf b hb).1⟩⟩
 done:=by
  intro X hP hw hK hc i pins s σ H E I hf st hg
  subst hP hw hK
  obtain⟨xs,hq,hx⟩:=hg
  obtain⟨its,rv,p,hz⟩:=I.list hq
  obtain⟨f0,f1,f2,f3,f4,f5⟩:=hf it (by simp)
  have hl:=rv.length
  exact wpAny_pyNext_list_end (I.ok.hd hc) st p.isList (by simp;omega) fun h' eb=>⟨rfl,I.turned (t':=s.toks) (fun b o hb e=>eb b o hb e) f0 f1 f3 f4 f5⟩
 self:=fun _ _ _ _ _ st h=>wpAny_pyIter_listiter st h
theorem y4r{P:Program}{w:World}{K:PySem.W.Frag}{tg:Expr}(a it:Addr):Turn P w K tg (Itt K a) [it] it (fun i h=>h.IsTupleIter it a i) where
 mem:=by simp
 obj:=fun i h st b hb=>by
  have e:b=it:=by simpa using hb
  subst e
  obtain⟨o,e,c,d⟩:=st
  exact⟨o,e,fun v z=>by rw[d] at z;cases z⟩
 keep:=fun i h h' st k=>st.at fun o e=>k it (by simp) o e
 item:=by
  intro X hP hw hK hc i pins s σ H E I hf st hg
  subst hP hw hK
  obtain⟨xs,x,hq,hx⟩:=hg
  obtain⟨its,rv,p,hz⟩:=I.tuple hq
  obtain⟨u,hu,ru⟩:=rv.get hx
  obtain⟨f0,f1,f2,f3,f4,f5⟩:=hf it (by simp)
  refine wpAny_pyNext_tuple_item st (show s.heap.IsTuple a its.toArray from p) (x:=u) (by simpa using hu) fun h' st' sb=>?_
  have I1:Inv X pins σ H { s with heap:=h' }:=I.turned (t':=s.toks) (fun b o hb e=>(sb.2 b hb).trans e) f0 f1 f3 f4 f5
  obtain⟨o,e,c,d⟩:=id st'
  exact⟨u,rfl,x2j (s:={ s with heap:=h' }) e c d (by decide) ⟨x,H,I1,ru,⟨rfl,fun ys hy=>by rw[I.tuple_inj hy hq];exact hx⟩,st',fun b hb=>(hf b hb).1⟩⟩
 done:=by
  intro X hP hw hK hc i pins s σ H E I hf st hg
  subst hP hw hK
  obtain⟨xs,hq,hx⟩:=hg
  obtain⟨its,rv,p,hz⟩:=I.tuple hq
  obtain⟨f0,f1,f2,f3,f4,f5⟩:=hf it (by simp)
  have hl:=rv.length
  exact wpAny_pyNext_tuple_end (I.ok.hd hc) st (show s.heap.IsTuple a its.toArray from p) (by simp;omega) fun h' eb=>⟨rfl,I.turned (t':=s.toks) (fun b o hb e=>eb b o hb e) f0 f1 f3 f4 f5⟩
 self:=fun _ _ _ _ _ st h=>wpAny_pyIter_tupleiter st h
theorem y4s{P:Program}{w:World}{K:PySem.W.Frag}{tg:Expr}(it:Addr)(lo:Int)(n:Nat):Turn P w K tg (Itr lo n) [it] it (fun i h=>IsRangeIter h it (lo+(i:Nat)*1) ((n:Int)-(i:Nat)) 1) where
 mem:=by simp
 obj:=fun i h st b hb=>by
  have e:b=it:=by simpa using hb
  subst e
  exact⟨_,st,fun v z=>by
   have z':Data.fields _=Data.cell v:=z
   cases z'⟩
 keep:=fun i h h' st k=>k it (by simp) _ st
 item:=by
  intro X hP hw hK hc i pins s σ H E I hf st hg
  subst hP hw hK
  obtain⟨f0,f1,f2,f3,f4,f5⟩:=hf it (by simp)
  have W:=Walks.range (prog:=X.prog) (w:=X.w) (I.ok.hd hc) it lo 1 n
  refine W.item i s _ _ hg st fun v h' tk hv st' kk=>?_
  obtain⟨t,rfl⟩:=hv
  have I1:Inv X pins σ H { s with heap:=h',toks:=tk }:=I.turned (fun b o hb e=>kk b o (by simpa using hb) e) f0 f1 f3 f4 f5
  refine⟨_,rfl,x2j (s:={ s with heap:=h',toks:=tk }) (n:="range_iterator") st' rfl rfl (by decide) ⟨.int (lo+i),H,I1,⟨t,?_⟩,⟨rfl,rfl⟩,st',fun b hb=>(hf b hb).1⟩⟩
  rw[Int.mul_one]
 done:=by
  intro X hP hw hK hc i pins s σ H E I hf st hg
  subst hP hw hK
  obtain⟨f0,f1,f2,f3,f4,f5⟩:=hf it (by simp)
  exact wpAny_pyNext_range_end (I.ok.hd hc) st (by have:n<=i:=hg;omega) fun h' eb=>⟨rfl,I.turned (t':=s.toks) (fun b o hb e=>eb b o hb e) f0 f1 f3 f4 f5⟩
 self:=fun _ _ _ _ _ st h=>wpAny_pyIter_rangeiter st h
end L2
namespace L2
open PySem PySem.Spec PyProof.Rows
section
variable {X:Cx}{tg:Expr}
theorem y3r{pins:List (Addr×Obj)}{σ:St}{H:Hp}{s:Shared}{R:It->Hp->Prop}{E:Value->Shared->Prop}{lo hi:Int}{t u v:Tok}{tk:Nat}(I:Inv X pins σ H s)(h1:-(2^62)<=lo)(h2:lo<2^62)(h3:-(2^62)<=hi)(h4:hi<2^62)
 (q:R (Itr lo (hi-lo).toNat) H):wpAny (model X.prog X.w) X.A (pyIter (.ref s.heap.objs.size)) (PIE X pins σ tg R) E { s with heap:=s.heap.push { cls:=.type "range",data:=.fields #[.int lo t,.int hi u,.int 1 v] },toks:=tk }:=by
 refine wpAny_pyIter_range (IsRange.new ..) (small_one h1 h2 h3 h4) ?_
 have I1:Inv X pins σ H { s with heap:=s.heap.push { cls:=.type "range",data:=.fields #[.int lo t,.int hi u,.int 1 v] },toks:=tk }:=I.kept fun b o e=>Heap.get?_push_of_some _ e
 refine⟨(s.heap.push { cls:=.type "range",data:=.fields #[.int lo t,.int hi u,.int 1 v] }).objs.size,[(s.heap.push { cls:=.type "range",data:=.fields #[.int lo t,.int hi u,.int 1 v] }).objs.size],_,_,H,rfl,
  I1.kept (t':=tk) fun b o e=>Heap.get?_push_of_some _ e,y4s _ lo (hi-lo).toNat,?_,fun b hb=>?_,q⟩
 ·have e1:lo+((0:Nat):Int)*1=lo:=by simp
  have e2:(((hi-lo).toNat:Nat):Int)-((0:Nat):Int)=Builtin.Range.rangeSize lo hi 1:=by rw[rangeSize_one];split<;>omega
  show IsRangeIter _ _ (lo+((0:Nat):Int)*1) ((((hi-lo).toNat:Nat):Int)-((0:Nat):Int)) 1
  rw[e1,e2]
  exact Heap.get?_push_size _ rfl
 ·have e:b=(s.heap.push { cls:=.type "range",data:=.fields #[.int lo t,.int hi u,.int 1 v] }).objs.size:=by simpa using hb
  subst e
  exact I1.fpOk (Nat.le_refl _) (I1.hok.fresh (Nat.le_refl _))
noncomputable def z7b(fp:List Addr)(h:Heap):List (Addr×Obj):=fp.filterMap fun b=>(h.get? b).map fun o=>(b,o)
theorem z2a{fp:List Addr}{h:Heap}{b:Addr}{o:Obj}(hb:b∈fp)(e:h.get? b=some o):(b,o)∈z7b fp h:=List.mem_filterMap.mpr ⟨b,hb,by rw[e];rfl⟩
theorem y6q{fp:List Addr}{h:Heap}{p:Addr×Obj}(hp:p∈z7b fp h):p.1∈fp/\h.get? p.1=some p.2:=by
 obtain⟨b,hb,e⟩:=List.mem_filterMap.mp hp
 cases q:h.get? b with
 | none=>rw[q] at e;cases e
 | some o =>
   rw[q] at e
   have e':(b,o)=p:=Option.some.inj e
   subst e'
   exact⟨hb,q⟩
theorem Inv.pinned{pins:List (Addr×Obj)}{σ:St}{H:Hp}{s:Shared}{fp:List Addr}(I:Inv X pins σ H s)(hf:∀b∈fp,FpOk X pins H b)(ho:∀b∈fp,∃o,s.heap.get? b=some o/\∀v,o.data ≠ .cell v):Inv X (pins++z7b fp s.heap) σ H s :=
 I.pins_of fun p hp=>(List.mem_append.mp hp).elim (fun z=>I.pin p (List.mem_append_right _ z)) fun z=>by
  obtain⟨hb,e⟩:=y6q z
  obtain⟨f0,f1,f2,_⟩:=hf p.1 hb
  obtain⟨o,e',d⟩:=ho p.1 hb
  rw[e] at e';cases e'
  exact⟨e,f0,f1,f2,d⟩
theorem Inv.unpinned{pins pl:List (Addr×Obj)}{σ:St}{H:Hp}{s:Shared}(I:Inv X (pins++pl) σ H s):Inv X pins σ H s:=I.pins_of fun p hp=>I.pin p (List.mem_append_right _ (List.mem_append_left _ hp))
end
end L2
namespace L2
open PySem PySem.Spec PyProof.Rows
noncomputable abbrev R2:=V->V->Hp->VK->Prop
noncomputable def OpR(X:Cx)(f:Value->Value->Sem Value)(r:R2):Prop :=
 ∀(pins:List (Addr×Obj)) (s:Shared) (σ:St) (H:Hp) (x y:V) (v u:Value) (Q:VK),Inv X pins σ H s->RelV x v->RelV y u->r x y H Q ->
  wpAny (model X.prog X.w) X.A (f v u) (EP X pins σ Q) X.xe s
noncomputable def z6y(X:Cx)(f:Value)(r:List V->Hp->VK->Prop):Prop :=
 ∀(pins:List (Addr×Obj)) (s:Shared) (σ:St) (H:Hp) (xs:List V) (us:List Value) (Q:VK),Inv X pins σ H s->Vals xs us->r xs H Q ->
  wpAny (model X.prog X.w) X.A (call f us) (EP X pins σ Q) X.xe s
noncomputable def rI(C:Int->Int->Prop)(g:Int->Int->V):R2:=fun x y H Q=>∃i j,x = .int i/\y = .int j/\C i j/\Q (g i j) H
noncomputable def rI0(g:Int->Int->V):R2:=fun x y H Q=>∃i j,x = .int i/\y = .int j/\Q (g i j) H
section
variable {X:Cx}{a b c:Expr}{ta tb tc:TE}{pos:Pos}
theorem opI{f:Value->Value->Sem Value}{C:Int->Int->Prop}{g:Int->Int->Int}
 (rule:∀(i j:Int) (t u:Tok) (s:Shared) (Q:Value->Shared->Prop) (E:Value->Shared->Prop),C i j->Q (.int (g i j) s.toks) { s with toks:=s.toks+1 }->wpAny (model X.prog X.w) X.A (f (.int i t) (.int j u)) Q E s) :
 OpR X f (rI C fun i j=>.int (g i j)):=by
 intro pins s σ H x y v u Q I rx ry h
 obtain⟨i,j,rfl,rfl,hc,q⟩:=h
 obtain⟨t,rfl⟩:=rx
 obtain⟨t',rfl⟩:=ry
 exact rule i j t t' s _ _ hc ⟨.int (g i j),H,I.tok _,⟨_,rfl⟩,q⟩
theorem opI0{f:Value->Value->Sem Value}{g:Int->Int->Int}
 (rule:∀(i j:Int) (t u:Tok) (s:Shared) (Q:Value->Shared->Prop) (E:Value->Shared->Prop),Q (.int (g i j) s.toks) { s with toks:=s.toks+1 }->wpAny (model X.prog X.w) X.A (f (.int i t) (.int j u)) Q E s) :
 OpR X f (rI0 fun i j=>.int (g i j)):=by
 intro pins s σ H x y v u Q I rx ry h
 obtain⟨i,j,rfl,rfl,q⟩:=h
 obtain⟨t,rfl⟩:=rx
 obtain⟨t',rfl⟩:=ry
 exact rule i j t t' s _ _ ⟨.int (g i j),H,I.tok _,⟨_,rfl⟩,q⟩
theorem opB0{f:Value->Value->Sem Value}{g:Int->Int->Bool}
 (rule:∀(i j:Int) (t u:Tok) (s:Shared) (Q:Value->Shared->Prop) (E:Value->Shared->Prop),Q (.bool (g i j)) s->wpAny (model X.prog X.w) X.A (f (.int i t) (.int j u)) Q E s) :
 OpR X f (rI0 fun i j=>.bl (g i j)):=by
 intro pins s σ H x y v u Q I rx ry h
 obtain⟨i,j,rfl,rfl,q⟩:=h
 obtain⟨t,rfl⟩:=rx
 obtain⟨t',rfl⟩:=ry
 exact rule i j t t' s _ _ ⟨.bl (g i j),H,I,rfl,q⟩
noncomputable def CDiv(i j:Int):Prop:=0<j/\j<1073741824
noncomputable def CPow(i j:Int):Prop:=0<=j/\j<=1000000/\i.natAbs<2^64
noncomputable def CMul(i j:Int):Prop:=(-(2^64)<i/\i<2^64)∨(-(2^64)<j/\j<2^64)
theorem CMul.ok{i j:Int}(h:CMul i j):IntMulOk i j:=by
 rcases h with ⟨h1,h2⟩ | ⟨h1,h2⟩
 ·exact .of_left (intBits_le_64 h1 h2)
 ·exact .of_right (intBits_le_64 h1 h2)
theorem x3u:OpR X (binaryOp .Add) (rI0 fun i j=>.int (i+j)):=opI0 fun _ _ _ _ _ _ _ q=>add_int q
theorem x3o:OpR X (binaryOp .Sub) (rI0 fun i j=>.int (i-j)):=opI0 fun _ _ _ _ _ _ _ q=>sub_int q
theorem x3r:OpR X (binaryOp .Mult) (rI CMul fun i j=>.int (i*j)):=opI fun _ _ _ _ _ _ _ hc q=>mul_int q hc.ok
theorem x1q:OpR X (binaryOp .FloorDiv) (rI CDiv fun i j=>.int (i/j)):=opI fun i j _ _ _ _ _ hc q=>by
 have h1:(0:Int)<j:=hc.1
 have h2:j<1073741824:=hc.2
 exact floordiv_int (by omega) (by rw[Int.fdiv_eq_ediv_of_nonneg i (by omega)];exact q) (.inl (PyProof.noPylong_small (by omega)))
theorem x3s:OpR X (binaryOp .Mod) (rI (fun _ j=>0<j) fun i j=>.int (i%j)):=opI fun i j _ _ _ _ _ hc q=>by
 have h1:(0:Int)<j:=hc
 exact mod_int' (by omega) (by rw[Int.fmod_eq_emod_of_nonneg i (by omega)];exact q)
theorem x3q:OpR X (binaryOp .Pow) (rI CPow fun i j=>.int (i^j.toNat)):=opI fun _ _ _ _ _ _ _ hc q=>pow_int_small hc.1 hc.2.1 hc.2.2 q
end
section
variable {X:Cx}{a b c:Expr}{ta tb tc:TE}{pos:Pos}
theorem x4h{pins:List (Addr×Obj)}{σ:St}{H:Hp}{s:Shared}{Q:VK}{k k':Bool}(I:Inv X pins σ H s)(q:Q (.bl k) H)(e:k=k'):EP X pins σ Q (.bool k') s:=by
 subst e
 exact⟨.bl k,H,I,rfl,q⟩
theorem x4z:OpR X (compareOp .Lt) (rI0 fun i j=>.bl (decide (i<j))):=opB0 fun _ _ _ _ _ _ _ q=>lt_int q
theorem x5a:OpR X (compareOp .Gt) (rI0 fun i j=>.bl (decide (j<i))):=opB0 fun _ _ _ _ _ _ _ q=>gt_int q
theorem x1p:OpR X (compareOp .IsNot) (fun x y H Q=>y = .non/\Q (.bl (!decide (x = .non))) H):=by
 intro pins s σ H x y v u Q I rx ry h
 obtain⟨rfl,q⟩:=h
 cases ry
 refine isnot_none_gen (x4h I q ?_)
 cases x<;>first
  | (cases rx;rfl)
  | (obtain⟨t,rfl⟩:=rx;rfl)
theorem OpR.or{f:Value->Value->Sem Value}{r r':R2}(h:OpR X f r)(h':OpR X f r'):OpR X f (fun x y H Q=>r x y H Q∨r' x y H Q):=by
 intro pins s σ H x y v u Q I rx ry q
 rcases q with q | q
 ·exact h pins s σ H x y v u Q I rx ry q
 ·exact h' pins s σ H x y v u Q I rx ry q
theorem z1z(b:Expr){op:CmpOp}(h:op ≠ .In:=by decide)(h2:op ≠ .NotIn:=by decide):behindInMarks op b=false:=by
 have e1:(op==CmpOp.In)=false:=by cases op<;>first | rfl | exact absurd rfl h
 have e2:(op==CmpOp.NotIn)=false:=by cases op<;>first | rfl | exact absurd rfl h2
 cases b<;>simp[behindInMarks,e1,e2]
theorem y7d:(sizeLine:Nat)<2^63:=by rw[sizeLine_eq];decide
theorem z9l{x:V}{us:List Value}(r:Vals [x] us):∃u,us=[u]/\RelV x u:=by
 cases r with
 | cons r1 r2=>cases r2;exact⟨_,rfl,r1⟩
theorem x0a:z6y X (.builtin "abs") (fun xs H Q=>∃i,xs=[.int i]/\Q (.int (if i<0 then -i else i)) H):=by
 intro pins s σ H xs us Q I r h
 obtain⟨i,rfl,q⟩:=h
 obtain⟨u,rfl,t,rfl⟩:=z9l r
 exact call_abs_int fun u tk=>⟨.int (if i<0 then -i else i),H,I.tok _,⟨_,rfl⟩,q⟩
theorem y8j:z6y X (.type "int") (fun xs H Q=>(∃i,xs=[.int i]/\Q (.int i) H)∨∃k,xs=[.bl k]/\Q (.int (if k then 1 else 0)) H):=by
 intro pins s σ H xs us Q I r h
 rcases h with ⟨i,rfl,q⟩ | ⟨k,rfl,q⟩
 ·obtain⟨u,rfl,t,rfl⟩:=z9l r
  exact call_int_int ⟨.int i,H,I,⟨_,rfl⟩,q⟩
 ·obtain⟨u,rfl,r1⟩:=z9l r
  cases r1
  exact call_int_bool ⟨.int (if k then 1 else 0),H,I.tok _,⟨_,rfl⟩,q⟩
end
end L2
namespace L2
open PySem PySem.Spec PyProof.Rows
structure ObjM (h:Heap) (x dx C:Addr) (mA:Str->Option Value):Prop where
 obj:h.get? x=some (PySem.W.instObj C dx)
 ns:h.Ns1 dx mA
 ne:dx≠x
theorem y7c{h:Heap}{dx:Addr}{mA:Str->Option Value}(n:h.Ns1 dx mA):∃od,h.get? dx=some od/\∀name,PySem.W.lookIn name od=some (mA name):=by
 obtain⟨o,es,ep,ho,hd,hk,_,hm⟩:=n
 refine⟨o,ho,fun name=>?_⟩
 have e:=hm name
 unfold nsFind findBy at e
 rw[<-Array.find?_toList] at e
 unfold PySem.W.lookIn
 rw[hd]
 dsimp only
 split
 ·rename_i y q
  rw[q] at e
  exact congrArg some e
 ·rename_i q
  rw[q] at e
  have a:es.toList.any (·.refKey)=false:=by
   rw[List.any_eq_false]
   intro y hy
   obtain⟨z,t,hkey⟩:=hk y (Array.mem_toList_iff.mp hy)
   simp[DictEntry.refKey,hkey]
  have a':¬es.toList.any (·.refKey)=true:=by rw[a];exact Bool.false_ne_true
  rw[if_neg a']
  exact congrArg some e
theorem ObjM.look{h:Heap}{x dx C:Addr}{mA:Str->Option Value}(I:ObjM h x dx C mA):∃od,PySem.W.InstAt h x (PySem.W.instObj C dx) C (some od)/\∀name,PySem.W.lookIn name od=some (mA name) :=
 let ⟨od,ho,hl⟩:=y7c I.ns
 ⟨od,⟨I.obj,rfl,rfl,ho⟩,hl⟩
section
variable {prog:Program}{w:World}{A:Around}{E:Value->Shared->Prop}{s:Shared}{K:PySem.W.Frag}{x dx C f:Addr}{mA:Str->Option Value}{name:Str}{v:Value}
end
section
variable {P:Program}{w:World}{H H':Hp}{h h':Heap}{a C dx:Addr}{fs fs':List (Str×V)}
end
structure Cls (K:PySem.W.Frag) (C:Addr):Prop where
 pg:PySem.W.plainGet K C Str.empty=true
 hd:PySem.W.hasDictIn K C=true
 po:PySem.W.plainOver K C=true
 sa:PySem.W.findIn K (.ref C) "__setattr__"=some (some (.builtin "object.__setattr__"))
theorem Cls.get{K:PySem.W.Frag}{C:Addr}(c:Cls K C)(f:Str):PySem.W.plainGet K C f=true:=c.pg
structure Con (K:PySem.W.Frag) (C:Addr) (f:Str) (v:V) (u:Value):Prop where
 at_:PySem.W.findIn K (.ref C) f=some (some u)
 rel:RelV v u
 get:PySem.W.specialIn K u "__get__"=some none
 cp:PySem.W.copiedNames.contains f=false
structure Meth (K:PySem.W.Frag) (C:Addr) (m:Str) (f:Addr):Prop where
 at_:PySem.W.findIn K (.ref C) m=some (some (.ref f))
 fn:PySem.W.isFn K (.ref f)=true
 kp:PySem.W.keepIn K (.ref f)=true
section
variable {X:Cx}{pins:List (Addr×Obj)}{σ:St}{H:Hp}{s:Shared}{a C dx:Addr}{fs:List (Str×V)}{f:Str}{v:V}{A:Around}{E:Value->Shared->Prop}
end
section
variable {X:Cx}{o e value:Expr}{f:Str}{pos pos' tpos:Pos}{ta tv:TE}
end
section
variable {X:Cx}{pins:List (Addr×Obj)}{σ:St}{H:Hp}{s:Shared}{A:Around}{E:Value->Shared->Prop}{Q:Value->Shared->Prop}{c:Value}{b:Bool}
inductive TyOf (K:PySem.W.Frag) (H:Hp):V->Value->Prop where
 | non:TyOf K H .non (.type "NoneType")
 | bl (x:Bool):TyOf K H (.bl x) (.type "bool")
 | int (i:Int):TyOf K H (.int i) (.type "int")
 | str (x:Str):TyOf K H (.str x) (.type "str")
 | flt (x:UInt64):TyOf K H (.flt x) (.type "float")
 | lst {a:Addr} {xs:List V} (e:H a=some (.lst xs)):TyOf K H (.ref a) (.type "list")
 | frz {a:Addr} {o:Obj} {xs:List V} (e:H a=some (.frz o (.lst xs))):TyOf K H (.ref a) (.type "list")
 | tup {a:Addr} {xs:List V} (e:H a=some (.tup xs)):TyOf K H (.ref a) (.type "tuple")
 | dK {a:Addr} {kvs:List (Key×V)} (e:H a=some (.dK kvs)):TyOf K H (.ref a) (.type "dict")
 | dT {a:Addr} {kvs:List (List Key×V)} (e:H a=some (.dT kvs)):TyOf K H (.ref a) (.type "dict")
 | ins {a C dx:Addr} {fs:List (Str×V)} (e:H a=some (.ins C dx fs)) (cl:Cls K C) (ha:PySem.W.findIn K (.ref C) "__class__"=some (some (.builtin "object.__class__")))
    (hn:PySem.W.specialIn K (.builtin "object.__class__") "__get__"=some (some (.builtin "getset_descriptor.__get__"))) (htk:PySem.W.takesIn K (.builtin "object.__class__")=some true)
    (hm:PySem.W.mroIn K C (.type "object")=some true):TyOf K H (.ref a) (.ref C)
end
end L2
namespace L2
open PySem PySem.Spec PyProof.Rows
structure Room (k:Nat) (A:Around):Prop where
 hd:A.handled=none
 dp:A.depth+3*k+5<recursionLimit
 un:A.units+16*k+200<cLine
theorem Room.mono{j k:Nat}{A:Around}(r:Room k A)(h:j<=k):Room j A:=⟨r.hd,by have:=r.dp;omega,by have:=r.un;omega⟩
theorem Room.deeper{k:Nat}{A:Around}(r:Room (k+1) A)(env:Env):Room k (A.deeper env) :=
 ⟨r.hd,by have:=r.dp;show A.depth+1+3*k+5<_;omega,by have:=r.un;show A.units+3+16*k+200<_;omega⟩
theorem Room.in1{k:Nat}{A:Around}(r:Room (k+1) A):Room k A.in1 :=
 ⟨r.hd,by have:=r.dp;show A.depth+3*k+5<_;omega,by have:=r.un;show A.units+1+16*k+200<_;omega⟩
theorem Room.depth{k:Nat}{A:Around}(r:Room k A):A.depth<recursionLimit:=by have:=r.dp;omega
theorem Room.units{k:Nat}{A:Around}(r:Room k A):A.units+64<cLine:=by have:=r.un;omega
section
variable {X:Cx}{e:Expr}{es:List Expr}{te:TE}{t:TA}{pos:Pos}
end
noncomputable abbrev Sp:=List V->Hp->VK->XK->Prop
noncomputable abbrev CXT:=List Env->Hp->Shared->XK->Value->Shared->Prop
structure Env0 (P:Program) (w:World) (K:PySem.W.Frag) (mg:Str->Option Value) (base:Heap) (A:Around) (outer:List Env) (s:Shared) (H:Hp):Prop where
 frames:A.frames=some outer
 mod:Mod K mg base
 bs:∀b o,base.get? b=some o->s.heap.get? b=some o/\H b=none
 bsz:base.objs.size<=s.heap.objs.size
 funs:s.heap.FunFrames base outer
 frf:∀b∈frs outer,H b=none
 hok:HOk P w H s.heap
 bare:AllBare s.gens
noncomputable def CE(outer:List Env)(P:Program)(w:World)(H:Hp)(s:Shared)(Q:VK)(u:Value)(s':Shared):Prop :=
 ∃v H',s'.os=s.os/\AllBare s'.gens/\Un (frs outer) [] H H' s.heap s'.heap/\HOk P w H' s'.heap/\RelV v u/\Q v H'
noncomputable def CR(CX:CXT)(outer:List Env)(P:Program)(w:World)(H:Hp)(s:Shared)(Q:VK)(E:XK)(r:Result)(s':Shared):Prop :=
 match r with
 | .ok (.ret u)=>CE outer P w H s Q u s'
 | .ok _=>False
 | .error e=>CX outer H s E e s'
structure FnOk (P:Program) (w:World) (K:PySem.W.Frag) (mg:Str->Option Value) (base:Heap) (CX:CXT) (k:Nat) (f:Addr) (fd:FuncData) (ps:List Str) (sp:Sp):Prop where
 len:∀vs H Q E,sp vs H Q E->vs.length=ps.length
 run:∀(A:Around) (outer:List Env) (s:Shared) (H:Hp) (args:Args) (us:List Value) (vs:List V) (Q:VK) (E:XK),Room k A->Env0 P w K mg base A outer s H->BindsTo s fd args (ps.zip us)->Vals vs us->sp vs H Q E ->
  codeAny (model P w) A (.call (.ref f) args) (CR CX outer P w H s Q E) s
theorem FnOk.mono{P:Program}{w:World}{K:PySem.W.Frag}{mg:Str->Option Value}{base:Heap}{CX:CXT}{j k:Nat}{f:Addr}{fd:FuncData}{ps:List Str}{sp:Sp}(F:FnOk P w K mg base CX j f fd ps sp)(h:j<=k) :
 FnOk P w K mg base CX k f fd ps sp:=⟨F.len,fun A outer s H args us vs Q E hr=>F.run A outer s H args us vs Q E (hr.mono h)⟩
theorem FnOk.imp{P:Program}{w:World}{K:PySem.W.Frag}{mg:Str->Option Value}{base:Heap}{CX:CXT}{k:Nat}{f:Addr}{fd:FuncData}{ps:List Str}{sp sp':Sp}(F:FnOk P w K mg base CX k f fd ps sp)
 (h:∀vs H Q E,sp' vs H Q E->sp vs H Q E):FnOk P w K mg base CX k f fd ps sp' :=
 ⟨fun vs H Q E q=>F.len vs H Q E (h _ _ _ _ q),fun A outer s H args us vs Q E hr he hb hv hs=>F.run A outer s H args us vs Q E hr he hb hv (h _ _ _ _ hs)⟩
theorem Env0.in1{P:Program}{w:World}{K:PySem.W.Frag}{mg:Str->Option Value}{base:Heap}{A:Around}{outer:List Env}{s:Shared}{H:Hp}(e:Env0 P w K mg base A outer s H) :
 Env0 P w K mg base A.in1 outer s H:=⟨e.frames,e.mod,e.bs,e.bsz,e.funs,e.frf,e.hok,e.bare⟩
section
variable {X:Cx}{pins:List (Addr×Obj)}{σ:St}{H:Hp}{s s':Shared}
theorem Inv.env0(I:Inv X pins σ H s):Env0 X.prog X.w X.K X.mg X.base X.A X.stack s H :=
 ⟨I.ok.frames,I.ok.mod,I.bs,Nat.le_trans I.ok.bsz I.sz,I.stack,I.stkFree,I.hok,I.bare⟩
theorem Inv.after{Q:VK}{u:Value}(I:Inv X pins σ H s)(h:CE X.stack X.prog X.w H s Q u s'):EP X pins σ Q u s':=by
 obtain⟨v,H',os,bare,un,hok,r,q⟩:=h
 obtain⟨hh,g,d,t,os'⟩:=s'
 obtain rfl:os'=s.os:=os
 exact⟨v,H',I.call (h':=hh) (g':=g) (d':=d) (t':=t) (ch:=[]) un hok bare (fun b z=>absurd z (by simp)),r,q⟩
end
noncomputable def z2t(K:PySem.W.Frag)(fd:FuncData)(ps:List Str)(ds:List Value):Prop :=
 ∀(s:Shared) (us:List Value),K.In s.heap->(us++ds).length=ps.length->BindsTo s fd ⟨us,[]⟩ (ps.zip (us++ds))
theorem z2t.all{K:PySem.W.Frag}{fd:FuncData}{ps:List Str}(h:∀us:List Value,us.length=ps.length->bindArgs fd ⟨us,[]⟩=pure (ps.zip us)):z2t K fd ps []:=fun s us _ hl=>by
 rw[List.append_nil] at hl ⊢
 exact .of_eq (h us hl)
section
variable {X:Cx}{CX:CXT}{k:Nat}{f C:Addr}{fd:FuncData}{ps:List Str}{sp:Sp}{dvs:List V}{ds:List Value}{E:XK}{x m:Str}{p pos apos:Pos}{e o:Expr}{es:List Expr}{ta:TE}{t:TA}
structure Mk (K:PySem.W.Frag) (C f:Addr):Prop where
 makes:PySem.W.makesIn K C=true
 init:PySem.W.findIn K (.ref C) "__init__"=some (some (.ref f))
 fn:PySem.W.isFn K (.ref f)=true
 kp:PySem.W.keepIn K (.ref C)=true
end
section
variable {X:Cx}{CX:CXT}{k:Nat}{f C:Addr}{fd:FuncData}{ps ks:List Str}{sp:Sp}{E:XK}{x m:Str}{p pos apos kpos:Pos}{e o:Expr}{es:List Expr}{kws:List Keyword}{te ta:TE}{t tk:TA}{nm:Option Str}
structure KBinds (K:PySem.W.Frag) (fd:FuncData) (ps ks:List Str) (g:List Value->List Value->List Value) (gV:List V->List V->List V):Prop where
 to:∀(s:Shared) (us ws:List Value),K.In s.heap->(g us ws).length=ps.length->BindsTo s fd ⟨us,ks.zip ws⟩ (ps.zip (g us ws))
 rel:∀{vs:List V} {us:List Value} {zs:List V} {ws:List Value},Vals vs us->Vals zs ws->Vals (gV vs zs) (g us ws)
variable {g:List Value->List Value->List Value}{gV:List V->List V->List V}
end
structure FnScope (N P:List Str) (sc:Scope):Prop where
 kind:sc.kind = .function
 co:sc.isCoroutine=false
 gen:sc.isGenerator=false
 nd:N.Nodup
 pre:N.take P.length=P
 par:∀x∈P,sc.names.lookup x=some .local∨sc.names.lookup x=some .cell
 nofree:∀y∈sc.names,y.2 ≠ .free
theorem y2d{kindOf:Str->Option NameKind}{x:Str}:∀{binds:List (Str×Value)} {m:Str->Option Value},(∀v,(x,v) ∉ binds)->bindL kindOf binds m x=m x
 | [],_,_=>rfl
 | (n,v)::r,m,h=>by
   unfold bindL
   rw[y2d fun w hw=>h w (List.mem_cons_of_mem _ hw)]
   split
   ·have:x≠n:=by rintro rfl;exact h v List.mem_cons_self
    simp[this]
   ·rfl
theorem y2f{kindOf:Str->Option NameKind}{x:Str}:∀{binds:List (Str×Value)} {m:Str->Option Value},(∀v,(x,v) ∉ binds)->bindC kindOf binds m x=m x
 | [],_,_=>rfl
 | (n,v)::r,m,h=>by
   unfold bindC
   rw[y2f fun w hw=>h w (List.mem_cons_of_mem _ hw)]
   split
   ·rfl
   ·have:x≠n:=by rintro rfl;exact h v List.mem_cons_self
    simp[this]
theorem y2e{kindOf:Str->Option NameKind}{x:Str}{v:Value}:∀{P:List Str} {vs:List Value} {i:Nat} {m:Str->Option Value},P.Nodup->P[i]? = some x->vs[i]? = some v->kindOf x=some .local ->
 bindL kindOf (P.zip vs) m x=some v
 | [],_,_,_,_,h,_,_=>by simp at h
 | _::_,[],_,_,_,_,h,_=>by simp at h
 | p::P,w::vs,0,m,nd,h1,h2,hk=>by
   simp at h1 h2;subst h1;subst h2
   show bindL kindOf ((p,w)::P.zip vs) m p=_
   unfold bindL
   rw[y2d fun v hv=>(List.nodup_cons.mp nd).1 (List.of_mem_zip hv).1,if_pos hk]
   simp
 | p::P,w::vs,i+1,m,nd,h1,h2,hk=>by
   show bindL kindOf ((p,w)::P.zip vs) m x=_
   unfold bindL
   exact y2e (i:=i) (List.nodup_cons.mp nd).2 (by simpa using h1) (by simpa using h2) hk
theorem y2g{kindOf:Str->Option NameKind}{x:Str}{v:Value}:∀{P:List Str} {vs:List Value} {i:Nat} {m:Str->Option Value},P.Nodup->P[i]? = some x->vs[i]? = some v->kindOf x≠some .local ->
 bindC kindOf (P.zip vs) m x=some v
 | [],_,_,_,_,h,_,_=>by simp at h
 | _::_,[],_,_,_,_,h,_=>by simp at h
 | p::P,w::vs,0,m,nd,h1,h2,hk=>by
   simp at h1 h2;subst h1;subst h2
   show bindC kindOf ((p,w)::P.zip vs) m p=_
   unfold bindC
   rw[y2f fun v hv=>(List.nodup_cons.mp nd).1 (List.of_mem_zip hv).1,if_neg hk]
   simp
 | p::P,w::vs,i+1,m,nd,h1,h2,hk=>by
   show bindC kindOf ((p,w)::P.zip vs) m x=_
   unfold bindC
   exact y2g (i:=i) (List.nodup_cons.mp nd).2 (by simpa using h1) (by simpa using h2) hk
noncomputable def start(N:List Str)(vs:List V):St:=vs.map some++List.replicate (N.length-vs.length) none
noncomputable def cxOf(CX:CXT)(P:Program)(w:World)(K:PySem.W.Frag)(mg:Str->Option Value)(base:Heap)(N:List Str)(qual:Str)(scope:Scope)(f:Addr)(cd:Value)(A:Around)(outer:List Env)(s:Shared)(H:Hp)(E:XK):Cx where
 prog:=P
 w:=w
 K:=K
 mg:=mg
 base:=base
 A:=A.deeper (envOfC qual scope s.heap.objs.size f cd)
 N:=N
 s₀:=s
 H₀:=H
 env:=envOfC qual scope s.heap.objs.size f cd
 outer:=outer
 stack:=envOfC qual scope s.heap.objs.size f cd::outer
 ex:=[]
 calm:=true
 fn:=fun _=>true
 pn:=[]
 xe:=fun e s'=>wpAny (model P w) (A.deeper (envOfC qual scope s.heap.objs.size f cd)) (leaving (envOfC qual scope s.heap.objs.size f cd) e) (fun _ s''=>CX outer H s E e s'') (fun e' s''=>CX outer H s E e' s'') s'
theorem y4l{sc:Scope}{n:Nat}{x:Str}(h:sc.names.lookup x=some .cell):∃c,(cellsFrom n sc.names []).lookup x=some c:=by
 have q:=PySem.W.cellsFrom_some sc.names n [] (.inl h)
 exact Option.isSome_iff_exists.mp q
theorem y7j{CX:CXT}{P:Program}{w:World}{K:PySem.W.Frag}{mg:Str->Option Value}{base:Heap}{N ps:List Str}{qual:Str}{scope:Scope}{f:Addr}{cd:Value}{A:Around}{outer:List Env}{s s1:Shared}{H:Hp}{E:XK}{us:List Value}{vs:List V}
 (S:FnScope N ps scope) (hd:A.handled=none) (e0:Env0 P w K mg base A outer s H) (hl:vs.length=ps.length) (r:Vals vs us)
 (x:InCallC s s.heap.objs.size (bindL (envOfC qual scope s.heap.objs.size f cd).kindOf (ps.zip us) fun _=>none) (cellsFrom (s.heap.objs.size+1) scope.names []) (bindC (envOfC qual scope s.heap.objs.size f cd).kindOf (ps.zip us) fun _=>none) s1) :
 Inv (cxOf CX P w K mg base N qual scope f cd A outer s H E) [] (start N vs) H s1:=by
 have hpl:ps.length<=N.length:=by have:=congrArg List.length S.pre;rw[List.length_take] at this;omega
 obtain⟨h1,tk,rfl,hk⟩:=x.done
 have noA:∀b:Addr,b ∉ (cxOf CX P w K mg base N qual scope f cd A outer s H E).ex:=fun b z=>absurd (show b∈([]:List Addr) from z) (by simp)
 refine⟨⟨e0.mod,S.kind,rfl,rfl,Nat.le_refl _,fun y z c h1 h2=>?_,fun y hy=>?_,fun y c _ h=>?_,fun _=>hd,Around.frames_deeper e0.frames,.inr ⟨rfl,rfl⟩,fun b z=>absurd z (noA b),e0.bs,e0.bsz,fun b _ _=>noA b,fun b z=>absurd z (noA b),e0.funs,e0.frf⟩,
  rfl,e0.bare,Un.kept hk,⟨_,x.toInCall.ns,fun i y v h1 h2 h3=>?_⟩,fun y c h=>⟨_,x.cell y c h⟩,e0.hok.fresh (Nat.le_refl _),fun y c h=>?_,fun p hp=>absurd (show p∈([]:List (Addr×Obj)) from hp) (by simp),e0.hok.kept hk,?_⟩
 ·exact name_of_addr x.apart (PySem.mem_of_lookup h1) (PySem.mem_of_lookup h2)
 ·have hy:scope.names.lookup y=some .cell∨scope.names.lookup y=some .free:=hy
  rcases hy with hy | hy
  ·exact y4l hy
  ·exact absurd rfl (S.nofree _ (PySem.mem_of_lookup hy))
 ·exact Nat.le_of_lt (x.above y c (PySem.mem_of_lookup h))
 ·have hi:i<vs.length:=by
   unfold start at h2
   by_cases hi:i<vs.length
   ·exact hi
   ·rw[List.getElem?_append_right (by simpa using hi)] at h2
    rw[List.getElem?_replicate] at h2
    split at h2<;>cases h2
  have ha:vs[i]? = some v:=by
   unfold start at h2
   rw[List.getElem?_append_left (by simpa using hi),List.getElem?_map] at h2
   cases e:vs[i]? with
   | none=>rw[e] at h2;cases h2
   | some a=>rw[e] at h2;cases h2;rfl
  obtain⟨u,hu,rv⟩:=r.get ha
  have hp:ps[i]? = some y:=by
   rw[<-S.pre,List.getElem?_take_of_lt (by omega)];exact h1
  have ndP:ps.Nodup:=by rw[<-S.pre];exact S.nd.sublist (List.take_sublist _ _)
  refine⟨u,rv,?_⟩
  rcases S.par y (List.mem_of_getElem? hp) with k | k
  ·exact .inl ⟨k,y2e ndP hp hu k⟩
  ·obtain⟨c,e⟩:=y4l (n:=s.heap.objs.size+1) k
   refine .inr ⟨.inl k,c,e,?_⟩
   have q:=x.cell y c e
   rw[y2g ndP hp hu (by show scope.names.lookup y≠_;rw[k];decide)] at q
   exact q
 ·exact e0.hok.fresh (Nat.le_of_lt (x.above y c (PySem.mem_of_lookup h)))
 ·unfold start
  show _=N.length
  rw[List.length_append,List.length_map,List.length_replicate]
  omega
theorem x2n{CX:CXT}{P:Program}{w:World}{K:PySem.W.Frag}{mg:Str->Option Value}{base:Heap}{k:Nat}{f:Addr}{name qual:Str}{params:Arguments}{body:List Stmt}{scope:Scope}{dV kV doc pm cdv ct oc:Value}{an od:Option Addr}
 {osl:Array (Option Value)} {N ps:List Str} {sp:Sp} (lk:K.lookup f=some ⟨oc,od,.func (PySem.W.fnOf name qual params body scope dV kV doc pm an cdv ct),osl⟩) (hcd:PySem.W.codeIn K cdv qual=true) (S:FnScope N ps scope)
 (len:∀vs H Q E,sp vs H Q E->vs.length=ps.length)
 (hbody:∀(A:Around) (outer:List Env) (s:Shared) (H:Hp) (vs:List V) (Q:VK) (E:XK),Room k (A.deeper (envOfC qual scope s.heap.objs.size f cdv))->sp vs H Q E ->
   ∃t,PSs (cxOf CX P w K mg base N qual scope f cdv A outer s H E) body t/\t { nx:=fun _ H'=>Q .non H',rt:=Q } (start N vs) H) :
 FnOk P w K mg base CX (k+1) f (PySem.W.fnOf name qual params body scope dV kV doc pm an cdv ct) ps sp:=by
 refine⟨len,fun A outer s H args us vs Q E hr e0 hb r hsp=>?_⟩
 have hl:=len _ _ _ _ hsp
 have KX:K.In s.heap:=e0.mod.kin.keeps fun b o e=>(e0.bs b o e).1
 have lim:s.heap.NoLimit:=e0.mod.nolimit.keeps fun b o e=>(e0.bs b o e).1
 have hkind:∀y∈ps.zip us,scope.names.lookup y.1=some .local∨(scope.names.lookup y.1=some .cell/\((cellsFrom (s.heap.objs.size+1) scope.names []).lookup y.1).isSome=true):=fun⟨n,v⟩ hy=>by
  rcases S.par n (List.of_mem_zip hy).1 with q | q
  ·exact .inl q
  ·exact .inr ⟨q,PySem.W.cellsFrom_some _ _ _ (.inl q)⟩
 refine codeAny_call_function hr.depth (KX _ _ lk) rfl S.co S.gen rfl (PySem.W.codeRec_of KX hcd) (hb _ _ _ _ ?_)
 refine wpAny_newFunctionEnv_cells S.kind hkind fun env he s1 x=>?_
 subst he
 refine⟨lim.keeps x.toInCall.keep,codeAny_func ?_⟩
 obtain⟨t,ht,hq⟩:=hbody A outer s H vs Q E (hr.deeper _) hsp
 have I:Inv (cxOf CX P w K mg base N qual scope f cdv A outer s H E) [] (start N vs) H s1:=y7j S hr.hd e0 hl r x
 refine wpAny_mono (ht [] s1 (start N vs) H _ I hq) (fun fl s' hs=>?_) fun e s' hs=>hs
 have fin:∀{σ':St} {H':Hp} {v:V} {u:Value},Inv (cxOf CX P w K mg base N qual scope f cdv A outer s H E) [] σ' H' s'->RelV v u->Q v H'->CE outer P w H s Q u s' :=
  fun {σ' H' v u} J rv q=>⟨v,H',J.os,J.bare,J.base,J.hok,rv,q⟩
 cases fl with
 | ret u =>
   obtain⟨v,σ',H',J,rv,q⟩:=hs
   exact fin J rv q
 | next =>
   obtain⟨σ',H',J,q⟩:=hs
   exact fin (v:=V.non) (u:=Value.none) J rfl q
 | brk =>
   obtain⟨_,_,_,q⟩:=hs
   exact False.elim q
 | cont =>
   obtain⟨_,_,_,q⟩:=hs
   exact False.elim q
end L2
namespace L2
open PySem PySem.Spec PyProof.Rows
section
variable {X:Cx}{x:Str}{p pos:Pos}{e:Expr}{es:List Expr}{t:TA}{id T:String}{r:List V->Hp->VK->Prop}
end
end L2
namespace HT
open PySem PyProof.Rows
section
open PySem.SeqAt
open PySem.AutoSeq1 (wpAny_loadPart')
open PySem.MeetsSeq PySem.MeetsSeq2 PySem.MeetsSeq3
end
section
variable {prog:Program}{w:World}{A:Around}{E:Value->Shared->Prop}{s:Shared}
theorem cat_tup{t b:Addr}{vs ws:List Value}{Q:Value->Shared->Prop}(ht:IsTup s.heap t vs.toArray)(hb:IsTup s.heap b ws.toArray)(hv:vs≠[])
 (h1:ws=[]->Q (.ref t) s) (h2:ws≠[]->Q (.ref s.heap.objs.size) { s with heap:=s.heap.push { cls:=.type "tuple",data:=.seq (vs++ws).toArray } })
 (hsz:vs.length+ws.length<=sizeLine):wpAny (model prog w) A (binaryOp .Add (.ref t) (.ref b)) Q E s:=by
 obtain⟨⟨cls,dd,data,sl⟩,ho,hc,n,hd⟩:=id ht
 obtain⟨⟨cls2,dd2,data2,sl2⟩,ho2,hc2,n2,hd2⟩:=id hb
 simp only at hc hd hc2 hd2
 subst hc hd hc2 hd2
 have e:vs.toArray++ws.toArray=(vs++ws).toArray:=by simp
 by_cases hw:ws=[]
 ·exact concat_meets ⟨_,ho,rfl⟩ ⟨_,ho2,rfl⟩ noFill_tuple_add seq_tuple_add PySem.F.slot_tuple_add PySem.F.entry_tuple_add (PySem.F.args_tuple_add_2 _ _)
   (tuple_addW1 t b vs.toArray ws.toArray n n2 dd dd2 sl sl2 (by simpa using hv) (by simp[hw])) ⟨ho,ho2,h1 hw⟩
 ·refine concat_meets ⟨_,ho,rfl⟩ ⟨_,ho2,rfl⟩ noFill_tuple_add seq_tuple_add PySem.F.slot_tuple_add PySem.F.entry_tuple_add (PySem.F.args_tuple_add_2 _ _)
   (tuple_addW2 t b vs.toArray ws.toArray n n2 dd dd2 sl sl2 (by simpa using hv) (by simpa using hw) (by rw[List.size_toArray,List.size_toArray];exact hsz)) ⟨ho,ho2,?_⟩
  rw[e]
  exact h2 hw
noncomputable def sIx(n d:Nat):Option Int->Nat
 | none=>d
 | some v=>if v<0 then (v+(n:Int)).toNat else min v.toNat n
theorem sIx_none(n d:Nat):sIx n d none=d:=rfl
theorem sIx_nat(n d k:Nat):sIx n d (some (k:Int))=min k n:=by
 show(if (k:Int)<0 then ((k:Int)+(n:Int)).toNat else min (k:Int).toNat n)=min k n
 rw[if_neg (by omega),Int.toNat_natCast]
theorem x3f(n d:Nat)(hd:d<=n)(o:Option Int):sIx n d o<=n:=by
 cases o with
 | none=>exact hd
 | some v =>
   show(if v<0 then (v+(n:Int)).toNat else min v.toNat n)<=n
   by_cases hv:v<0
   ·rw[if_pos hv];omega
   ·rw[if_neg hv];exact Nat.min_le_right _ _
theorem y8g(v:Int)(n d:Nat):(if v<0 then max (v+(n:Int)) 0 else min v (n:Int))=((sIx n d (some v):Nat):Int):=by
 show(if v<0 then max (v+(n:Int)) 0 else min v (n:Int))=(((if v<0 then (v+(n:Int)).toNat else min v.toNat n):Nat):Int)
 by_cases hv:v<0
 ·simp only[if_pos hv];omega
 ·simp only[if_neg hv];omega
theorem y5q(lo hi:Option Int)(n:Nat):Builtin.Slice.sliceAdjust lo hi 1 (n:Int)=(((sIx n 0 lo:Nat):Int),((sIx n n hi:Nat):Int)):=by
 have h1:¬((1:Int)<0):=by omega
 unfold Builtin.Slice.sliceAdjust
 simp only[h1,if_false]
 refine Prod.ext ?_ ?_
 ·cases lo with
  | none=>rfl
  | some v=>exact y8g v n 0
 ·cases hi with
  | none=>rfl
  | some v=>exact y8g v n n
theorem y4z(i j:Nat):Builtin.Slice.slicePlaces (i:Int) (j:Int) 1=j-i:=by
 unfold Builtin.Slice.slicePlaces
 have h1:(1:Int)>0:=by omega
 simp only[h1,if_true,Int.ediv_one]
 split<;>omega
theorem z8x{v:Value}{o:Option Int}{Q:Option Int->Shared->Prop}(p:IsPart v o)(h:Q o s):wpAny (model prog w) A (Builtin.Slice.slicePartIndex v) Q E s:=by
 cases p with
 | none=>exact slicePart_none h
 | int i t=>exact slicePart_int h
theorem z4z{sl:Addr}{vl vu:Value}{lo hi:Option Int}{n:Nat}{Q:Int×Int×Nat->Shared->Prop}(hs:s.heap.IsSliceOf sl vl vu .none)(pl:IsPart vl lo)(pu:IsPart vu hi)
 (h:Q (((sIx n 0 lo:Nat):Int),1,sIx n n hi-sIx n 0 lo) s):wpAny (model prog w) A (Builtin.Slice.sliceApplied (.ref sl) (pure (n:Int))) Q E s:=by
 obtain⟨os,hos,hcs,hds⟩:=id hs
 unfold Builtin.Slice.sliceApplied Builtin.Slice.sliceFields
 refine wpAny_bind (wpAny_bind (wpAny_field hos hds (x:=vl) rfl (wpAny_bind (wpAny_field hos hds (x:=vu) rfl (wpAny_bind (wpAny_field hos hds (x:=.none) rfl (wpAny_pure ?_)))))))
 refine wpAny_bind (slicePart_none ?_)
 show wpAny _ _ (if ((1:Int)==0)=true then _ else _) _ _ s
 rw[if_neg (by decide)]
 refine wpAny_bind (z8x pl (wpAny_bind (z8x pu (wpAny_bind (wpAny_pure ?_)))))
 show wpAny _ _ (match Builtin.Slice.sliceAdjust lo hi 1 (n:Int) with | (lo,hi)=>pure (lo,(1:Int),Builtin.Slice.slicePlaces lo hi 1)) _ _ s
 rw[y5q lo hi n]
 show wpAny _ _ (pure (((sIx n 0 lo:Nat):Int),(1:Int),Builtin.Slice.slicePlaces ((sIx n 0 lo:Nat):Int) ((sIx n n hi:Nat):Int) 1)) _ _ s
 rw[y4z]
 exact wpAny_pure h
theorem y8y(xs:Array Value)(i k:Nat):((List.range k).filterMap fun(m:Nat)=>xs[((i:Int)+(m:Int)*1).toNat]?).toArray=((xs.toList.drop i).take k).toArray:=by
 have e:(fun(m:Nat)=>xs[((i:Int)+(m:Int)*1).toNat]?)=fun m=>xs[i+m]?:=by
  funext m
  have:((i:Int)+(m:Int)*1).toNat=i+m:=by omega
  rw[this]
 rw[e]
 have:=pick_run xs i k
 rw[List.filterMap_map] at this
 have e2:((fun x=>xs[x]?) ∘ fun x=>i+x)=fun m=>xs[i+m]?:=rfl
 rw[e2] at this
 rw[this]
theorem getItem_tuple_cut{t sl:Addr}{items:Array Value}{vl vu:Value}{lo hi:Option Int}{Q:Value->Shared->Prop}(ht:IsTup s.heap t items)(hs:s.heap.IsSliceOf sl vl vu .none)(pl:IsPart vl lo)(pu:IsPart vu hi)
 (hw:¬(sIx items.size 0 lo=0/\sIx items.size items.size hi=items.size))
 (h:Q (.ref s.heap.objs.size) { s with heap:=s.heap.push { cls:=.type "tuple",data:=.seq ((items.toList.drop (sIx items.size 0 lo)).take (sIx items.size items.size hi-sIx items.size 0 lo)).toArray } })
 (hsz:items.size<=sizeLine):wpAny (model prog w) A (getItem (.ref t) (.ref sl)) Q E s:=by
 have htake:sizeOk (.seq ((items.toList.drop (sIx items.size 0 lo)).take (sIx items.size items.size hi-sIx items.size 0 lo)).toArray):=by
  show((items.toList.drop (sIx items.size 0 lo)).take (sIx items.size items.size hi-sIx items.size 0 lo)).toArray.size<=sizeLine
  rw[List.size_toArray,List.length_take,List.length_drop,Array.length_toList]
  omega
 have hj:sIx items.size items.size hi<=items.size:=x3f _ _ (Nat.le_refl _) hi
 obtain⟨os,hos,hcs,hds⟩:=id hs
 have hTs:s.TypeIs (.ref sl) "slice":=⟨os,hos,hcs⟩
 unfold getItem
 try with_reducible refine wpAny_holding ?_
 first | refine wpAny_bind (wpAny_pure ?_) | skip
 refine wpAny_bind (wpAny_sequenceKey ht.typeIs (by decide) ?_)
 refine wpAny_bind (wpAny_callSpecial?_slot (name:=Str.ofString "__getitem__") ht.typeIs PyProof.Rows.slot_tuple_getitem
  (wpAny_call_entry PyProof.Rows.slot_tuple_getitem ht.typeIs entry_tuple_getitem ?_ (args_tuple_getitem _ _)))
 show wpAny _ _ (Builtin.Tuple.tupleItemsOf (.ref t)>>=_) _ _ s
 refine wpAny_bind (tupleItemsOf_ ht ?_)
 refine wpAny_bind (wpAny_typeOf hTs ?_)
 rw[if_pos (by decide)]
 refine wpAny_bind (z4z hs pl pu ?_)
 have hno:¬((((sIx items.size 0 lo:Nat):Int)==0&&(1:Int)==1&&(sIx items.size items.size hi-sIx items.size 0 lo)==items.size)=true):=by
  intro q
  rw[Bool.and_eq_true,Bool.and_eq_true] at q
  have q1:((sIx items.size 0 lo:Nat):Int)=0:=eq_of_beq q.1.1
  have q2:sIx items.size items.size hi-sIx items.size 0 lo=items.size:=eq_of_beq q.2
  exact hw ⟨by omega,by omega⟩
 show wpAny _ _ (if (((sIx items.size 0 lo:Nat):Int)==0&&(1:Int)==1&&(sIx items.size items.size hi-sIx items.size 0 lo)==items.size)=true then _ else _) _ _ s
 rw[if_neg hno,y8y]
 first
  | exact wpAny_bind (m:=Builtin.Tuple.tupleExact _) (wpAny_newObj_type (wpAny_pure ⟨_,rfl,wpAny_pure h⟩) htake)
  | exact wpAny_bind (m:=Builtin.Tuple.tupleExact _) (wpAny_newObj_type (wpAny_bind (wpAny_pure (wpAny_pure ⟨_,rfl,wpAny_pure h⟩))) htake)
  | exact wpAny_bind (wpAny_bind (m:=Builtin.Tuple.tupleExact _) (wpAny_newObj_type (wpAny_pure (wpAny_pure ⟨_,rfl,wpAny_pure h⟩)) htake))
  | exact wpAny_bind (wpAny_bind (m:=Builtin.Tuple.tupleExact _) (wpAny_newObj_type (wpAny_pure ⟨_,rfl,wpAny_pure h⟩) htake))
end
end HT
namespace L2
open PySem PySem.Spec PyProof.Rows
noncomputable abbrev TO:=St->Hp->(Option Int->Hp->Prop)->Prop
theorem y5e{ns:List Int}:∀{us:List Value},Vals (ns.map V.int) us->IntsAre us ns:=by
 induction ns with
 | nil=>intro us r;rw[List.map_nil] at r;cases r;exact .nil
 | cons n ns ih =>
   intro us r
   rw[List.map_cons] at r
   cases r with
   | cons r1 r2 =>
     obtain⟨t,e⟩:=r1
     subst e
     exact .cons n t (ih r2)
section
variable {X:Cx}{e:Expr}{te:TE}{lo hi:Option Expr}{tl th:TO}{pos p2:Pos}
noncomputable def SlR(X:Cx)(r:V->Option Int->Option Int->Hp->VK->Prop):Prop :=
 ∀(pins:List (Addr×Obj)) (s:Shared) (σ:St) (H:Hp) (x:V) (v vl vu:Value) (lo hi:Option Int) (sl:Addr) (Q:VK),Inv X pins σ H s->RelV x v->s.heap.IsSliceOf sl vl vu .none->IsPart vl lo->IsPart vu hi->r x lo hi H Q ->
  ∃T id,typeLookup (.type T) "__getitem__"=pure (some (.builtin id))/\s.TypeIs v T/\wpAny (model X.prog X.w) X.A (getItem v (.ref sl)) (EP X pins σ Q) X.xe s
theorem SlR.or{r r':V->Option Int->Option Int->Hp->VK->Prop}(h:SlR X r)(h':SlR X r'):SlR X (fun x lo hi H Q=>r x lo hi H Q∨r' x lo hi H Q):=by
 intro pins s σ H x v vl vu lo hi sl Q I rx hs pl pu q
 rcases q with q | q
 ·exact h pins s σ H x v vl vu lo hi sl Q I rx hs pl pu q
 ·exact h' pins s σ H x v vl vu lo hi sl Q I rx hs pl pu q
noncomputable def cutV(xs:List V)(lo hi:Option Int):List V:=(xs.drop (HT.sIx xs.length 0 lo)).take (HT.sIx xs.length xs.length hi-HT.sIx xs.length 0 lo)
theorem z8l(xs:List V)(lo hi:Option Int):(cutV xs lo hi).length<=xs.length:=by
 unfold cutV
 rw[List.length_take,List.length_drop]
 omega
noncomputable def rSlT(K:PySem.W.Frag):V->Option Int->Option Int->Hp->VK->Prop:=fun x lo hi H Q=>∃a xs,x = .ref a/\SqT K H a xs /\
 ¬(HT.sIx xs.length 0 lo=0/\HT.sIx xs.length xs.length hi=xs.length)/\∀p,H p=none->Q (.ref p) (upd H p (.tup (cutV xs lo hi)))
theorem x3c:SlR X (rSlT X.K):=by
 intro pins s σ H x v vl vu lo hi sl Q I rx hs pl pu h
 obtain⟨a,xs,rfl,hx,hw,q⟩:=h
 cases rx
 obtain⟨its,r,ht,hz⟩:=I.tuple hx
 have hlen:its.toArray.size=xs.length:=by rw[List.size_toArray];exact r.length.symm
 refine⟨"tuple",_,PyProof.Rows.slot_tuple_getitem.lookup,ht.typeIs,?_⟩
 refine HT.getItem_tuple_cut ht hs pl pu (by rw[hlen];exact hw) ?_ (by rw[hlen];exact hz)
 rw[hlen]
 refine⟨.ref s.heap.objs.size,_,I.laid (t':=s.toks) (o:=.tup (cutV xs lo hi)) (fun b ob q=>Heap.get?_push_of_some _ q) (Nat.le_refl _) ?_,rfl,q _ (I.hok.fresh (Nat.le_refl _))⟩
 exact⟨Nat.le_trans (z8l xs lo hi) hz,_,(r.drop (HT.sIx xs.length 0 lo)).take (HT.sIx xs.length xs.length hi-HT.sIx xs.length 0 lo),IsTup.new _ _⟩
noncomputable def x4t(K:PySem.W.Frag):R2:=fun x y H Q=>∃a b xs ys,x = .ref a/\y = .ref b/\SqT K H a xs/\SqT K H b ys/\xs≠[]/\xs.length+ys.length<=sizeLine /\
 (ys=[]->Q (.ref a) H)/\(ys≠[]->∀p,H p=none->Q (.ref p) (upd H p (.tup (xs++ys))))
theorem Vals.nil_iff{xs:List V}{us:List Value}(r:Vals xs us):us=[]↔xs=[]:=by
 cases r with
 | nil=>simp
 | cons _ _=>simp
theorem x1r:OpR X (binaryOp .Add) (x4t X.K):=by
 intro pins s σ H x y v u Q I rx ry h
 obtain⟨a,b,xs,ys,rfl,rfl,ha,hb,hx,hz,q1,q2⟩:=h
 cases rx
 cases ry
 obtain⟨its,r1,p1,_⟩:=I.tuple ha
 obtain⟨its2,r2,p2,_⟩:=I.tuple hb
 refine HT.cat_tup p1 p2 (fun z=>hx (r1.nil_iff.mp z)) (fun z=>⟨.ref a,H,I,rfl,q1 (r2.nil_iff.mp z)⟩) (fun z=>?_) (by rw[<-r1.length,<-r2.length];exact hz)
 refine⟨.ref s.heap.objs.size,_,I.laid (t':=s.toks) (o:=.tup (xs++ys)) (fun b ob q=>Heap.get?_push_of_some _ q) (Nat.le_refl _) ?_,rfl,q2 (fun w=>z (r2.nil_iff.mpr w)) _ (I.hok.fresh (Nat.le_refl _))⟩
 exact⟨by rw[List.length_append];exact hz,_,r1.append r2,IsTup.new _ _⟩
end
end L2
namespace L2
open PySem PySem.Spec PyProof.Rows
noncomputable def ixN(n:Nat)(i:Int):Option Nat:=if 0<=i then (if i<n then some i.toNat else none) else if -(n:Int)<=i then some (i+n).toNat else none
noncomputable def atI{α:Type}(xs:List α)(i:Int):Option α:=(ixN xs.length i).bind fun j=>xs[j]?
theorem x2h{n:Nat}{i:Int}{j:Nat}(h:ixN n i=some j):seqIndex? i n=some j/\j<n /\ -(n:Int)<=i/\i<n:=by
 unfold ixN at h
 by_cases h0:0<=i
 ·rw[if_pos h0] at h
  by_cases h1:i<n
  ·rw[if_pos h1] at h
   have e:i.toNat=j:=Option.some.inj h
   exact⟨by rw[seqIndex_of h0 h1,e],by omega,by omega,h1⟩
  ·rw[if_neg h1] at h;cases h
 ·rw[if_neg h0] at h
  by_cases h1:-(n:Int)<=i
  ·rw[if_pos h1] at h
   have e:(i+n).toNat=j:=Option.some.inj h
   exact⟨by rw[seqIndex_neg (by omega) h1,e],by omega,h1,by omega⟩
  ·rw[if_neg h1] at h;cases h
theorem y8m{α:Type}{xs:List α}{i:Int}{v:α}(h:atI xs i=some v):∃j,seqIndex? i xs.length=some j/\xs[j]? = some v/\j<xs.length /\ -(xs.length:Int)<=i/\i<xs.length:=by
 unfold atI at h
 cases e:ixN xs.length i with
 | none=>rw[e] at h;cases h
 | some j =>
   rw[e] at h
   obtain⟨h1,h2,h3,h4⟩:=x2h e
   exact⟨j,h1,h,h2,h3,h4⟩
noncomputable def y8o(b:Expr):Prop:=∀o i,subscripted b false o i=operate [o,i] (getItem o i)
noncomputable def IxR(X:Cx)(r:R2):Prop :=
 ∀(value slice:Expr) (pins:List (Addr×Obj)) (s:Shared) (σ:St) (H:Hp) (x y:V) (v u:Value) (Q:VK),Inv X pins σ H s->RelV x v->RelV y u->r x y H Q ->
  subscripted slice false v u=operate [v,u] (getItem v u)->wpAny (model X.prog X.w) X.A (subscriptTail value slice v u) (EP X pins σ Q) X.xe s
noncomputable def MtR(X:Cx)(id:String)(r:V->List V->Hp->VK->Prop):Prop :=
 ∀(pins:List (Addr×Obj)) (s:Shared) (σ:St) (H:Hp) (x:V) (xs:List V) (v:Value) (us:List Value) (Q:VK),Inv X pins σ H s->RelV x v->Vals xs us->r x xs H Q ->
  wpAny (model X.prog X.w) X.A (call (.builtin id) (v::us)) (EP X pins σ Q) X.xe s
section
variable {X:Cx}{a b:Expr}{ta tb:TE}{pos:Pos}
theorem IxR.or{r r':R2}(h:IxR X r)(h':IxR X r'):IxR X (fun x y H Q=>r x y H Q∨r' x y H Q):=by
 intro value slice pins s σ H x y v u Q I rx ry q hs
 rcases q with q | q
 ·exact h value slice pins s σ H x y v u Q I rx ry q hs
 ·exact h' value slice pins s σ H x y v u Q I rx ry q hs
theorem MtR.or{id:String}{r r':V->List V->Hp->VK->Prop}(h:MtR X id r)(h':MtR X id r'):MtR X id (fun x xs H Q=>r x xs H Q∨r' x xs H Q):=by
 intro pins s σ H x xs v us Q I rx rs q
 rcases q with q | q
 ·exact h pins s σ H x xs v us Q I rx rs q
 ·exact h' pins s σ H x xs v us Q I rx rs q
noncomputable def rIxL(K:PySem.W.Frag):R2:=fun x y H Q=>∃p xs i v,x = .ref p/\y = .int i/\SqL K H p xs/\atI xs i=some v/\Q v H
noncomputable def rIxT(K:PySem.W.Frag):R2:=fun x y H Q=>∃p xs i v,x = .ref p/\y = .int i/\SqT K H p xs/\atI xs i=some v/\Q v H
theorem y7h:IxR X (rIxL X.K):=by
 intro value slice pins s σ H x y v u Q I rx ry h hs
 obtain⟨p,xs,i,z,rfl,rfl,hq,he,q⟩:=h
 cases rx
 obtain⟨t,rfl⟩:=ry
 obtain⟨its,r,pl,hz⟩:=I.list hq
 obtain⟨j,h1,h2,h3,h4,h5⟩:=y8m he
 obtain⟨w,ew,rw'⟩:=r.get h2
 have hl:=r.length
 have hn:=y7d
 have fin:EP X pins σ Q w s:=⟨z,H,I,rw',q⟩
 by_cases h0:0<=i
 ·have hj:i.toNat=j:=by
   rw[seqIndex_of h0 h5] at h1
   exact Option.some.inj h1
  exact item_listR pl.isList h0 (by omega) (by rw[hj];simpa using ew) fin hs
 ·have hj:(i+(its.toArray.size:Int)).toNat=j:=by
   rw[seqIndex_neg (by omega) h4] at h1
   rw[List.size_toArray,<-hl]
   exact Option.some.inj h1
  exact subscriptTail_builtinR (x:=w) pl.isList.typeIs slot_list_getitem.lookup
   (wpAny_getItem_list_neg (Q:=fun r s'=>r=w/\EP X pins σ Q r s') pl.isList (by omega) (by rw[List.size_toArray]<;>omega) (by omega) (by rw[hj];simpa using ew) ⟨rfl,fin⟩) hs
theorem x0q:IxR X (rIxT X.K):=by
 intro value slice pins s σ H x y v u Q I rx ry h hs
 obtain⟨p,xs,i,z,rfl,rfl,hq,he,q⟩:=h
 cases rx
 obtain⟨t,rfl⟩:=ry
 obtain⟨its,r,pl,hz⟩:=I.tuple hq
 obtain⟨j,h1,h2,h3,h4,h5⟩:=y8m he
 obtain⟨w,ew,rw'⟩:=r.get h2
 have hl:=r.length
 have hn:=y7d
 have fin:EP X pins σ Q w s:=⟨z,H,I,rw',q⟩
 exact subscriptTail_builtinR (x:=w) pl.typeIs slot_tuple_getitem.lookup
  (getItem_tuple (j:=j) (Q:=fun r s'=>r=w/\EP X pins σ Q r s') pl (by omega) (by omega) (by rw[List.size_toArray,<-hl];exact h1) (by simpa using ew) ⟨rfl,fin⟩) hs
theorem Inv.lst{pins:List (Addr×Obj)}{σ:St}{H:Hp}{s:Shared}{p:Addr}{xs:List V}(I:Inv X pins σ H s)(h:H p=some (.lst xs)) :
 ∃(its:List Value) (n:Nat),Vals xs its/\s.heap.get? p=some { cls:=.type "list",data:=.seq its.toArray n }/\xs.length<=sizeLine:=by
 obtain⟨z,its,n,r,e⟩:=I.hok p _ h
 exact⟨its,n,r,e,z⟩
theorem y0t(lo hi:Option Int)(n:Nat):(sliceBounds lo hi none n).1=((HT.sIx n 0 lo:Nat):Int)/\(sliceBounds lo hi none n).2.1=((HT.sIx n n hi:Nat):Int)/\(sliceBounds lo hi none n).2.2=1:=by
 refine⟨?_,?_,rfl⟩
 ·cases lo with
  | none=>simp[sliceBounds,HT.sIx]
  | some i =>
    simp only[sliceBounds,HT.sIx,Option.getD_none,show(1:Int)>0 by decide,if_true]
    by_cases h:i<0
    ·simp only[h,if_true]<;>omega
    ·simp only[h,if_false]<;>omega
 ·cases hi with
  | none=>simp[sliceBounds,HT.sIx]
  | some i =>
    simp only[sliceBounds,HT.sIx,Option.getD_none,show(1:Int)>0 by decide,if_true]
    by_cases h:i<0
    ·simp only[h,if_true]<;>omega
    ·simp only[h,if_false]<;>omega
theorem z9o(its:List Value)(lo hi:Option Int):slicePick its.toArray lo hi none=((its.drop (HT.sIx its.length 0 lo)).take (HT.sIx its.length its.length hi-HT.sIx its.length 0 lo)).toArray:=by
 obtain⟨h1,h2,h3⟩:=y0t lo hi its.toArray.size
 unfold slicePick
 rw[h1,h2,h3]
 simp only[sliceRange_one,pick_run,List.size_toArray]<;>rfl
noncomputable def rSlL(K:PySem.W.Frag):V->Option Int->Option Int->Hp->VK->Prop:=fun x lo hi H Q=>∃a xs,x = .ref a/\SqL K H a xs/\∀p,H p=none->Q (.ref p) (upd H p (.lst (cutV xs lo hi)))
theorem x1d:SlR X (rSlL X.K):=by
 intro pins s σ H x v vl vu lo hi sl Q I rx hs pl pu h
 obtain⟨a,xs,rfl,hx,q⟩:=h
 cases rx
 obtain⟨its,r,ht,hz⟩:=I.list hx
 have hlen:=r.length
 refine⟨"list",_,slot_list_getitem.lookup,ht.isList.typeIs,?_⟩
 refine wpAny_getItem_list_slice ht.isList hs pl pu .none (by simp) ?_ (by rw[List.size_toArray]<;>omega)
 rw[z9o,<-hlen]
 refine⟨.ref s.heap.objs.size,_,I.laid (t':=s.toks) (o:=.lst (cutV xs lo hi)) (fun b ob q=>Heap.get?_push_of_some _ q) (Nat.le_refl _) ?_,rfl,q _ (I.hok.fresh (Nat.le_refl _))⟩
 exact⟨Nat.le_trans (z8l xs lo hi) hz,_,0,(r.drop (HT.sIx xs.length 0 lo)).take (HT.sIx xs.length xs.length hi-HT.sIx xs.length 0 lo),Heap.get?_push_size _ rfl⟩
theorem y2b:z6y X (.builtin "len") (fun xs H Q=>∃p ys,xs=[.ref p]/\(SqL X.K H p ys∨SqT X.K H p ys)/\Q (.int ys.length) H):=by
 intro pins s σ H xs us Q I r h
 obtain⟨p,ys,rfl,hq,q⟩:=h
 obtain⟨u,rfl,rx⟩:=z9l r
 cases rx
 have hn:=y7d
 rcases hq with hq | hq
 ·obtain⟨its,r',pl,hz⟩:=I.list hq
  have hlen:=r'.length
  exact Calls.call_len_list pl.isList (by simp only[List.size_toArray]<;>omega) ⟨.int ys.length,H,I.tok _,⟨s.toks+1,by rw[List.size_toArray,hlen]⟩,q⟩
 ·obtain⟨its,r',pl,hz⟩:=I.tuple hq
  have hlen:=r'.length
  exact len_tuple pl (by simp only[List.size_toArray]<;>omega) ⟨.int ys.length,H,I.tok _,⟨s.toks+1,by rw[List.size_toArray,hlen]⟩,q⟩
theorem z6y.or{f:Value}{r r':List V->Hp->VK->Prop}(h:z6y X f r)(h':z6y X f r'):z6y X f (fun xs H Q=>r xs H Q∨r' xs H Q):=by
 intro pins s σ H xs us Q I rs q
 rcases q with q | q
 ·exact h pins s σ H xs us Q I rs q
 ·exact h' pins s σ H xs us Q I rs q
theorem y2a:z6y X (.type "list") (fun xs H Q=>∃p ys,xs=[.ref p]/\(SqL X.K H p ys∨SqT X.K H p ys)/\∀l,H l=none->Q (.ref l) (upd H l (.lst ys))):=by
 intro pins s σ H xs us Q I r h
 obtain⟨p,ys,rfl,hq,q⟩:=h
 obtain⟨u,rfl,rx⟩:=z9l r
 cases rx
 have fin:∀(its:List Value),Vals ys its->ys.length<=sizeLine->∀(h':Heap) (c':Nat),(∀b o',s.heap.get? b=some o'->h'.get? b=some o') ->
  h'.get? s.heap.objs.size=some { cls:=.type "list",dict:=none,data:=.seq its.toArray c',slots:=#[] }->EP X pins σ Q (.ref s.heap.objs.size) { s with heap:=h' }:=fun its r' hz h' c' kp e =>
  ⟨.ref s.heap.objs.size,_,I.laid (t':=s.toks) kp (Nat.le_refl _) (show z5q X.prog X.w _ h' _ (.lst ys) from⟨hz,its,c',r',e⟩),rfl,q _ (I.hok.fresh (Nat.le_refl _))⟩
 rcases hq with hq | hq
 ·obtain⟨its,r',pl,hz⟩:=I.list hq
  have hlen:=r'.length
  obtain⟨o,ho,hc,n,hd⟩:=pl.isList
  exact call_list_seq p (.inl rfl) ho hc hd (fun h' c' kp e=>fin its r' hz h' c' kp e) (by simp only[List.size_toArray]<;>omega)
 ·obtain⟨its,r',pl,hz⟩:=I.tuple hq
  have hlen:=r'.length
  obtain⟨o,ho,hc,n,hd⟩:=pl
  exact call_list_seq p (.inr rfl) ho hc hd (fun h' c' kp e=>fin its r' hz h' c' kp e) (by simp only[List.size_toArray]<;>omega)
theorem y0l:z6y X (.type "tuple") (fun xs H Q=>∃p ys,xs=[.ref p]/\((SqL X.K H p ys/\∀l,H l=none->Q (.ref l) (upd H l (.tup ys)))∨(SqT X.K H p ys/\Q (.ref p) H))):=by
 intro pins s σ H xs us Q I r h
 obtain⟨p,ys,rfl,h⟩:=h
 obtain⟨u,rfl,rx⟩:=z9l r
 cases rx
 rcases h with ⟨hq,q⟩ | ⟨hq,q⟩
 ·obtain⟨its,r',pl,hz⟩:=I.list hq
  have hlen:=r'.length
  refine call_tuple_list pl.isList (fun h' kp=>?_) (by simp only[List.size_toArray]<;>omega)
  have I1:Inv X pins σ H { s with heap:=h' }:=I.kept (t':=s.toks) kp
  have I2:Inv X pins σ (upd H h'.objs.size (.tup ys)) { s with heap:=h'.push { cls:=.type "tuple",data:=.seq its.toArray } } :=
   I1.laid (t':=s.toks) (fun b o e=>Heap.get?_push_of_some _ e) (Nat.le_refl _) (show z5q X.prog X.w _ _ _ (.tup ys) from⟨hz,its,r',IsTup.new _ _⟩)
  exact⟨.ref h'.objs.size,_,I2,rfl,q _ (I1.hok.fresh (Nat.le_refl _))⟩
 ·obtain⟨its,r',pl,hz⟩:=I.tuple hq
  exact call_tuple_same pl ⟨.ref p,H,I,rfl,q⟩
noncomputable def tyV(K:PySem.W.Frag)(T:String)(x:V)(H:Hp):Prop:=match x with
 | .str _=>T="str"
 | .int _=>T="int"
 | .ref p=>(T="list"/\∃xs,SqL K H p xs)∨(T="tuple"/\∃o,K.lookup p=some o/\o.cls = .type "tuple"/\o.dict=none) ∨
    (T="dict"/\((∃kvs,H p=some (.dK kvs))∨∃kvs,H p=some (.dT kvs)))∨(T="set"/\∃S n,H p=some (.set S n))
 | _=>False
theorem x0d{pins:List (Addr×Obj)}{σ:St}{H:Hp}{s:Shared}{T:String}{x:V}{v:Value}(I:Inv X pins σ H s)(r:RelV x v)(ty:tyV X.K T x H) :
 s.TypeIs v T/\∀a,v = .ref a->∃ob,s.heap.get? a=some ob/\ob.dict=none:=by
 cases x with
 | str z =>
   obtain⟨t,rfl⟩:=r
   cases (show T="str" from ty)
   exact⟨typeIs_str s z t,fun _ e=>nomatch e⟩
 | int i =>
   obtain⟨t,rfl⟩:=r
   cases (show T="int" from ty)
   exact⟨typeIs_int s i t,fun _ e=>nomatch e⟩
 | ref p =>
   cases r
   rcases ty with ⟨rfl,xs,hq⟩ | ⟨rfl,o,hk,hc,hd⟩ | ⟨rfl,hk⟩ | ⟨rfl,S,n,hk⟩
   ·obtain⟨its,_,pl,_⟩:=I.list hq
    refine⟨pl.isList.typeIs,fun a e=>?_⟩
    cases e
    obtain⟨o,n,e,c,hd,_⟩:=pl
    exact⟨o,e,hd⟩
   ·refine⟨⟨o,I.kIn p o hk,hc⟩,fun a e=>?_⟩
    cases e
    exact⟨o,I.kIn _ o hk,hd⟩
   ·have z:∃o,s.heap.get? p=some o/\o.ExactDict:=by
     rcases hk with ⟨kvs,hk⟩ | ⟨kvs,hk⟩
     ·obtain⟨_,_,_,_,o,_,_,e,ex,_⟩:=I.hok p _ hk
      exact⟨o,e,ex⟩
     ·obtain⟨_,_,_,_,o,_,_,e,ex,_⟩:=I.hok p _ hk
      exact⟨o,e,ex⟩
    obtain⟨o,e,ex⟩:=z
    refine⟨⟨o,e,ex.1⟩,fun a e2=>?_⟩
    cases e2
    exact⟨o,e,ex.2.1⟩
   ·obtain⟨o,_,_,_,e,ex,_⟩:=I.hok p _ hk
    refine⟨⟨o,e,ex.1⟩,fun a e2=>?_⟩
    cases e2
    exact⟨o,e,ex.2.1⟩
 | _=>exact False.elim ty
variable {o e:Expr}{es:List Expr}{to:TE}{t:TA}{name:Str}{apos cpos:Pos}{T id:String}{r:V->List V->Hp->VK->Prop}
end
end L2
namespace L2
open PySem PySem.Spec PyProof.Rows
noncomputable def MtM(X:Cx)(id:String)(r:V->List V->Hp->VK->Prop):Prop :=
 ∀(pins:List (Addr×Obj)) (s:Shared) (σ:St) (H:Hp) (x:V) (xs:List V) (v:Value) (us:List Value) (Q:VK),Inv X pins σ H s->RelV x v->Vals xs us->r x xs H Q ->
  wpAny (model X.prog X.w) X.A (call (.builtin id) (v::us)) (EP X pins σ Q) X.xe s
theorem Vals.one:∀{x:V} {us:List Value},Vals [x] us->∃u,us=[u]/\RelV x u
 | _,_,.cons r .nil=>⟨_,rfl,r⟩
theorem Vals.zero:∀{us:List Value},Vals [] us->us=[]
 | _,.nil=>rfl
theorem Vals.eraseIdx:∀{xs:List V} {us:List Value} (i:Nat),Vals xs us->Vals (xs.eraseIdx i) (us.eraseIdx i)
 | _,_,_,.nil=>.nil
 | _,_,0,.cons _ t=>t
 | _,_,i+1,.cons r t=>.cons r (Vals.eraseIdx i t)
theorem Vals.rep{xs:List V}{us:List Value}(h:Vals xs us):∀k:Nat,Vals (List.replicate k xs).flatten (List.replicate k us).flatten
 | 0=>.nil
 | k+1=>by
   rw[List.replicate_succ,List.replicate_succ,List.flatten_cons,List.flatten_cons]
   exact Vals.append h (Vals.rep h k)
theorem y1l{α:Type}:∀(l:List α) (i:Nat),(l.eraseIdx i).length<=l.length
 | [],_=>Nat.le_refl _
 | _::_,0=>Nat.le_succ _
 | _::r,i+1=>Nat.succ_le_succ (y1l r i)
theorem z8i(its:List Value):∀(k:Nat) (acc:List Value),
 List.foldl (fun x1 x2=>x1++x2) acc.toArray (List.replicate k its.toArray)=(acc++(List.replicate k its).flatten).toArray
 | 0,acc=>by simp
 | k+1,acc=>by
   have e:acc.toArray++its.toArray=(acc++its).toArray:=by simp
   have e2:(acc++its)++(List.replicate k its).flatten=acc++(List.replicate (k+1) its).flatten:=by
    rw[List.replicate_succ,List.flatten_cons,List.append_assoc]
   rw[<-e2,<-z8i its k (acc++its),<-e,List.replicate_succ,List.foldl_cons]
section
variable {X:Cx}{pins:List (Addr×Obj)}{σ:St}{H:Hp}{s:Shared}{l b:Addr}{xs ys zs:List V}
theorem Inv.lset{its its':List Value}{n:Nat}{f:Array Value->Array Value}{t':Nat}(I:Inv X pins σ H s)(hH:H l=some (.lst xs))
 (e:s.heap.get? l=some { cls:=.type "list",data:=.seq its.toArray n }) (hf:f its.toArray=its'.toArray) (hv:Vals ys its') (hz:ys.length<=sizeLine) :
 Inv X pins σ (upd H l (.lst ys)) { s with heap:=s.heap.update l (Obj.mapSeq f),toks:=t' }:=by
 have q:=PySem.IsL.update e f
 rw[hf] at q
 refine I.write (x:=l) (e:=l) (by rw[hH];exact trivial) (.inl rfl) (fun b' u hb hu=>(Heap.get?_update_other s.heap (Obj.mapSeq f) (Ne.symm hb)).trans hu) ⟨_,q⟩ ?_
 exact⟨hz,its',_,hv,q⟩
theorem Inv.lnew{its:List Value}{t':Nat}(I:Inv X pins σ H s)(hv:Vals ys its)(hz:ys.length<=sizeLine) :
 Inv X pins σ (upd H s.heap.objs.size (.lst ys)) { s with heap:=s.heap.push { cls:=.type "list",data:=.seq its.toArray },toks:=t' } :=
 I.laid (fun _ _ q=>Heap.get?_push_of_some _ q) (Nat.le_refl _) ⟨hz,its,0,hv,Heap.get?_push_size _ rfl⟩
theorem Inv.fresh(I:Inv X pins σ H s):H s.heap.objs.size=none:=I.hok.fresh (Nat.le_refl _)
theorem Inv.lstM(I:Inv X pins σ H s)(hH:H l=some (.lst xs)):xs.length<=sizeLine/\∃(its:List Value) (n:Nat),Vals xs its/\xs.length=its.length/\s.heap.get? l=some { cls:=.type "list",data:=.seq its.toArray n }:=by
 obtain⟨z,its,n,r,e⟩:=I.hok l _ hH
 exact⟨z,its,n,r,r.length,e⟩
theorem y9b{n:Nat}(h:n<=sizeLine):Builtin.List.listTooLong n=false:=by
 unfold Builtin.List.listTooLong
 exact decide_eq_false (by omega)
end
section
variable {X:Cx}
noncomputable def x1h:V->List V->Hp->VK->Prop:=fun x vs H Q=>∃l xs y,x = .ref l/\vs=[y]/\H l=some (.lst xs)/\xs.length<sizeLine/\Q .non (upd H l (.lst (xs++[y])))
theorem y6w:MtM X "list.append" x1h:=by
 intro pins s σ H x vs v us Q I rx rv h
 obtain⟨l,xs,y,rfl,rfl,hH,hz,q⟩:=h
 cases rx
 obtain⟨u,rfl,ru⟩:=rv.one
 obtain⟨z,its,n,r,hl,e⟩:=I.lstM hH
 refine call_meets F.slot_list_append ⟨_,e,rfl⟩ F.entry_list_append (F.args_list_append_2 _ _) (PySem.list_append l its.toArray n u (by rw[List.size_toArray];omega)) ⟨e,?_⟩
 refine⟨.non,_,I.lset (its':=its++[u]) hH e (by simp) (r.append (.cons ru .nil)) ?_,rfl,q⟩
 rw[List.length_append,List.length_singleton]
 omega
noncomputable def x3g:V->List V->Hp->VK->Prop:=fun x vs H Q=>∃l xs i k y,x = .ref l/\vs=[.int i]/\H l=some (.lst xs) /\ -(2^63)<=i/\i<2^63/\seqIndex? i xs.length=some k/\xs[k]? = some y/\Q y (upd H l (.lst (xs.eraseIdx k)))
theorem y9h:MtM X "list.pop" x3g:=by
 intro pins s σ H x vs v us Q I rx rv h
 obtain⟨l,xs,i,k,y,rfl,rfl,hH,h1,h2,hk,hy,q⟩:=h
 cases rx
 obtain⟨u,rfl,ru⟩:=rv.one
 obtain⟨t,rfl⟩:=ru
 obtain⟨z,its,n,r,hl,e⟩:=I.lstM hH
 obtain⟨w,hw,rw'⟩:=r.get hy
 refine call_meets F.slot_list_pop ⟨_,e,rfl⟩ F.entry_list_pop (F.args_list_pop_2 _ _)
  (MeetsSeq.list_pop_at l its.toArray n i t k w (fitsIndex_both h1 h2) (by rw[List.size_toArray,<-hl];exact hk) (by rw[<-Array.getElem?_toList];exact hw) (by rw[List.size_toArray];omega)) ⟨e,?_⟩
 refine⟨y,_,I.lset (its':=its.eraseIdx k) hH e ?_ (r.eraseIdx k) ?_,rw',q⟩
 ·show its.toArray.eraseIdxIfInBounds k=(its.eraseIdx k).toArray
  rw[List.eraseIdxIfInBounds_toArray]
 ·have:=y1l xs k
  omega
noncomputable def rCat:R2:=fun x y H Q=>∃l b xs zs,x = .ref l/\y = .ref b/\H l=some (.lst xs)/\H b=some (.lst zs)/\xs.length+zs.length<=sizeLine/\∀p,H p=none->Q (.ref p) (upd H p (.lst (xs++zs)))
theorem x3t:OpR X (binaryOp .Add) rCat:=by
 intro pins s σ H x y v u Q I rx ry h
 obtain⟨l,b,xs,zs,rfl,rfl,hH,hB,hz,q⟩:=h
 cases rx
 cases ry
 obtain⟨z,its,n,r,hl,e⟩:=I.lstM hH
 obtain⟨z2,its2,n2,r2,hl2,e2⟩:=I.lstM hB
 refine PySem.P.add_list e e2 ?_ (by rw[List.size_toArray,List.size_toArray];omega)
 have ea:its.toArray++its2.toArray=(its++its2).toArray:=by simp
 rw[ea]
 exact⟨.ref _,_,I.lnew (t':=s.toks) (r.append r2) (by rw[List.length_append];omega),rfl,q _ I.fresh⟩
noncomputable def rRep:R2:=fun x y H Q=>∃l k xs,x = .ref l/\y = .int k/\H l=some (.lst xs) /\ -(2^63)<=k/\k<2^63/\xs.length*k.toNat<=sizeLine /\
 ∀p,H p=none->Q (.ref p) (upd H p (.lst (List.replicate k.toNat xs).flatten))
theorem y2v{α:Type}(xs:List α)(k:Nat):(List.replicate k xs).flatten.length=k*xs.length:=by
 induction k with
 | zero=>simp
 | succ k ih=>rw[List.replicate_succ,List.flatten_cons,List.length_append,ih,Nat.succ_mul,Nat.add_comm]
theorem x3p:OpR X (binaryOp .Mult) rRep:=by
 intro pins s σ H x y v u Q I rx ry h
 obtain⟨l,k,xs,rfl,rfl,hH,h1,h2,hz,q⟩:=h
 cases rx
 obtain⟨t,rfl⟩:=ry
 obtain⟨z,its,n,r,hl,e⟩:=I.lstM hH
 have hlen:its.toArray.size*k.toNat<=sizeLine:=by rw[List.size_toArray,<-hl];exact hz
 have hcap:¬its.toArray.size*k.toNat>(2^63-1)/8:=by
  have:(sizeLine:Nat)<=(2^63-1)/8:=by decide
  omega
 have hfit:¬(!Builtin.List.listFitsIndex k)=true:=by
  rw[fitsIndex_both h1 h2]
  exact Bool.false_ne_true
 have hlong:¬Builtin.List.listTooLong (its.toArray.size*k.toNat)=true:=by
  rw[y9b hlen]
  exact Bool.false_ne_true
 have hnew:List.foldl (fun x1 x2=>x1++x2) #[] (List.replicate (if its.toArray.isEmpty=true then 0 else k.toNat) its.toArray)=(List.replicate k.toNat its).flatten.toArray:=by
  have f0:∀m:Nat,List.foldl (fun x1 x2=>x1++x2) #[] (List.replicate m its.toArray)=(List.replicate m its).flatten.toArray:=fun m=>by
   have:=z8i its m []
   rw[List.nil_append] at this
   exact this
  rw[f0]
  cases its with
  | nil=>simp
  | cons a r'=>rw[if_neg (by simp)]
 refine wpAny_binaryOp_repeat_ref (T:="list") (U:="int") (by decide) ⟨_,e,rfl⟩ (fun s'=>typeIs_int s' k t) noFill_list_mul F.fills_int_mul F.slot_int_rmul repeat_list F.slot_int_index.lookup
  (call_meets F.slot_int_rmul (typeIs_int s k t) F.entry_int_rmul (F.args_int_rmul_2 _ _) (int___rmul___int_list k t l its.toArray n)
    ⟨e,rfl,⟨_,e,rfl⟩,call_meets F.slot_list_mul ⟨_,e,rfl⟩ F.entry_list_mul (F.args_list_mul_2 _ _) (AutoListH.list___mul___list_int_3 l its.toArray n k t hfit hcap hlong) ⟨e,?_⟩⟩)
 rw[hnew]
 exact⟨.ref _,_,I.lnew (t':=s.toks) (r.rep k.toNat) (by rw[y2v,Nat.mul_comm];exact hz),rfl,q _ I.fresh⟩
end
section
variable {prog:Program}{w:World}{A:Around}{E:Value->Shared->Prop}{s:Shared}
end
section
variable {X:Cx}
end
end L2
namespace Att
open PySem PySem.W PySem.Calls PyProof.Rows
theorem z8f{P:Params}{h:Heap}:∀(ns:List Int) (vs:List Value),WellAll P h vs (ns.map WData.int)->IntsAre vs ns:=by
 intro ns
 induction ns with
 | nil =>
   intro vs w
   rw[List.map_nil] at w
   cases w
   exact .nil
 | cons n ns ih =>
   intro vs w
   rw[List.map_cons] at w
   cases w with
   | cons a b =>
     cases a
     exact .cons _ _ (ih _ b)
theorem y6c{l:OpenLaw}{n:Nat}(hn:l.most=some n){P:Params}{h:Heap}{args:List WData}{vals:List Value}
 (hpre:l.row.toRowW.claim.pre args=true) (hwl:WellAll P h vals args) :
 ∃a vs ns,vals=[Value.ref a]/\args=[WData.list (ns.map WData.int)]/\h.get? a=some { cls:=.type "list",data:=.seq vs.toArray }/\IntsAre vs ns/\ns.length<=n:=by
 have hsh:WShape.hasAll [] args [.list .int]=true:=(pre_splitW hpre).1
 have hc:l.pre.holds [] { args:=args }=true:=(pre_splitW hpre).2
 obtain⟨d,r,rfl,h1,h2⟩:=hasAllW_cons hsh
 obtain rfl:=hasAllW_nil h2
 obtain⟨xs,rfl,h3⟩:=hasW_list h1
 obtain⟨ns,rfl⟩:=items_int h3
 have hlen:ns.length<=n:=by
  unfold OpenLaw.pre at hc
  have h4:(WTm.not (.lt (.lit (.int (n:Int))) (.len (.arg 0)))).holds [] { args:=[.list (ns.map .int)] }=true:=by
   have h4:=(holds_andW hc).1
   rw[hn] at h4
   exact h4
  have h5:=condW_of h4 (w_not (w_lt w_lit (w_len_list (w_arg rfl))))
  rw[List.length_map] at h5
  refine Nat.le_of_not_lt fun q=>?_
  have q':(n:Int)<((ns.length:Nat):Int):=by omega
  first
   | (rw[decide_eq_true q'] at h5;exact absurd h5 (by decide))
   | (simp at h5;omega)
 cases hwl with
 | cons w1 w2 =>
   cases w2
   cases w1 with
   | list ho hall=>exact⟨_,_,ns,rfl,rfl,ho,z8f ns _ hall,hlen⟩
theorem y6i(l:OpenLaw)(args:List WData):l.row.toRowW.claim.post args (.bool true) args=true :=
 postW_of (r:=l.row.toRowW) (X:=(true==true))
  (show WShape.has [] (.bool true) .bool=true by first | rfl | decide | simp[WShape.has,WShape.arms,WShape.armsAll])
  (show(WTm.eq .res (.lit (.bool true))).value [] { args:=args,res:=some (.bool true),after:=args }=some (.bool (true==true)) from w_eq_bool (w_res rfl) w_lit) rfl
theorem attach_call{l:OpenLaw}{n:Nat}{q:Program}{loose:List Str}{XP:(Str->Option Value)->Heap->Prop}{YP:World->Heap->Prop}{d:DefRec}
 (hn:l.most=some n) (hdf:d.params.defaults=[])
 (call:∀(w:World) (s₀ s₁:Shared) (mg mb:Str->Option Value) (fa:Addr) (o:Obj) (pm cd doc:Value) (a:Addr) (vs:List Value) (ns:List Int),
   Ground q loose [] XP w s₀ mg mb s₁.heap->YP w s₁.heap ->
   s₁.heap.get? fa=some o->o.data = .func (docDef d.name d.params d.body d.scope pm cd doc)->s₁.heap.CodeRec cd d.name->mg d.name=some (.ref fa) ->
   s₁.heap.get? a=some { cls:=.type "list",data:=.seq vs.toArray }->IntsAre vs ns->ns.length<=n->s₁.gens=#[] ->
   codeAny (model l.prog w) callerA (.call (.ref fa) ⟨[.ref a],[]⟩) (fun r s'=>r = .ok (.ret (.bool true))/\OldK s₁.heap s'.heap/\s'.os=s₁.os/\AllBare s'.gens) s₁) :
 WalkO q loose XP YP l.row.toRowW d [] (fun f vs=>PySem.call f vs):=by
 intro w s₀ s₁ mg mb G Y fa o pm cd doc dV kV ho hd hcd hD hmg hg args vals as hpre hlay hrd hwl hlo
 obtain rfl:dV = .none:=Dflts.none hD hdf
 obtain rfl:kV = .none:=Dflts.noKw hD
 obtain⟨a,vs,ns,rfl,rfl,hobj,hints,hlen⟩:=y6c hn hpre hwl
 refine enter_call (codeAny_mono (call w s₀ s₁ mg mb fa o pm cd doc a vs ns G Y ho (fd_plain hd) hcd hmg hobj hints hlen hg) fun r s' hq=>?_)
 obtain⟨rfl,h2,h3,h4⟩:=hq
 exact⟨.inl ⟨.bool true,.bool true,[],rfl,fun _=>rfl,.bool true,y6i l _,fun _=>⟨List.Pairwise.nil,fun _ hm=>(nomatch hm)⟩⟩,h2,h3,h4⟩
section
variable {prog:Program}{w:World}{A:Around}{E:Value->Shared->Prop}{s:Shared}{K:Frag}
end
end Att
namespace L2
open PySem PySem.Spec PyProof.Rows
theorem vals_ints:∀{vs:List Value} {ns:List Int},IntsAre vs ns->Vals (ns.map V.int) vs
 | _,_,.nil=>.nil
 | _,_,.cons n t h=>.cons ⟨t,rfl⟩ (vals_ints h)
noncomputable def Only(H:Hp):Prop:=∀b,H b=none∨∃o xs,H b=some (.frz o (.lst xs))
theorem y9m{P:Program}{w:World}{K:PySem.W.Frag}{mg mb:Str->Option Value}{CX:CXT}{k:Nat}{fa a:Addr}{fd:FuncData}{x:Str}{sp:Sp}{s₁:Shared}{vs:List Value}{ns:List Int}
 (KX:K.In s₁.heap) (hns:s₁.heap.Ns mainGlobals mg) (hb:s₁.heap.Ns builtinsNs mb) (hbb:∀x:Str,x≠"__name__"->mb x=bootBuiltins x) (hlim:s₁.heap.NoLimit) (hg:s₁.gens=#[])
 (ha:s₁.heap.get? a=some { cls:=.type "list",data:=.seq vs.toArray }) (hi:IntsAre vs ns) (hl:ns.length<=sizeLine) (hr:Room k callerA)
 (F:∀base:Heap,K.In base->base.Ns mainGlobals mg->FnOk P w K mg base CX k fa fd [x] sp) (hbind:∀(s:Shared) (u:Value),BindsTo s fd ⟨[u],[]⟩ [(x,u)])
 (hsp:∀H:Hp,Only H->SqL K H a (ns.map V.int)->sp [.ref a] H (fun v _=>v = .bl true) fun _ _ _=>False)
 (hCX:∀H e s',CX [] H s₁ (fun _ _ _=>False) e s'->False) :
 codeAny (model P w) callerA (.call (.ref fa) ⟨[.ref a],[]⟩) (fun r s'=>r = .ok (.ret (.bool true))/\OldK s₁.heap s'.heap/\s'.os=s₁.os/\AllBare s'.gens) s₁:=by
 have rv:=vals_ints hi
 have lenV:=hi.length
 have core:∀H:Hp,Only H->SqL K H a (ns.map V.int)->HOk P w H s₁.heap->(∀b,H b≠none->b=a)->(H a≠none->K.lookup a=none) ->
  codeAny (model P w) callerA (.call (.ref fa) ⟨[.ref a],[]⟩) (fun r s'=>r = .ok (.ret (.bool true))/\OldK s₁.heap s'.heap/\s'.os=s₁.os/\AllBare s'.gens) s₁:=by
  intro H hO hS hok hA hK
  have base_of:∀{b:Addr} {o:Obj},s₁.heap.get? b=some o->H b=none->(hidT s₁.heap H).get? b=some o:=fun e n=>y0e e n
  have noA:∀{b:Addr} {o:Obj} {es:Array DictEntry} {ep:Nat},s₁.heap.get? b=some o->o.data = .dict es ep->H b=none:=fun {b o es ep} e d=>by
   cases q:H b with
   | none=>rfl
   | some u =>
     have e':b=a:=hA b (by rw[q];simp)
     subst e'
     rw[ha] at e;cases e
     have d':Data.seq vs.toArray _=Data.dict es ep:=d
     cases d'
  have nsK:∀{b:Addr} {m:Str->Option Value},s₁.heap.Ns b m->(hidT s₁.heap H).Ns b m:=fun {b m} ⟨o,es,ep,e,d,r⟩=>⟨o,es,ep,base_of e (noA e d),d,r⟩
  have hKb:K.In (hidT s₁.heap H):=fun b o e=>base_of (KX b o e) (by
   cases q:H b with
   | none=>rfl
   | some u =>
     have e':b=a:=hA b (by rw[q];simp)
     subst e'
     rw[hK (by rw[q];simp)] at e;cases e)
  have hM:Mod K mg (hidT s₁.heap H):=⟨hKb,nsK hns,⟨mb,nsK hb,hbb⟩,let ⟨mc,h1,h2⟩:=hlim;⟨mc,nsK h1,h2⟩⟩
  have e0:Env0 P w K mg (hidT s₁.heap H) callerA [] s₁ H:=⟨rfl,hM,fun b o e=>y2r e,Nat.le_of_eq (y7m _ _),trivial,fun b hb=>absurd (show b∈([]:List Addr) from hb) (by simp),hok,.of_eq hg⟩
  refine codeAny_mono ((F _ hKb (nsK hns)).run callerA [] s₁ H ⟨[.ref a],[]⟩ [.ref a] [.ref a] _ _ hr e0 (hbind s₁ (.ref a)) (.cons rfl .nil) (hsp H hO hS)) fun r s' h=>?_
  cases r with
  | error e=>exact(hCX H e s' h).elim
  | ok fl =>
    cases fl with
    | next=>exact False.elim h
    | brk=>exact False.elim h
    | cont=>exact False.elim h
    | ret u =>
      obtain⟨v,H',os,bare,un,hok',r',q⟩:=h
      have q':v = .bl true:=q
      subst q'
      obtain rfl:u=Value.bool true:=r'
      refine⟨rfl,OldK.of_keep fun b o e=>?_,os,bare⟩
      cases q:H b with
      | none=>exact un.keep b o e q (by intro z;exact absurd (show b∈([]:List Addr) from z) (by simp)) (by simp)
      | some u =>
        rcases hO b with z | ⟨ob,xs,z⟩
        ·rw[q] at z;cases z
        ·have z2:=un.frzs b ob _ z
         obtain⟨e1,_⟩:=hok b _ z
         obtain⟨e2,_⟩:=hok' b _ z2
         rw[e] at e1;cases e1
         exact e2
 cases hk:K.lookup a with
 | some o =>
   have e:=KX a o hk
   rw[ha] at e
   cases e
   refine core (fun _=>none) (fun _=>.inl rfl) (.inr ⟨_,vs.toArray,_,hk,rfl,rfl,rfl,by rw[List.size_toArray,lenV];exact hl,by simpa using rv⟩) (fun b u z=>by have z':(none:Option HO)=some u:=z;cases z') (fun b z=>absurd rfl z) fun z=>absurd rfl z
 | none =>
   refine core (fun b=>if b=a then some (.frz { cls:=.type "list",data:=.seq vs.toArray } (.lst (ns.map V.int))) else none) (fun b=>?_) (.inl (.inr ⟨{ cls:=.type "list",data:=.seq vs.toArray },if_pos rfl⟩)) (fun b u z=>?_) (fun b z=>?_) fun _=>hk
   ·by_cases hb:b=a
    ·exact .inr ⟨_,_,if_pos hb⟩
    ·exact .inl (if_neg hb)
   ·by_cases hb:b=a
    ·have z':=(if_pos hb).symm.trans z
     cases z'
     subst hb
     exact⟨ha,by rw[List.length_map];exact hl,vs,_,rv,ha⟩
    ·have z':=(if_neg hb).symm.trans z
     cases z'
   ·by_cases hb:b=a
    ·exact hb
    ·exact absurd (if_neg hb) z
end L2
namespace L2
open PySem PySem.Spec PyProof.Rows
noncomputable abbrev KOf {K:PySem.W.Frag} {h:Heap} (_:K.In h):PySem.W.Frag:=K
theorem walk_of{l:PySem.W.OpenLaw}{n k:Nat}{q:Program}{loose:List Str}{XP:(Str->Option Value)->Heap->Prop}{YP:World->Heap->Prop}{d:DefRec}{K:Params->PySem.W.Frag}{CX:World->CXT}{sp:World->Sp}{x:Str}
 (hn:l.most=some n) (hn2:n<=sizeLine) (hdf:d.params.defaults=[]) (hr:Room k callerA)
 (hY:∀(w:World) (h:Heap),YP w h->(K w.params).In h)
 (F:∀(w:World) (mg:Str->Option Value) (fa:Addr) (h:Heap),(K w.params).In h->h.Ns mainGlobals mg->mg d.name=some (.ref fa) ->
   ∃fd:FuncData,(∀(s:Shared) (u:Value),BindsTo s fd ⟨[u],[]⟩ [(x,u)]) /\
    ∀base:Heap,(K w.params).In base->base.Ns mainGlobals mg->FnOk l.prog w (K w.params) mg base (CX w) k fa fd [x] (sp w))
 (hsp:∀(w:World) (H:Hp) (a:Addr) (ns:List Int),ns.length<=n->Only H->SqL (K w.params) H a (ns.map V.int)->sp w [.ref a] H (fun v _=>v = .bl true) fun _ _ _=>False)
 (hCX:∀(w:World) (H:Hp) (s:Shared) (e:Value) (s':Shared),CX w [] H s (fun _ _ _=>False) e s'->False) :
 PySem.W.WalkO q loose XP YP l.row.toRowW d [] (fun f vs=>PySem.call f vs):=by
 refine Att.attach_call hn hdf fun w s₀ s₁ mg mb fa o pm cd doc a vs ns G Y ho hd hcd hmg hobj hints hlen hg=>?_
 have KX:=hY w _ Y
 obtain⟨fd,hb,hF⟩:=F w mg fa _ KX G.T.g hmg
 exact y9m KX G.T.g G.T.b G.T.builtins G.T.nolimit hg hobj hints (Nat.le_trans hlen hn2) hr hF hb (fun H hO hS=>hsp w H a ns hlen hO hS) fun H e s'=>hCX w H s₁ e s'
end L2
/- THE LAST THEOREM (shape;LID,My.* are yours):
   My.Adr: a structure of the addresses that your layer names (classes,functions);My.Txt K t: a structure (Prop) of the equations over K;
   My.txt_mk:{K} {implicit addresses ..} (e1:nsIn K mainGlobals "law"=some (some (.ref f))) (e2:K.lookup f=some ⟨oc,od,.func (fnOf "law" "law" params body scope dV kV doc pm an cdv ct),sl⟩) (e3:codeIn K cdv "law"=true) ..:∃t,My.Txt K t
set_option maxRecDepth 100000 in
set_option maxHeartbeats 0 in
theorem PySem.Challenge.cw_LID_holds : PySem.Challenge.rw_LID.Holds := by
 w_on;o_law;k_head;(case hw=>w_witness2)
 k_fill
 refine L2.walk_of (l:=PySem.Challenge.rw_LID) (n:=63) (k:=40) (x:="script") (CX:=fun w=>..) (sp:=fun _=>My.sp_law) rfl (by decide) rfl ⟨rfl,by decide,by decide⟩ (fun w h Y=>PySem.W.kIn_of Y) ?F ?S ?C
 case F =>
  intro w mg fa h KX G hmg
  have T:∃t,My.Txt (L2.KOf KX) t:=by
   dsimp only[L2.KOf]                          -- K must stand as «<heap const> w.params» for k_is
   refine' My.txt_mk ?e1 ?e2 ?e3 ..
   (case e1=>PySem.W.k_is)                    -- in the order: a name->its address->its object->its parts
   (case e2=>PySem.W.k_is)
   ..
  obtain⟨t,T⟩:=T
  have e0:=hmg.symm.trans (PySem.W.mg_of KX G T.law)
  cases e0                                       -- fa is the law's own address
  exact⟨_,fun s u=>.of_eq rfl,fun base kb nb=>My.law_fn T kb nb⟩     -- if «.of_eq rfl» comes too early: refine' ⟨_,?b,fun base kb nb=>My.law_fn T kb nb⟩;exact fun s u=>.of_eq rfl
 case S=>exact fun w H a ns hl hO hS=>..
 case C=>exact ..
(the tactic k_is has no namespace: write k_is) -/
namespace L2
open PySem PySem.Spec PyProof.Rows
noncomputable def z0x(s:Stmt):Arguments:=match s with
 | .FunctionDef _ a _ _ _ _ _ _ _ _=>a
 | _=>{ posonlyargs:=[],args:=[],vararg:=none,kwonlyargs:=[],kw_defaults:=[],kwarg:=none,defaults:=[] }
noncomputable def z0q(s:Stmt):List Stmt:=match s with
 | .FunctionDef _ _ b _ _ _ _ _ _ _=>b
 | _=>[]
noncomputable def z0e(s:Stmt):Scope:=match s with
 | .FunctionDef _ _ _ _ _ _ sc _ _ _=>sc
 | _=>{ kind:=.function,names:=[],isGenerator:=false,isCoroutine:=false }
noncomputable abbrev CX0:CXT:=fun _ _ _ _ _ _=>False
structure Fun (K:PySem.W.Frag) (x qual:Str) (st:Stmt) (f:Addr) (fd:FuncData):Prop where
 ex:∃(oc:Value) (od:Option Addr) (kV doc pm:Value) (an:Option Addr) (cdv ct:Value) (osl:Array (Option Value)),
  fd=PySem.W.fnOf x qual (z0x st) (z0q st) (z0e st) .none kV doc pm an cdv ct/\K.lookup f=some ⟨oc,od,.func fd,osl⟩/\PySem.W.codeIn K cdv qual=true
 kp:PySem.W.keepIn K (.ref f)=true
section
variable {P:Program}{w:World}{K:PySem.W.Frag}{mg:Str->Option Value}{base:Heap}
theorem Fun.ok{x qual:Str}{st:Stmt}{f:Addr}{fd:FuncData}{N ps:List Str}{k:Nat}{sp:Sp}(F:Fun K x qual st f fd)(S:FnScope N ps (z0e st))(len:∀vs H Q E,sp vs H Q E->vs.length=ps.length)
 (hbody:∀(cdv:Value) (A:Around) (outer:List Env) (s:Shared) (H:Hp) (vs:List V) (Q:VK) (E:XK),Room k (A.deeper (envOfC qual (z0e st) s.heap.objs.size f cdv))->sp vs H Q E ->
   ∃t,PSs (cxOf CX0 P w K mg base N qual (z0e st) f cdv A outer s H E).nox (z0q st) t/\t { nx:=fun _ H'=>Q .non H',rt:=Q } (start N vs) H):FnOk P w K mg base CX0 (k+1) f fd ps sp:=by
 obtain⟨oc,od,kV,doc,pm,an,cdv,ct,osl,rfl,lk,hcd⟩:=F.ex
 refine x2n lk hcd S len fun A outer s H vs Q E hr hsp=>?_
 obtain⟨t,h,q⟩:=hbody cdv A outer s H vs Q E hr hsp
 exact⟨t,h.nox,q⟩
theorem Fun.binds{x qual:Str}{st:Stmt}{f:Addr}{fd:FuncData}{ps:List Str}(F:Fun K x qual st f fd)
 (h:∀(kV doc pm:Value) (an:Option Addr) (cdv ct:Value) (us:List Value),us.length=ps.length->bindArgs (PySem.W.fnOf x qual (z0x st) (z0q st) (z0e st) .none kV doc pm an cdv ct) ⟨us,[]⟩=pure (ps.zip us)):z2t K fd ps []:=by
 obtain⟨oc,od,kV,doc,pm,an,cdv,ct,osl,rfl,lk,hcd⟩:=F.ex
 exact .all (h kV doc pm an cdv ct)
theorem z2h{x qual:Str}{st:Stmt}{f:Addr}{oc:Value}{od an:Option Addr}{osl:Array (Option Value)}{kV doc pm cdv ct:Value}(l:K.lookup f=some ⟨oc,od,.func (PySem.W.fnOf x qual (z0x st) (z0q st) (z0e st) .none kV doc pm an cdv ct),osl⟩)
 (c:PySem.W.codeIn K cdv qual=true) (k:PySem.W.keepIn K (.ref f)=true):Fun K x qual st f (PySem.W.fnOf x qual (z0x st) (z0q st) (z0e st) .none kV doc pm an cdv ct):=⟨⟨oc,od,kV,doc,pm,an,cdv,ct,osl,rfl,l,c⟩,k⟩
end
theorem y5z{n:Nat}(h:n<=1000):n<sizeLine:=Nat.lt_of_le_of_lt h (by decide)
section
variable {X:Cx}
end
noncomputable def Same(H H':Hp):Prop:=∀b o,H b=some o->H' b=some o
theorem Same.refl(H:Hp):Same H H:=fun _ _ h=>h
theorem Same.trans{H H1 H2:Hp}(a:Same H H1)(b:Same H1 H2):Same H H2:=fun c o h=>b c o (a c o h)
theorem Same.free{H H':Hp}(e:Same H H'){l:Addr}(h:H' l=Option.none):H l=Option.none:=by
 cases q:H l with
 | none=>rfl
 | some o =>
   rw[e l o q] at h
   cases h
theorem Same.seq{K:PySem.W.Frag}{H H':Hp}{a:Addr}{xs:List V}(e:Same H H')(h:SqL K H a xs):SqL K H' a xs:=by
 rcases h with (h | ⟨o,h⟩) | h
 ·exact .inl (.inl (e _ _ h))
 ·exact .inl (.inr ⟨o,e _ _ h⟩)
 ·exact .inr h
end L2
namespace L3
open PySem
noncomputable section
inductive Er where
 | noPrime | noNumber | noProgram | tooLong | lossy | noText
 deriving DecidableEq
noncomputable def Er.nm:Er->Str
 | .noPrime=>"NoPrime" | .noNumber=>"NoNumber" | .noProgram=>"NoProgram" | .tooLong=>"TooLong" | .lossy=>"Lossy" | .noText=>"NoText"
inductive D where
 | non | bl (b:Bool) | int (i:Int) | str (x:Str) | tup (ds:List D) | lst (ds:List D) | dct | exc (c:Er)
mutual
noncomputable def D.noL:D->Bool
 | .lst _=>false
 | .dct=>false
 | .tup ds=>D.noLs ds
 | _=>true
noncomputable def D.noLs:List D->Bool
 | []=>true
 | d::ds=>d.noL&&D.noLs ds
end
theorem z7m:D.noLs []=true:=by unfold D.noLs;rfl
theorem y3y:∀ds:List D,D.noLs ds=ds.all D.noL
 | []=>by unfold D.noLs;rfl
 | d::ds=>by unfold D.noLs;rw[y3y ds];rfl
theorem z4s(i:Int):D.noL (.int i)=true:=by simp[D.noL]
theorem z7c(i:Bool):D.noL (.bl i)=true:=by simp[D.noL]
theorem z9y(i:Str):D.noL (.str i)=true:=by simp[D.noL]
theorem z9z:D.noL .non=true:=by simp[D.noL]
theorem x1y(ds:List D):D.noL (.tup ds)=D.noLs ds:=by simp[D.noL]
theorem x1x{ds:List D}(h:∀d∈ds,d.noL=true):D.noLs ds=true:=by rw[y3y,List.all_eq_true];exact h
theorem y3x{α:Type}{f:α->D}{l:List α}(h:∀x∈l,(f x).noL=true):D.noLs (l.map f)=true:=x1x fun d hd=>by
 obtain⟨x,hx,rfl⟩:=List.mem_map.mp hd;exact h x hx
theorem z0w(ns:List Int):D.noLs (ns.map D.int)=true:=y3x fun _ _=>z4s _
theorem z5j(ns:List Int):D.noL (.tup (ns.map D.int))=true:=by rw[x1y];exact z0w ns
inductive R (α:Type) where
 | no | ok (a:α) | er (c:Er)
noncomputable def R.bind{α β:Type}(r:R α)(k:α->R β):R β:=match r with
 | .no=>.no
 | .ok a=>k a
 | .er c=>.er c
noncomputable instance:Monad R where
 pure:=R.ok
 bind:=R.bind
@[simp] theorem R.bind_no {α β:Type} (k:α->R β):(R.no>>=k)=R.no:=rfl
@[simp] theorem R.bind_ok {α β:Type} (a:α) (k:α->R β):(R.ok a>>=k)=k a:=rfl
@[simp] theorem R.bind_er {α β:Type} (c:Er) (k:α->R β):(R.er c>>=k)=R.er c:=rfl
@[simp] theorem R.pure_ok {α:Type} (a:α):(pure a:R α)=R.ok a:=rfl
theorem R.left{α β:Type}{r:R α}{k:α->R β}(h:(r>>=k) ≠ .no):r ≠ .no:=fun e=>h (by rw[e];rfl)
theorem R.next{α β:Type}{r:R α}{k:α->R β}{a:α}(h:(r>>=k) ≠ .no)(e:r = .ok a):k a ≠ .no:=by
 rw[e] at h;exact h
theorem R.step{α β:Type}{r:R α}{a:α}(e:r = .ok a)(k:α->R β):(r>>=k)=k a:=by rw[e];rfl
theorem R.stop{α β:Type}{r:R α}{c:Er}(e:r = .er c)(k:α->R β):(r>>=k) = .er c:=by rw[e];rfl
noncomputable def R.guard{α:Type}(p:Prop)(r:R α):R α:=@ite _ p (Classical.propDecidable p) r .no
theorem R.guard_pos{α:Type}{p:Prop}{r:R α}(h:p):R.guard p r=r:=if_pos h
theorem R.guard_ne{α:Type}{p:Prop}{r:R α}(h:R.guard p r ≠ .no):p/\R.guard p r=r:=by
 unfold R.guard at h ⊢
 by_cases q:p
 ·exact⟨q,if_pos q⟩
 ·rw[if_neg q] at h;exact absurd rfl h
theorem z5l{α:Type}{r:R α}:R.guard True r=r:=R.guard_pos trivial
theorem z6l{α:Type}{p:Prop}{r:R α}(h:p):R.guard p r=r:=R.guard_pos h
inductive En where
 | no | ro (d:D) | own (ds:List D)
noncomputable abbrev G:=List En
noncomputable def lk(Γ:G)(i:Nat):R D:=match Γ[i]? with
 | some (.ro d)=>.ok d
 | some (.own ds)=>.ok (.lst ds)
 | _=>.no
noncomputable def lkr(Γ:G)(i:Nat):R D:=match Γ[i]? with
 | some (.ro d)=>.ok d
 | _=>.no
theorem x5b{Γ:G}{i:Nat}(h:lk Γ i ≠ .no):∃d,lk Γ i = .ok d:=by
 cases e:lk Γ i with
 | no=>exact absurd e h
 | ok d=>exact⟨d,rfl⟩
 | er c =>
   unfold lk at e
   cases q:Γ[i]? with
   | none=>rw[q] at e;cases e
   | some en=>rw[q] at e;cases en<;>cases e
theorem x3y{Γ:G}{i:Nat}(h:lkr Γ i ≠ .no):∃d,lkr Γ i = .ok d:=by
 cases e:lkr Γ i with
 | no=>exact absurd e h
 | ok d=>exact⟨d,rfl⟩
 | er c =>
   unfold lkr at e
   cases q:Γ[i]? with
   | none=>rw[q] at e;cases e
   | some en=>rw[q] at e;cases en<;>cases e
theorem y9j(d:D)(Γ:G):lk (En.ro d::Γ) 0 = .ok d:=rfl
theorem y4a(ds:List D)(Γ:G):lk (En.own ds::Γ) 0 = .ok (.lst ds):=rfl
theorem y0a(e:En)(Γ:G)(i:Nat):lk (e::Γ) (i+1)=lk Γ i:=rfl
theorem y3z(d:D)(Γ:G):lkr (En.ro d::Γ) 0 = .ok d:=rfl
theorem z7n(e:En)(Γ:G)(i:Nat):lkr (e::Γ) (i+1)=lkr Γ i:=rfl
noncomputable def gV(i:Nat):G->R D:=fun Γ=>lk Γ i
noncomputable def gVr(i:Nat):G->R D:=fun Γ=>lkr Γ i
noncomputable def gC(d:D):G->R D:=fun _=>.ok d
noncomputable def gNL(g:G->R D):G->R D:=fun Γ=>g Γ>>=fun d=>R.guard (d.noL=true) (.ok d)
noncomputable def gL(g:G->R (List D)):G->R D:=fun Γ=>g Γ>>=fun ds=>.ok (.lst ds)
noncomputable def gBin(g:D->D->R D)(ga gb:G->R D):G->R D:=fun Γ=>ga Γ>>=fun x=>gb Γ>>=fun y=>g x y
noncomputable def asB(d:D):R Bool:=match d with
 | .bl b=>.ok b
 | _=>.no
theorem x4p{d:D}(h:asB d ≠ .no):∃b,d = .bl b/\asB d = .ok b:=by
 cases d<;>first | exact⟨_,rfl,rfl⟩ | exact absurd rfl h
theorem y4n(b:Bool):asB (.bl b) = .ok b:=rfl
noncomputable def gT(g:G->R D):G->R Bool:=fun Γ=>g Γ>>=asB
noncomputable def gOr(ga gb:G->R Bool):G->R Bool:=fun Γ=>ga Γ>>=fun k=>if k=true then .ok true else gb Γ
noncomputable def gNot(ga:G->R Bool):G->R Bool:=fun Γ=>ga Γ>>=fun k=>.ok (!k)
noncomputable def dNeg(d:D):R D:=match d with | .int i=>.ok (.int (-i)) | _=>.no
noncomputable def gNeg(ga:G->R D):G->R D:=fun Γ=>ga Γ>>=dNeg
noncomputable def gIf(gc:G->R Bool)(ga gb:G->R D):G->R D:=fun Γ=>gc Γ>>=fun k=>if k=true then ga Γ else gb Γ
noncomputable def gNil:G->R (List D):=fun _=>.ok []
noncomputable def gCons(g:G->R D)(gs:G->R (List D)):G->R (List D):=fun Γ=>g Γ>>=fun d=>gs Γ>>=fun ds=>.ok (d::ds)
noncomputable def gTup(gs:G->R (List D)):G->R D:=fun Γ=>gs Γ>>=fun ds=>R.guard (ds.length<=1000) (.ok (.tup ds))
noncomputable def gLst(gs:G->R (List D)):G->R (List D):=fun Γ=>gs Γ>>=fun ds=>R.guard (ds.length<=1000/\D.noLs ds=true) (.ok ds)
noncomputable def z4v(i:Int):Prop:=-18446744073709551616<i/\i<18446744073709551616
noncomputable instance (i:Int):Decidable (z4v i):=by unfold z4v;exact inferInstance
noncomputable def z5v(i j:Int):Prop:=z4v i∨z4v j
noncomputable instance (i j:Int):Decidable (z5v i j):=by unfold z5v;exact inferInstance
noncomputable def y0w(j:Int):Prop:=-4611686018427387904<=j/\j<4611686018427387904
noncomputable instance (j:Int):Decidable (y0w j):=by unfold y0w;exact inferInstance
theorem z2b{j:Int}(h:-4611686018427387904<=j/\j<4611686018427387904):y0w j:=h
theorem z1j{j:Int}(h:-18446744073709551616<j/\j<18446744073709551616):z4v j:=h
theorem z4i{i j:Int}(h:z4v i):z5v i j:=.inl h
theorem z6i{i j:Int}(h:z4v j):z5v i j:=.inr h
noncomputable def dAdd(x y:D):R D:=match x,y with
 | .int i,.int j=>.ok (.int (i+j))
 | .tup xs,.tup ys=>R.guard (xs.length+ys.length<=1000) (.ok (.tup (xs++ys)))
 | _,_=>.no
noncomputable def dSub(x y:D):R D:=match x,y with
 | .int i,.int j=>.ok (.int (i-j))
 | _,_=>.no
noncomputable def dMul(x y:D):R D:=match x,y with
 | .int i,.int j=>R.guard (z5v i j) (.ok (.int (i*j)))
 | .tup xs,.int j=>R.guard (0<=j/\j<1000000/\xs.length*j.toNat<=1000) (.ok (.tup (List.replicate j.toNat xs).flatten))
 | _,_=>.no
noncomputable def dDiv(x y:D):R D:=match x,y with
 | .int i,.int j=>R.guard (0<j/\j<1073741824) (.ok (.int (i/j)))
 | _,_=>.no
noncomputable def dMod(x y:D):R D:=match x,y with
 | .int i,.int j=>R.guard (0<j) (.ok (.int (i%j)))
 | _,_=>.no
noncomputable def dPow(x y:D):R D:=match x,y with
 | .int i,.int j=>R.guard (0<=j/\j<=1000000/\i.natAbs<18446744073709551616) (.ok (.int (i^j.toNat)))
 | _,_=>.no
noncomputable def dLt(x y:D):R D:=match x,y with
 | .int i,.int j=>.ok (.bl (decide (i<j)))
 | _,_=>.no
noncomputable def dGt(x y:D):R D:=match x,y with
 | .int i,.int j=>.ok (.bl (decide (j<i)))
 | _,_=>.no
noncomputable def sOk(x:Str):Bool:=x.cps.all (·<0x110000)
mutual
noncomputable def D.lay:Nat->D->Bool
 | n+1,.tup ds=>D.lays n ds
 | n+1,.lst ds=>D.lays n ds
 | 0,.tup _=>false
 | 0,.lst _=>false
 | _,.dct=>false
 | _,.exc _=>false
 | _,.str x=>sOk x
 | _,_=>true
noncomputable def D.lays:Nat->List D->Bool
 | _,[]=>true
 | n,d::ds=>D.lay n d&&D.lays n ds
end
theorem D.lays_all(n:Nat):∀ds:List D,D.lays n ds=ds.all (D.lay n)
 | []=>by unfold D.lays;rfl
 | d::ds=>by unfold D.lays;rw[D.lays_all n ds];rfl
theorem z6u(n:Nat)(i:Int):D.lay n (.int i)=true:=by cases n<;>simp[D.lay]
theorem y4b(n:Nat)(i:Bool):D.lay n (.bl i)=true:=by cases n<;>simp[D.lay]
theorem y2z(n:Nat)(x:Str):D.lay n (.str x)=sOk x:=by cases n<;>simp[D.lay]
theorem x2a(n:Nat)(ds:List D):D.lay (n+1) (.tup ds)=ds.all (D.lay n):=by rw[D.lay,D.lays_all]
theorem y7f(n:Nat)(ds:List D):D.lay (n+1) (.lst ds)=ds.all (D.lay n):=by rw[D.lay,D.lays_all]
theorem z6k(n:Nat)(ns:List Int):D.lay (n+1) (.tup (ns.map D.int))=true:=by
 rw[x2a,List.all_map,List.all_eq_true];intro x _;exact z6u n x
mutual
noncomputable def eqD:D->D->Bool
 | .non,y=>(match y with | .non=>true | _=>false)
 | .bl a,y=>(match y with | .bl b=>a==b | .int j=>(if a then 1 else 0)==j | _=>false)
 | .int i,y=>(match y with | .bl b=>i==(if b then 1 else 0) | .int j=>i==j | _=>false)
 | .str x,y=>(match y with | .str z=>x==z | _=>false)
 | .tup xs,y=>(match y with | .tup ys=>eqDs xs ys | _=>false)
 | .lst xs,y=>(match y with | .lst ys=>eqDs xs ys | _=>false)
 | .dct,_=>false
 | .exc _,_=>false
noncomputable def eqDs:List D->List D->Bool
 | [],[]=>true
 | x::xs,y::ys=>eqD x y&&eqDs xs ys
 | [],_::_=>false
 | _::_,[]=>false
end
theorem y0h(i j:Int):eqD (.int i) (.int j)=(i==j):=by rw[eqD]
theorem y4j(i j:Bool):eqD (.bl i) (.bl j)=(i==j):=by rw[eqD]
theorem y7w(i j:Str):eqD (.str i) (.str j)=(i==j):=by rw[eqD]
mutual
noncomputable def D.pl:D->Bool
 | .bl _=>false
 | .dct=>false
 | .exc _=>false
 | .tup ds=>D.pls ds
 | .lst ds=>D.pls ds
 | _=>true
noncomputable def D.pls:List D->Bool
 | []=>true
 | d::ds=>d.pl&&D.pls ds
end
theorem y2n:∀ds:List D,D.pls ds=ds.all D.pl
 | []=>by unfold D.pls;rfl
 | d::ds=>by unfold D.pls;rw[y2n ds];rfl
theorem x0h(i:Int):D.pl (.int i)=true:=by simp[D.pl]
theorem x3i(ds:List D):D.pl (.tup ds)=ds.all D.pl:=by rw[D.pl,y2n]
theorem y6k(ds:List D):D.pl (.lst ds)=ds.all D.pl:=by rw[D.pl,y2n]
theorem x1l(ns:List Int):D.pl (.tup (ns.map D.int))=true:=by
 rw[x3i,List.all_map,List.all_eq_true];intro x _;exact x0h x
mutual
theorem y0i:∀(x y:D),x.pl=true->y.pl=true->(eqD x y=true↔x=y)
 | .non,y,_,hy=>by cases y<;>simp_all [eqD,D.pl]
 | .bl _,y,hx,hy=>by simp[D.pl] at hx
 | .int i,y,_,hy=>by cases y<;>simp_all [eqD,D.pl]
 | .str i,y,_,hy=>by cases y<;>simp_all [eqD,D.pl]
 | .dct,y,hx,hy=>by simp[D.pl] at hx
 | .exc _,y,hx,hy=>by simp[D.pl] at hx
 | .tup xs,y,hx,hy=>by
   cases y with
   | tup ys=>rw[eqD,eqDs_iff xs ys (by simpa [D.pl] using hx) (by simpa [D.pl] using hy)];simp
   | _=>simp_all [eqD,D.pl]
 | .lst xs,y,hx,hy=>by
   cases y with
   | lst ys=>rw[eqD,eqDs_iff xs ys (by simpa [D.pl] using hx) (by simpa [D.pl] using hy)];simp
   | _=>simp_all [eqD,D.pl]
theorem eqDs_iff:∀(xs ys:List D),D.pls xs=true->D.pls ys=true->(eqDs xs ys=true↔xs=ys)
 | [],[],_,_=>by simp[eqDs]
 | [],y::ys,_,_=>by simp[eqDs]
 | x::xs,[],_,_=>by simp[eqDs]
 | x::xs,y::ys,hx,hy=>by
   have hx':x.pl=true/\D.pls xs=true:=by simpa [D.pls] using hx
   have hy':y.pl=true/\D.pls ys=true:=by simpa [D.pls] using hy
   rw[eqDs,Bool.and_eq_true,y0i x y hx'.1 hy'.1,eqDs_iff xs ys hx'.2 hy'.2];simp
end
theorem y9s{x:D}(h:x.pl=true):eqD x x=true:=(y0i x x h h).mpr rfl
theorem y7y{x y:D}(hx:x.pl=true)(hy:y.pl=true){p:Prop}[Decidable p](h:x=y↔p):eqD x y=decide p:=by
 by_cases q:p
 ·rw[decide_eq_true q];exact(y0i x y hx hy).mpr (h.mpr q)
 ·rw[decide_eq_false q]
  cases e:eqD x y with
  | false=>rfl
  | true=>exact absurd (h.mp ((y0i x y hx hy).mp e)) q
noncomputable def dEq(x y:D):R D:=R.guard (D.lay 40 x=true/\D.lay 40 y=true) (.ok (.bl (eqD x y)))
noncomputable def dNe(x y:D):R D:=R.guard (D.lay 40 x=true/\D.lay 40 y=true) (.ok (.bl (!eqD x y)))
noncomputable def ixN(n:Nat)(i:Int):Option Nat:=if 0<=i then (if i<n then some i.toNat else none) else if -(n:Int)<=i then some (i+n).toNat else none
noncomputable def atI{α:Type}(xs:List α)(i:Int):Option α:=(ixN xs.length i).bind fun j=>xs[j]?
theorem z1d{α:Type}{ds:List α}(i:Nat):atI ds (i:Int)=ds[i]?:=by
 unfold atI ixN
 rw[if_pos (by omega)]
 by_cases h:(i:Int)<ds.length
 ·rw[if_pos h];simp
 ·rw[if_neg h]
  have:ds.length<=i:=by omega
  rw[List.getElem?_eq_none this];rfl
theorem x4o{α:Type}{ds:List α}{i:Int}(h:0<=i):atI ds i=ds[i.toNat]?:=by
 obtain⟨n,rfl⟩:∃n:Nat,i=(n:Int):=⟨i.toNat,by omega⟩
 rw[z1d];rfl
theorem z6p{α:Type}(a:α)(ds:List α):atI (a::ds) 0=some a:=z1d 0
theorem z7u{α:Type}(a b:α)(ds:List α):atI (a::b::ds) 1=some b:=z1d 1
theorem z7t{α:Type}(a b c:α)(ds:List α):atI (a::b::c::ds) 2=some c:=z1d 2
theorem z5o{α:Type}(a b c d:α)(ds:List α):atI (a::b::c::d::ds) 3=some d:=z1d 3
noncomputable def dIx(x y:D):R D:=match x,y with
 | .tup ds,.int i=>(match atI ds i with | some d=>.ok d | none=>.no)
 | .lst ds,.int i=>(match atI ds i with | some d=>.ok d | none=>.no)
 | _,_=>.no
noncomputable def sIx(n d:Nat):Option Int->Nat
 | none=>d
 | some v=>if v<0 then (v+(n:Int)).toNat else min v.toNat n
theorem sIx_none(n d:Nat):sIx n d none=d:=rfl
theorem sIx_nat(n d k:Nat):sIx n d (some (k:Int))=min k n:=by
 show(if (k:Int)<0 then ((k:Int)+(n:Int)).toNat else min (k:Int).toNat n)=min k n
 rw[if_neg (by omega),Int.toNat_natCast]
noncomputable def cutL{α:Type}(xs:List α)(lo hi:Option Int):List α:=(xs.drop (sIx xs.length 0 lo)).take (sIx xs.length xs.length hi-sIx xs.length 0 lo)
noncomputable def gON:G->R (Option Int):=fun _=>.ok none
noncomputable def dOS(d:D):R (Option Int):=match d with | .int i=>.ok (some i) | _=>.no
noncomputable def gOS(g:G->R D):G->R (Option Int):=fun Γ=>g Γ>>=dOS
noncomputable def dCut(d:D)(lo hi:Option Int):R D:=match d with
 | .tup xs=>.ok (.tup (cutL xs lo hi))
 | .lst xs=>.ok (.lst (cutL xs lo hi))
 | _=>.no
noncomputable def gSl(ga:G->R D)(lo hi:G->R (Option Int)):G->R D:=fun Γ=>ga Γ>>=fun d=>lo Γ>>=fun l=>hi Γ>>=fun h=>dCut d l h
theorem z8m{α:Type}(xs:List α)(k:Nat):cutL xs (some (k:Int)) none=xs.drop k:=by
 unfold cutL
 rw[sIx_none,sIx_nat]
 by_cases h:k<=xs.length
 ·rw[Nat.min_eq_left h,List.take_of_length_le (by rw[List.length_drop];omega)]
 ·rw[Nat.min_eq_right (by omega),List.drop_length,List.drop_of_length_le (by omega)];simp
theorem y8d{α:Type}(xs:List α)(k:Nat):cutL xs none (some (k:Int))=xs.take k:=by
 unfold cutL
 rw[sIx_none,sIx_nat,Nat.sub_zero,List.drop_zero]
 by_cases h:k<=xs.length
 ·rw[Nat.min_eq_left h]
 ·rw[Nat.min_eq_right (by omega),List.take_length,List.take_of_length_le (by omega)]
theorem y3h{α:Type}(xs:List α)(k m:Nat)(h:k<=xs.length):cutL xs (some (k:Int)) (some (m:Int))=(xs.drop k).take (m-k):=by
 unfold cutL
 rw[sIx_nat,sIx_nat,Nat.min_eq_left h]
 by_cases h2:m<=xs.length
 ·rw[Nat.min_eq_left h2]
 ·rw[Nat.min_eq_right (by omega),List.take_of_length_le (by rw[List.length_drop];omega),List.take_of_length_le (by rw[List.length_drop];omega)]
inductive Cl where
 | noPrime | noNumber | noProgram | tooLong | lossy | noText | longError | valueError
noncomputable def z0i(g:List D->R D)(gs:G->R (List D)):G->R D:=fun Γ=>gs Γ>>=g
noncomputable def dLen(ds:List D):R D:=match ds with
 | [.tup xs]=>.ok (.int xs.length)
 | [.lst xs]=>.ok (.int xs.length)
 | _=>.no
noncomputable def z3f(ds:List D):R D:=match ds with
 | [.tup xs]=>.ok (.tup xs)
 | [.lst xs]=>.ok (.tup xs)
 | _=>.no
noncomputable def ints?:List D->Option (List Int)
 | []=>some []
 | .int i::ds=>(ints? ds).map (i::·)
 | _::_=>none
theorem ints?_some:∀{ds:List D} {ns:List Int},ints? ds=some ns->ds=ns.map D.int
 | [],ns,h=>by unfold ints? at h;cases h;rfl
 | d::ds,ns,h=>by
   cases d with
   | int i =>
     unfold ints? at h
     cases q:ints? ds with
     | none=>rw[q] at h;cases h
     | some ms=>rw[q] at h;cases h;rw[ints?_some q];rfl
   | _=>unfold ints? at h;cases h
theorem ints?_map:∀ns:List Int,ints? (ns.map D.int)=some ns
 | []=>rfl
 | n::ns=>by show(ints? (ns.map D.int)).map (n::·)=_;rw[ints?_map ns];rfl
noncomputable def bools?:List D->Option (List Bool)
 | []=>some []
 | .bl i::ds=>(bools? ds).map (i::·)
 | _::_=>none
theorem bools?_some:∀{ds:List D} {ns:List Bool},bools? ds=some ns->ds=ns.map D.bl
 | [],ns,h=>by unfold bools? at h;cases h;rfl
 | d::ds,ns,h=>by
   cases d with
   | bl i =>
     unfold bools? at h
     cases q:bools? ds with
     | none=>rw[q] at h;cases h
     | some ms=>rw[q] at h;cases h;rw[bools?_some q];rfl
   | _=>unfold bools? at h;cases h
theorem bools?_map:∀ns:List Bool,bools? (ns.map D.bl)=some ns
 | []=>rfl
 | n::ns=>by show(bools? (ns.map D.bl)).map (n::·)=_;rw[bools?_map ns];rfl
noncomputable def dSum(ds:List D):R D:=match ds with
 | [.lst xs]=>(match ints? xs with | some ns=>.ok (.int ns.sum) | none=>.no)
 | _=>.no
theorem z7p(ns:List Int):dSum [.lst (ns.map D.int)] = .ok (.int ns.sum):=by simp only[dSum,ints?_map]
noncomputable def dAny(ds:List D):R D:=match ds with
 | [.lst xs]=>(match bools? xs with | some bs=>.ok (.bl (bs.any (fun b=>b))) | none=>.no)
 | _=>.no
theorem z7q(ns:List Bool):dAny [.lst (ns.map D.bl)] = .ok (.bl (ns.any fun b=>b)):=by simp only[dAny,bools?_map]
noncomputable def noEr(φ:List D->R D):List D->R D:=fun ds=>match φ ds with
 | .ok d=>.ok d
 | _=>.no
theorem y6v{φ:List D->R D}{ds:List D}(h:noEr φ ds ≠ .no):∃d,φ ds = .ok d/\noEr φ ds = .ok d:=by
 unfold noEr at h ⊢
 cases q:φ ds with
 | ok d=>exact⟨d,rfl,rfl⟩
 | no=>rw[q] at h;exact absurd rfl h
 | er c=>rw[q] at h;exact absurd rfl h
noncomputable def z3x(φ:List D->R (List D))(gs:G->R (List D)):G->R (List D):=fun Γ=>gs Γ>>=fun ds=>φ ds>>=fun es=>R.guard (D.noLs es=true) (.ok es)
noncomputable def y8a(d:D):R (List D):=match d with
 | .tup ds=>R.guard (D.noLs ds=true) (.ok ds)
 | .lst ds=>R.guard (D.noLs ds=true) (.ok ds)
 | _=>.no
noncomputable def z5h(g:G->R D):G->R (List D):=fun Γ=>g Γ>>=y8a
noncomputable def gCat(ga gb:G->R (List D)):G->R (List D):=fun Γ=>ga Γ>>=fun x=>gb Γ>>=fun y=>R.guard (x.length+y.length<=1000) (.ok (x++y))
noncomputable def y8b(x y:D):R (List D):=match x,y with
 | .lst xs,.lst ys=>R.guard (xs.length+ys.length<=1000/\D.noLs (xs++ys)=true) (.ok (xs++ys))
 | _,_=>.no
noncomputable def y3d(ga gb:G->R D):G->R (List D):=fun Γ=>ga Γ>>=fun x=>gb Γ>>=fun y=>y8b x y
noncomputable def D.ty:D->String
 | .non=>"NoneType"
 | .bl _=>"bool"
 | .int _=>"int"
 | .str _=>"str"
 | .tup _=>"tuple"
 | .lst _=>"list"
 | .dct=>"dict"
 | .exc _=>""
noncomputable def D.noX:D->Bool
 | .exc _=>false
 | _=>true
noncomputable def dIsi(f:String->Bool)(d:D):R D:=match d with
 | .exc _=>.no
 | d=>.ok (.bl (f d.ty))
noncomputable def gIsi(f:String->Bool)(g:G->R D):G->R D:=fun Γ=>g Γ>>=dIsi f
theorem x2o{f:String->Bool}{d:D}(h:dIsi f d ≠ .no):d.noX=true/\dIsi f d = .ok (.bl (f d.ty)):=by
 cases d<;>first | exact⟨rfl,rfl⟩ | exact absurd rfl h
noncomputable def z3m(t:String):Bool:=t=="tuple"
noncomputable def z4w(t:String):Bool:=t=="list"
noncomputable def dSeq(d:D):R (List D):=match d with
 | .tup ds=>.ok ds
 | .lst ds=>.ok ds
 | _=>.no
noncomputable def gSeq(g:G->R D):G->R (List D):=fun Γ=>g Γ>>=dSeq
noncomputable def z5g(g:G->R D):G->R (List D):=fun Γ=>g Γ>>=fun d=>dSeq d>>=fun ds=>R.guard (D.noLs ds=true) (.ok ds)
noncomputable def z2n(lo:Int)(n:Nat):List D:=(List.range n).map fun(i:Nat)=>D.int (lo+(i:Int))
theorem z0y(lo:Int)(n:Nat):(z2n lo n).length=n:=by unfold z2n;simp
theorem z6r(lo:Int)(n i:Nat)(h:i<n):(z2n lo n)[i]? = some (.int (lo+(i:Int))):=by unfold z2n;simp[h]
theorem z4o(lo:Int):z2n lo 0=[]:=rfl
noncomputable def z6m(g:G->R D):G->R (List D):=fun Γ=>g Γ>>=fun d=>match d with
 | .int j=>R.guard (y0w j) (.ok (z2n 0 j.toNat))
 | _=>.no
noncomputable def y1p(ga gb:G->R D):G->R (List D):=fun Γ=>ga Γ>>=fun d=>gb Γ>>=fun d'=>match d,d' with
 | .int i,.int j=>R.guard (y0w i/\y0w j) (.ok (z2n i (j-i).toNat))
 | _,_=>.no
noncomputable def z0p(f:D->R (Option D)):List D->List D->R (List D)
 | [],acc=>.ok acc
 | d::r,acc=>match f d with
   | .ok (some e)=>z0p f r (acc++[e])
   | .ok none=>z0p f r acc
   | _=>.no
theorem z5n(f:D->R (Option D))(acc:List D):z0p f [] acc = .ok acc:=rfl
theorem z8n(f:D->R (Option D))(d:D)(r acc:List D):z0p f (d::r) acc=match f d with
 | .ok (some e)=>z0p f r (acc++[e])
 | .ok none=>z0p f r acc
 | _=>.no:=rfl
theorem z3y{f:D->R (Option D)}:∀{ds acc:List D},z0p f ds acc ≠ .no->∃es,z0p f ds acc = .ok es
 | [],acc,_=>⟨acc,rfl⟩
 | d::r,acc,h=>by
   unfold z0p at h ⊢
   cases q:f d with
   | no=>rw[q] at h;exact absurd rfl h
   | er c=>rw[q] at h;exact absurd rfl h
   | ok o =>
     rw[q] at h
     cases o with
     | none=>exact z3y h
     | some e=>exact z3y h
theorem z0s{α:Type}{f:D->R (Option D)}{k h:α->D}{l:List α}(q:∀x∈l,f (k x) = .ok (some (h x))):z0p f (l.map k) [] = .ok (l.map h):=by
 suffices H:∀(l:List α) (acc:List D),(∀x∈l,f (k x) = .ok (some (h x)))->z0p f (l.map k) acc = .ok (acc++l.map h) by
  have:=H l [] q;simpa using this
 intro l
 induction l with
 | nil=>intro acc _;simp[z0p]
 | cons x l ih =>
   intro acc q
   rw[List.map_cons,z8n,q x List.mem_cons_self]
   simp only
   rw[ih _ fun y hy=>q y (List.mem_cons_of_mem _ hy)]
   simp
theorem z8u{α:Type}{f:D->R (Option D)}{k:α->D}{h:α->Option D}{l:List α}(q:∀x∈l,f (k x) = .ok (h x)):z0p f (l.map k) [] = .ok (l.filterMap h):=by
 suffices H:∀(l:List α) (acc:List D),(∀x∈l,f (k x) = .ok (h x))->z0p f (l.map k) acc = .ok (acc++l.filterMap h) by
  have:=H l [] q;simpa using this
 intro l
 induction l with
 | nil=>intro acc _;simp[z0p]
 | cons x l ih =>
   intro acc q
   rw[List.map_cons,z8n,q x List.mem_cons_self]
   cases e:h x with
   | none=>simp only;rw[ih _ fun y hy=>q y (List.mem_cons_of_mem _ hy)];simp[e]
   | some z=>simp only;rw[ih _ fun y hy=>q y (List.mem_cons_of_mem _ hy)];simp[e]
theorem z7f{f:D->R (Option D)}{lo:Int}{n:Nat}{h:Nat->D}(q:∀i,i<n->f (.int (lo+(i:Int))) = .ok (some (h i))):z0p f (z2n lo n) [] = .ok ((List.range n).map h) :=
 z0s (k:=fun(i:Nat)=>D.int (lo+(i:Int))) fun i hi=>q i (List.mem_range.mp hi)
noncomputable def fElt(ge:G->R D):D->G->R (Option D):=fun d Γ=>ge (.ro d::Γ)>>=fun e=>.ok (some e)
noncomputable def z5x(gc:G->R Bool)(ge:G->R D):D->G->R (Option D):=fun d Γ=>gc (.ro d::Γ)>>=fun k=>if k=true then ge (.ro d::Γ)>>=fun e=>.ok (some e) else .ok none
noncomputable def z2j(gi:G->R (List D))(f:D->G->R (Option D)):G->R (List D):=fun Γ=>gi Γ>>=fun items=>R.guard (items.length<=100000) (z0p (fun d=>f d Γ) items [])
inductive Fl where
 | nx (Γ:G) | rt (d:D) | rtF (ds:List D) | bk (Γ:G) | ct (Γ:G) | ex (c:Er) (Γ:G)
noncomputable def lift{α:Type}(r:R α)(Γ:G)(k:α->R Fl):R Fl:=match r with
 | .no=>.no
 | .er c=>.ok (.ex c Γ)
 | .ok a=>k a
theorem z1q{α:Type}{r:R α}{Γ:G}{k:α->R Fl}(h:lift r Γ k ≠ .no):r ≠ .no:=fun e=>h (by rw[e];rfl)
theorem z2r{α:Type}{r:R α}{Γ:G}{k:α->R Fl}{a:α}(e:r = .ok a):lift r Γ k=k a:=by rw[e];rfl
theorem y1k{α:Type}{r:R α}{Γ:G}{k:α->R Fl}{a:α}(h:lift r Γ k ≠ .no)(e:r = .ok a):k a ≠ .no:=by rw[e] at h;exact h
theorem z4t{α:Type}(a:α)(Γ:G)(k:α->R Fl):lift (.ok a) Γ k=k a:=rfl
theorem z7o{α:Type}(c:Er)(Γ:G)(k:α->R Fl):lift (.er c:R α) Γ k = .ok (.ex c Γ):=rfl
noncomputable def frz(i:Nat)(Γ:G):G:=match Γ[i]? with
 | some (.own ds)=>Γ.set i (.ro (.lst ds))
 | _=>Γ
noncomputable def z2u:G->R Fl:=fun Γ=>.ok (.nx Γ)
noncomputable def gSt(t u:G->R Fl):G->R Fl:=fun Γ=>t Γ>>=fun r=>match r with
 | .nx Γ'=>u Γ'
 | r=>.ok r
noncomputable def y0f(g:G->R (List D)):G->R Fl:=fun Γ=>lift (g Γ) Γ fun ds=>.ok (.rtF ds)
noncomputable def z8t(i:Nat):G->R Fl:=fun Γ=>match Γ[i]? with
 | some (.own ds)=>.ok (.rtF ds)
 | _=>.no
noncomputable def z9a(c:Er):G->R Fl:=fun Γ=>.ok (.ex c Γ)
noncomputable def gRet(g:G->R D):G->R Fl:=fun Γ=>lift (g Γ) Γ fun d=>.ok (.rt d)
noncomputable def gIfS(gc:G->R Bool)(t u:G->R Fl):G->R Fl:=fun Γ=>lift (gc Γ) Γ fun k=>if k=true then t Γ else u Γ
noncomputable def gSet(i:Nat)(g:G->R D):G->R Fl:=fun Γ=>lift (g Γ) Γ fun d=>.ok (.nx (Γ.set i (.ro d)))
noncomputable def z2i(i:Nat)(g:G->R (List D)):G->R Fl:=fun Γ=>lift (g Γ) Γ fun ds=>.ok (.nx (Γ.set i (.own ds)))
noncomputable def gApp(i:Nat)(g:G->R D):G->R Fl:=fun Γ=>match Γ[i]? with
 | some (.own ds)=>lift (g Γ) Γ fun d=>R.guard (ds.length<=100000) (.ok (.nx (Γ.set i (.own (ds++[d])))))
 | _=>.no
noncomputable def z2m(gb:G->R Fl)(i:Nat):List D->G->R Fl
 | [],Γ=>.ok (.nx Γ)
 | d::r,Γ=>match gb (Γ.set i (.ro d)) with
   | .ok (.nx Γ')=>z2m gb i r Γ'
   | .ok (.ct Γ')=>z2m gb i r Γ'
   | .ok (.bk Γ')=>.ok (.nx Γ')
   | .ok (.rt d)=>.ok (.rt d)
   | .ok (.rtF d)=>.ok (.rtF d)
   | .ok (.ex c Γ')=>.ok (.ex c Γ')
   | _=>.no
noncomputable def gFor(i:Nat)(gi:G->R (List D))(gb:G->R Fl):G->R Fl:=fun Γ=>lift (gi Γ) Γ fun ds=>z2m gb i ds Γ
noncomputable def whGo(gc:G->R Bool)(gb:G->R Fl):Nat->G->R Fl
 | 0,_=>.no
 | n+1,Γ=>lift (gc Γ) Γ fun k=>if k=true then (match gb Γ with
    | .ok (.nx Γ')=>whGo gc gb n Γ'
    | .ok (.ct Γ')=>whGo gc gb n Γ'
    | .ok (.bk Γ')=>.ok (.nx Γ')
    | .ok (.rt d)=>.ok (.rt d)
    | .ok (.rtF d)=>.ok (.rtF d)
    | .ok (.ex c Γ')=>.ok (.ex c Γ')
    | _=>.no) else .ok (.nx Γ)
theorem z6n(gb:G->R Fl)(i:Nat)(Γ:G):z2m gb i [] Γ = .ok (.nx Γ):=rfl
theorem z5m(gb:G->R Fl)(i:Nat)(d:D)(ds:List D)(Γ:G):z2m gb i (d::ds) Γ=match gb (Γ.set i (.ro d)) with
 | .ok (.nx Γ')=>z2m gb i ds Γ'
 | .ok (.ct Γ')=>z2m gb i ds Γ'
 | .ok (.bk Γ')=>.ok (.nx Γ')
 | .ok (.rt d)=>.ok (.rt d)
 | .ok (.rtF d)=>.ok (.rtF d)
 | .ok (.ex c Γ')=>.ok (.ex c Γ')
 | _=>.no:=rfl
theorem z8h{gb:G->R Fl}{i:Nat}(I:Nat->G->Prop):∀(ds:List D) (k:Nat) (Γ:G),I k Γ ->
 (∀(j:Nat) (d:D) (Γ:G),ds[j]? = some d->I (k+j) Γ->∃Γ',(gb (Γ.set i (.ro d)) = .ok (.nx Γ')∨gb (Γ.set i (.ro d)) = .ok (.ct Γ'))/\I (k+j+1) Γ') ->
 ∃Γ',z2m gb i ds Γ = .ok (.nx Γ')/\I (k+ds.length) Γ'
 | [],k,Γ,h,_=>⟨Γ,rfl,h⟩
 | d::ds,k,Γ,h,q=>by
   obtain⟨Γ1,e1,h1⟩:=q 0 d Γ rfl h
   obtain⟨Γ2,e2,h2⟩:=z8h I ds (k+1) Γ1 h1 fun j d' Γ' hd hI=>by
    have:=q (j+1) d' Γ' (by simpa using hd) (by rw[show k+(j+1)=k+1+j by omega];exact hI)
    rw[show k+(j+1)=k+1+j by omega] at this
    exact this
   refine⟨Γ2,?_,by rw[List.length_cons,show k+(ds.length+1)=k+1+ds.length by omega];exact h2⟩
   rw[z5m]
   rcases e1 with e1 | e1<;>rw[e1]<;>exact e2
theorem y7p{gb:G->R Fl}{i:Nat}(S:Nat->G)(ds:List D)(q:∀(j:Nat) (d:D),ds[j]? = some d->gb ((S j).set i (.ro d)) = .ok (.nx (S (j+1)))):z2m gb i ds (S 0) = .ok (.nx (S ds.length)):=by
 obtain⟨Γ',e,h⟩:=z8h (gb:=gb) (i:=i) (fun k Γ=>Γ=S k) ds 0 (S 0) rfl fun j d Γ hd hI=>by
  rw[Nat.zero_add] at hI ⊢
  subst hI
  exact⟨_,.inl (q j d hd),rfl⟩
 rw[Nat.zero_add] at h
 rw[e,h]
theorem y5h{gb:G->R Fl}{i:Nat}{Γ:G}(S:Nat->G){ds:List D}(h0:Γ=S 0)(q:∀(j:Nat) (d:D),ds[j]? = some d->gb ((S j).set i (.ro d)) = .ok (.nx (S (j+1)))):z2m gb i ds Γ = .ok (.nx (S ds.length)):=by
 rw[h0];exact y7p S ds q
theorem z8g{gb:G->R Fl}{i:Nat}{Γ:G}(S:Nat->G){lo:Int}{n:Nat}(h0:Γ=S 0)(q:∀(j:Nat),j<n->gb ((S j).set i (.ro (.int (lo+(j:Int))))) = .ok (.nx (S (j+1)))):z2m gb i (z2n lo n) Γ = .ok (.nx (S n)):=by
 rw[y5h S h0,z0y]
 intro j d hd
 have hj:j<n:=by
  have:=(List.getElem?_eq_some_iff.mp hd).1
  rw[z0y] at this;exact this
 rw[z6r lo _ _ hj] at hd
 cases hd
 exact q j hj
theorem y5r(gc:G->R Bool)(gb:G->R Fl)(n:Nat)(Γ:G):whGo gc gb (n+1) Γ=lift (gc Γ) Γ fun k=>if k=true then (match gb Γ with
 | .ok (.nx Γ')=>whGo gc gb n Γ'
 | .ok (.ct Γ')=>whGo gc gb n Γ'
 | .ok (.bk Γ')=>.ok (.nx Γ')
 | .ok (.rt d)=>.ok (.rt d)
 | .ok (.rtF d)=>.ok (.rtF d)
 | .ok (.ex c Γ')=>.ok (.ex c Γ')
 | _=>.no) else .ok (.nx Γ):=rfl
theorem z7i{gc:G->R Bool}{gb:G->R Fl}(I:Nat->G->Prop)(Q:R Fl->Prop)(q:∀m Γ,I m Γ->(gc Γ = .ok false/\Q (.ok (.nx Γ)))∨(gc Γ = .ok true /\
 ((∃Γ' m',m'<m/\(gb Γ = .ok (.nx Γ')∨gb Γ = .ok (.ct Γ'))/\I m' Γ')∨(∃Γ',gb Γ = .ok (.bk Γ')/\Q (.ok (.nx Γ')))∨(∃d,gb Γ = .ok (.rt d)/\Q (.ok (.rt d)))∨(∃d,gb Γ = .ok (.rtF d)/\Q (.ok (.rtF d)))∨(∃c Γ',gb Γ = .ok (.ex c Γ')/\Q (.ok (.ex c Γ')))))) :
 ∀(n m:Nat) (Γ:G),m<n->I m Γ->Q (whGo gc gb n Γ)
 | 0,m,Γ,h,_=>absurd h (Nat.not_lt_zero _)
 | n+1,m,Γ,h,hI=>by
   rw[y5r]
   rcases q m Γ hI with ⟨e,hq⟩ | ⟨e,h2⟩
   ·rw[e,z4t,if_neg Bool.false_ne_true];exact hq
   ·rw[e,z4t,if_pos rfl]
    rcases h2 with ⟨Γ',m',hm,e',h'⟩ | ⟨Γ',e',h'⟩ | ⟨d,e',h'⟩ | ⟨d,e',h'⟩ | ⟨c,Γ',e',h'⟩
    ·rcases e' with e' | e'<;>rw[e']<;>exact z7i I Q q n m' Γ' (by omega) h'
    ·rw[e'];exact h'
    ·rw[e'];exact h'
    ·rw[e'];exact h'
    ·rw[e'];exact h'
noncomputable def ini(n:Nat)(ds:List D):G:=ds.map En.ro++List.replicate (n-ds.length) En.no
noncomputable def fin(r:R Fl):R D:=match r with
 | .ok (.rt d)=>.ok d
 | .ok (.nx _)=>.ok .non
 | .ok (.ex c _)=>.er c
 | _=>.no
noncomputable def finF(r:R Fl):R (List D):=match r with
 | .ok (.rtF d)=>.ok d
 | .ok (.ex c _)=>.er c
 | _=>.no
noncomputable def fnC(p n:Nat)(g:G->R Fl):List D->R D:=fun ds=>if ds.length=p then fin (g (ini n ds)) else .no
theorem z0o{p n:Nat}{g:G->R Fl}{ds:List D}(h:fnC p n g ds ≠ .no):ds.length=p:=by
 unfold fnC at h
 by_cases q:ds.length=p
 ·exact q
 ·rw[if_neg q] at h;exact absurd rfl h
theorem z2q{p n:Nat}{g:G->R Fl}{ds:List D}(h:ds.length=p):fnC p n g ds=fin (g (ini n ds)):=if_pos h
noncomputable def fnF(p n:Nat)(g:G->R Fl):List D->R (List D):=fun ds=>if ds.length=p then finF (g (ini n ds)) else .no
theorem z5i{p n:Nat}{g:G->R Fl}{ds:List D}(h:fnF p n g ds ≠ .no):ds.length=p:=by
 unfold fnF at h
 by_cases q:ds.length=p
 ·exact q
 ·rw[if_neg q] at h;exact absurd rfl h
theorem y1r{p n:Nat}{g:G->R Fl}{ds:List D}(h:ds.length=p):fnF p n g ds=finF (g (ini n ds)):=if_pos h
theorem y9g:((0:Nat):Int)=0:=rfl
theorem y9f:((1:Nat):Int)=1:=rfl
theorem y9e:((2:Nat):Int)=2:=rfl
theorem y9d:((3:Nat):Int)=3:=rfl
theorem y9c:((4:Nat):Int)=4:=rfl
end
noncomputable def dAbs(ds:List D):R D:=match ds with
 | [.int i]=>.ok (.int (if i<0 then -i else i))
 | _=>.no
noncomputable def dInt(ds:List D):R D:=match ds with
 | [.int i]=>.ok (.int i)
 | [.bl b]=>.ok (.int (if b then 1 else 0))
 | _=>.no
noncomputable def bigN:Nat:=10^1200
noncomputable def z5k(i j:Int):Prop:=i.natAbs<bigN/\j.natAbs<bigN
noncomputable instance (i j:Int):Decidable (z5k i j):=by unfold z5k;exact inferInstance
theorem x4n{n:Nat}(h:n<=10^300):n<bigN:=Nat.lt_of_le_of_lt h (Nat.pow_lt_pow_right (by decide) (by decide))
noncomputable def y9v(x y:D):R D:=match x,y with
 | .int i,.int j=>R.guard (z5k i j) (.ok (.int (i*j)))
 | _,_=>.no
noncomputable def D.isNon:D->Bool
 | .non=>true
 | _=>false
noncomputable def y9u(x y:D):R D:=match y with
 | .non=>.ok (.bl (!x.isNon))
 | _=>.no
noncomputable def gRep(ga:G->R (List D))(gb:G->R D):G->R (List D):=fun Γ=>ga Γ>>=fun xs=>gb Γ>>=fun d=>match d with
 | .int k=>R.guard (0<=k/\k<1000000/\xs.length*k.toNat<=1000) (.ok (List.replicate k.toNat xs).flatten)
 | _=>.no
noncomputable def z6v(ge:G->R D):D->D->G->R (Option D):=fun d d2 Γ=>ge (.ro d :: .ro d2::Γ)>>=fun e=>.ok (some e)
noncomputable def z9v(f:D->D->G->R (Option D))(Γ:G)(d:D):R (Option D):=match d with
 | .tup [a,b]=>f a b Γ
 | _=>.no
noncomputable def z4b(gi:G->R (List D))(f:D->D->G->R (Option D)):G->R (List D):=fun Γ=>gi Γ>>=fun items=>R.guard (items.length<=100000) (z0p (z9v f Γ) items [])
noncomputable def zipD:List D->List D->List D
 | x::xs,y::ys=>.tup [x,y]::zipD xs ys
 | _,_=>[]
noncomputable def gZip(ga gb:G->R D):G->R (List D):=fun Γ=>ga Γ>>=fun a=>gb Γ>>=fun b=>dSeq a>>=fun xs=>dSeq b>>=fun ys=>R.guard (D.noLs xs=true/\D.noLs ys=true) (.ok (zipD xs ys))
noncomputable def z2p(gb:G->R Fl)(i j:Nat):List D->G->R Fl
 | [],Γ=>.ok (.nx Γ)
 | .tup [a,b]::ds,Γ=>match gb ((Γ.set i (.ro a)).set j (.ro b)) with
   | .ok (.nx Γ')=>z2p gb i j ds Γ'
   | .ok (.ct Γ')=>z2p gb i j ds Γ'
   | .ok (.bk Γ')=>.ok (.nx Γ')
   | .ok (.rt d)=>.ok (.rt d)
   | .ok (.rtF d)=>.ok (.rtF d)
   | .ok (.ex c Γ')=>.ok (.ex c Γ')
   | _=>.no
 | _::_,_=>.no
noncomputable def y9q(i j:Nat)(gs:G->R (List D))(gb:G->R Fl):G->R Fl:=fun Γ=>lift (gs Γ) Γ fun ds=>z2p gb i j ds Γ
noncomputable def y9p(ga gb:G->R D):G->R (List D):=fun Γ=>ga Γ>>=fun a=>gb Γ>>=fun b=>dSeq a>>=fun xs=>dSeq b>>=fun ys=>.ok (zipD xs ys)
noncomputable def z6w:Nat->List D->List D
 | _,[]=>[]
 | k,x::xs=>.tup [.int k,x]::z6w (k+1) xs
noncomputable def x2m(ga:G->R D):G->R (List D):=fun Γ=>ga Γ>>=fun a=>match a with
 | .lst xs=>R.guard (D.noLs xs=true) (.ok (z6w 0 xs))
 | _=>.no
noncomputable def x2l(ga:G->R D):G->R Bool:=fun Γ=>ga Γ>>=fun d=>match d with
 | .lst ds=>.ok (!ds.isEmpty)
 | _=>.no
noncomputable def y3g(ds:List D):R D:=match ds with
 | [.tup xs]=>(match ints? xs with | some ns=>.ok (.bl (ns.any (fun n=>n != 0))) | none=>.no)
 | _=>.no
theorem y8c(ns:List Int):y3g [.tup (ns.map D.int)] = .ok (.bl (ns.any (fun n=>n != 0))):=by simp only[y3g,ints?_map]
noncomputable def popK(j i:Nat)(ds:List D)(Γ:G)(d:D):R Fl:=match d with
 | .int k=>R.guard (0<=k/\k<1000000) (match ds[k.toNat]? with
   | some e=>.ok (.nx ((Γ.set i (.own (ds.eraseIdx k.toNat))).set j (.ro e)))
   | none=>.no)
 | _=>.no
theorem y6j{j i:Nat}{ds:List D}{Γ:G}{k:Int}{e:D}(h:0<=k/\k<1000000)(he:ds[k.toNat]? = some e):popK j i ds Γ (.int k) = .ok (.nx ((Γ.set i (.own (ds.eraseIdx k.toNat))).set j (.ro e))):=by
 unfold popK;simp only[he];exact R.guard_pos h
theorem x1k{j i:Nat}{ds:List D}{Γ:G}{d:D}(h:popK j i ds Γ d ≠ .no):∃k e,d = .int k/\(0<=k/\k<1000000)/\ds[k.toNat]? = some e:=by
 cases d with
 | int k =>
   unfold popK at h
   obtain⟨h1,h2⟩:=R.guard_ne h
   cases q:ds[k.toNat]? with
   | none=>exact absurd (h2.trans (by rw[q])) h
   | some e=>exact⟨k,e,rfl,h1,q⟩
 | _=>exact absurd rfl h
noncomputable def gPop(j i:Nat)(g:G->R D):G->R Fl:=fun Γ=>match Γ[i]? with
 | some (.own ds)=>lift (g Γ) Γ (popK j i ds Γ)
 | _=>.no
end L3
namespace L3
section
variable {Γ Γ':G}{i:Nat}{g gk:G->R D}{gs:G->R (List D)}{gc:G->R Bool}{t u e gb:G->R Fl}{r:R Fl}{d k:D}{ds:List D}{c:Er}
theorem y0m(h:t Γ = .ok (.nx Γ'))(h2:u Γ'=r):gSt t u Γ=r:=by unfold gSt;rw[h];exact h2
theorem y5p(h:t Γ = .ok (.rt d)):gSt t u Γ = .ok (.rt d):=by unfold gSt;rw[h];rfl
theorem x5k(h:t Γ = .ok (.ex c Γ')):gSt t u Γ = .ok (.ex c Γ'):=by unfold gSt;rw[h];rfl
theorem y3a(h:g Γ = .ok d):gSet i g Γ = .ok (.nx (Γ.set i (.ro d))):=by unfold gSet;rw[h];rfl
theorem x0l(h:gs Γ = .ok ds):z2i i gs Γ = .ok (.nx (Γ.set i (.own ds))):=by unfold z2i;rw[h];rfl
theorem x5g(ho:Γ[i]? = some (.own ds))(h:g Γ = .ok d)(hl:ds.length<=100000):gApp i g Γ = .ok (.nx (Γ.set i (.own (ds++[d])))):=by
 unfold gApp;rw[ho];simp only[h,z4t,z6l hl]
theorem z8s(hc:gc Γ = .ok true)(h:t Γ=r):gIfS gc t u Γ=r:=by unfold gIfS;rw[hc];exact h
theorem x5f(hc:gc Γ = .ok false)(h:u Γ=r):gIfS gc t u Γ=r:=by unfold gIfS;rw[hc];exact h
theorem y1n(hc:gc Γ = .ok false):gIfS gc t z2u Γ = .ok (.nx Γ):=x5f hc rfl
theorem x2c(hi:gs Γ = .ok ds)(h:z2m gb i ds Γ=r):gFor i gs gb Γ=r:=by unfold gFor;rw[hi];exact h
theorem z4k(h:g Γ = .ok d):gRet g Γ = .ok (.rt d):=by unfold gRet;rw[h];rfl
theorem x0n(h:gs Γ = .ok ds):y0f gs Γ = .ok (.rtF ds):=by unfold y0f;rw[h];rfl
theorem x0m(h:Γ[i]? = some (.own ds)):z8t i Γ = .ok (.rtF ds):=by unfold z8t;rw[h]
theorem z1t(hg:g Γ = .ok d)(h:u (Γ.set i (.ro d))=r):gSt (gSet i g) u Γ=r:=y0m (y3a hg) h
theorem z2e(hg:gs Γ = .ok ds)(h:u (Γ.set i (.own ds))=r):gSt (z2i i gs) u Γ=r:=y0m (x0l hg) h
theorem z3h(hc:gc Γ = .ok false)(h:u Γ=r):gSt (gIfS gc t z2u) u Γ=r:=y0m (y1n hc) h
theorem x0w(hi:gs Γ = .ok ds)(hf:z2m gb i ds Γ = .ok (.nx Γ'))(h:u Γ'=r):gSt (gFor i gs gb) u Γ=r:=y0m (x2c hi hf) h
theorem z2w{p n:Nat}(hl:ds.length=p)(h:t (ini n ds) = .ok (.rt d)):fnC p n t ds = .ok d:=by rw[z2q hl,h];rfl
theorem x4g{p n:Nat}(hl:ds.length=p)(h:t (ini n ds) = .ok (.ex c Γ)):fnC p n t ds = .er c:=by rw[z2q hl,h];rfl
theorem y4g{p n:Nat}{es:List D}(hl:ds.length=p)(h:t (ini n ds) = .ok (.rtF es)):fnF p n t ds = .ok es:=by rw[y1r hl,h];rfl
noncomputable def Ends(r:R Fl)(I:G->Prop):Prop:=∃Γ',(r = .ok (.nx Γ')∨r = .ok (.ct Γ'))/\I Γ'
theorem Ends.nx{I:G->Prop}{r:R Fl}(h:r = .ok (.nx Γ))(hI:I Γ):Ends r I:=⟨Γ,.inl h,hI⟩
end
noncomputable def sumN(f:Nat->Int):Nat->Int
 | 0=>0
 | n+1=>sumN f n+f n
theorem z1x(f:Nat->Int)(n:Nat):sumN f (n+1)=sumN f n+f n:=rfl
theorem z1f{f g:Nat->Int}:∀{n:Nat},(∀i,i<n->f i=g i)->sumN f n=sumN g n
 | 0,_=>rfl
 | n+1,h=>by rw[z1x,z1x,z1f fun i hi=>h i (by omega),h n (by omega)]
theorem z6c(f g:Nat->Int):∀n:Nat,sumN (fun i=>f i+g i) n=sumN f n+sumN g n
 | 0=>rfl
 | n+1=>by rw[z1x,z1x,z1x,z6c f g n];omega
theorem z4g(c:Int)(f:Nat->Int):∀n:Nat,sumN (fun i=>c*f i) n=c*sumN f n
 | 0=>by simp[sumN]
 | n+1=>by rw[z1x,z1x,z4g c f n,Int.mul_add]
theorem z4n:∀n:Nat,sumN (fun _=>0) n=0
 | 0=>rfl
 | n+1=>by rw[z1x,z4n n];rfl
theorem z3s{f:Nat->Int}{k:Nat}:∀{n:Nat},k<n->(∀i,i<n->i≠k->f i=0)->sumN f n=f k
 | 0,h,_=>absurd h (Nat.not_lt_zero _)
 | n+1,h,q=>by
   rw[z1x]
   by_cases e:k=n
   ·subst e
    rw[z1f (g:=fun _=>0) fun i hi=>q i (by omega) (by omega),z4n];omega
   ·rw[z3s (by omega) fun i hi hk=>q i (by omega) hk,q n (by omega) (Ne.symm e)];omega
theorem z5b{f:Nat->Int}{n:Nat}(q:∀i,i<n->f i=0):sumN f n=0:=by
 rw[z1f (g:=fun _=>0) q,z4n]
noncomputable def cg(P a b:Int):Prop:=a%P=b%P
theorem cg.refl{P a:Int}:cg P a a:=rfl
theorem cg.symm{P a b:Int}(h:cg P a b):cg P b a:=Eq.symm h
theorem cg.trans{P a b c:Int}(h:cg P a b)(g:cg P b c):cg P a c:=Eq.trans h g
theorem cg.of_eq{P a b:Int}(h:a=b):cg P a b:=by rw[h];exact cg.refl
theorem z3j{P a:Int}:cg P (a%P) a:=by unfold cg;exact Int.emod_emod_of_dvd a (Int.dvd_refl P)
theorem cg.add{P a b c d:Int}(h:cg P a b)(g:cg P c d):cg P (a+c) (b+d):=by unfold cg at *;rw[Int.add_emod,h,g,<-Int.add_emod]
theorem cg.sub{P a b c d:Int}(h:cg P a b)(g:cg P c d):cg P (a-c) (b-d):=by unfold cg at *;rw[Int.sub_emod,h,g,<-Int.sub_emod]
theorem cg.mul{P a b c d:Int}(h:cg P a b)(g:cg P c d):cg P (a*c) (b*d):=by unfold cg at *;rw[Int.mul_emod,h,g,<-Int.mul_emod]
theorem cg.neg{P a b:Int}(h:cg P a b):cg P (-a) (-b):=by
 have:=(cg.refl (P:=P) (a:=0)).sub h
 simpa using this
theorem cg.sumN{P:Int}{f g:Nat->Int}:∀{n:Nat},(∀i,i<n->cg P (f i) (g i))->cg P (L3.sumN f n) (L3.sumN g n)
 | 0,_=>cg.refl
 | n+1,h=>(cg.sumN fun i hi=>h i (by omega)).add (h n (by omega))
theorem cg.eq_of{P a b:Int}(h:cg P a b)(ha:0<=a)(ha':a<P)(hb:0<=b)(hb':b<P):a=b:=by
 unfold cg at h;rw[Int.emod_eq_of_lt ha ha',Int.emod_eq_of_lt hb hb'] at h;exact h
theorem x4k{P a b:Int}:cg P a b↔(a-b)%P=0:=by
 unfold cg
 constructor
 ·intro h;rw[Int.sub_emod,h,Int.sub_self,Int.zero_emod]
 ·intro h
  have:cg P (a-b+b) (0+b):=cg.add (by unfold cg;rw[h,Int.zero_emod]) cg.refl
  unfold cg at this
  rw[show a-b+b=a by omega,Int.zero_add] at this
  exact this
theorem z4x{w P:Int}(h:0<P):0<=w%P:=Int.emod_nonneg _ (by omega)
theorem z4y{w P:Int}(h:0<P):w%P<P:=Int.emod_lt_of_pos _ h
end L3
namespace L3
open PySem
noncomputable section
noncomputable def g_l:G->R Fl :=
 (gSt (gIfS (gT (gBin dLt (gV 1) (z0i dLen (gCons (gV 0) gNil)))) (gRet (gBin dIx (gV 0) (gV 1))) z2u)
 (gRet (gC (.int 0))))
noncomputable def c_l:List D->R D:=fnC 2 2 g_l
noncomputable def g_e:G->R Fl :=
 (gSt (z2i 3 (gLst gNil))
 (gSt (gFor 4 (z6m (gV 2))
 (gSt (gApp 3 (gNL (gBin dMod (gV 0) (gV 1))))
 (gSet 0 (gNL (gBin dDiv (gV 0) (gV 1))))))
 (gRet (z0i z3f (gCons (gV 3) gNil)))))
noncomputable def c_e:List D->R D:=fnC 3 5 g_e
noncomputable def g_on:G->R Fl :=
 (gRet (gBin dMod (gV 1) (gV 0)))
noncomputable def c_on:List D->R D:=fnC 2 2 g_on
noncomputable def g_r:G->R Fl :=
 (gRet (z0i z3f (gCons (gL (z2j (z6m (gV 0)) (fElt (gNL (gIf (gT (gBin dEq (gV 0) (gV 2))) (gC (.int 1)) (gC (.int 0))))))) gNil)))
noncomputable def c_r:List D->R D:=fnC 2 2 g_r
noncomputable def g_t:G->R Fl :=
 (gSt (gSet 2 (gNL (z0i c_on (gCons (gV 0) (gCons (gV 1) gNil)))))
 (gSt (gIfS (gT (gBin dEq (gV 2) (gC (.int 0)))) (z9a .noNumber) z2u)
 (gSt (gSet 3 (gNL (gC (.int 1))))
 (gSt (whGo (gT (gBin dNe (gV 2) (gC (.int 1)))) (gSt (gSet 3 (gNL (z0i c_on (gCons (gV 0) (gCons (gBin dMul (gNeg (gV 3)) (gBin dDiv (gV 0) (gV 2))) gNil)))))
 (gSet 2 (gNL (gBin dMod (gV 0) (gV 2))))) 100000)
 (gRet (gV 3))))))
noncomputable def c_t:List D->R D:=fnC 2 4 g_t
end
def wkL (e : String) : Lean.MacroM (Lean.TSyntax `tactic) := do let l <- (("L3.fin L3.finF L3.fnC L3.fnF L3.gV L3.gVr L3.gC L3.gNil L3.z2u L3.gSt L3.gSet L3.z2i L3.gNL L3.z0i L3.z3x L3.gCons L3.gRet L3.y0f L3.z8t L3.gBin L3.gL L3.z2j L3.z6m L3.y1p L3.fElt L3.z5x L3.gT L3.gOr L3.gNot L3.gNeg L3.dNeg L3.gIf L3.gIfS L3.gTup L3.gLst L3.gSeq L3.z5g L3.dSeq L3.gFor L3.gApp L3.gIsi L3.dIsi L3.z9a L3.gSl L3.gON L3.gOS L3.dOS L3.dCut L3.gCat L3.y3d L3.y8b L3.z5h L3.y8a L3.D.ty L3.z3m L3.z4w L3.z4t L3.z7o L3.y9j L3.y4a L3.y0a L3.y3z L3.z7n L3.ini L3.dLen L3.z3f L3.dAdd L3.dSub L3.dMul L3.dDiv L3.dMod L3.dPow L3.dLt L3.dGt L3.dEq L3.dNe L3.dIx L3.noEr L3.y4n R.bind_ok R.bind_er R.bind_no L3.z6l L3.z5l L3.z6n Bool.not_true Bool.not_false if_true if_false Bool.false_eq_true beq_self_eq_true ite_true ite_false Int.reduceToNat L3.z0y L3.y9g L3.y9f L3.y9e L3.y9d L3.y9c L3.z4s L3.z7c L3.z9y L3.z9z L3.z7m L3.z6u L3.y4b and_true true_and and_self List.map_cons List.map_nil List.length_cons List.length_nil List.length_map List.length_range List.length_set List.length_append List.length_replicate List.cons_append List.nil_append List.append_assoc List.replicate List.set_cons_zero List.set_cons_succ List.getElem?_cons_zero List.getElem?_cons_succ L3.ints?_map L3.bools?_map L3.z7p L3.z7q L3.y0h L3.y4j Nat.reduceAdd Nat.reduceSub Nat.reduceMul Int.reduceAdd Int.reduceSub Int.reduceMul Int.reduceNeg Int.toNat_natCast L3.z4o L3.z5n L3.z6p L3.z7u L3.z7t L3.z5o Option.map_some Int.add_zero Nat.reduceEqDiff Nat.reduceLeDiff Nat.zero_add Nat.add_zero Nat.sub_zero Nat.sub_self" ++ e).splitOn " ").toArray.mapM fun n => `(Lean.Parser.Tactic.simpLemma| $(Lean.mkIdent n.toName):term); `(tactic| try simp (disch := first | decide | omega | exact z4s _ | exact z7c _ | exact z5j _ | exact z0w _ | exact z6k _ _ | exact z2b (by omega) | exact ⟨z2b (by omega), z2b (by omega)⟩ | exact z4i (by first | assumption | exact z1j (by omega)) | exact z6i (by first | assumption | exact z1j (by omega)) | assumption) only [$l,*])
local macro_rules | `(tactic| walk_at "ev") => wkL ""
noncomputable def z6a(ns:List Int)(k:Int):Int:=(ns[k.toNat]?).getD 0
theorem x2r{ns:List Int}{k:Int}(h0:0<=k)(h:k<(ns.length:Int)):atI (ns.map D.int) k=some (.int (z6a ns k)):=by
 rw[x4o h0,List.getElem?_map]
 unfold z6a
 rw[List.getElem?_eq_getElem (by omega)];rfl
theorem y9z{ns:List Int}{k:Int}(h0:0<=k)(h:¬k<(ns.length:Int)):z6a ns k=0:=by
 unfold z6a
 rw[List.getElem?_eq_none (by omega)];rfl
theorem y6f{ns:List Int}{k:Int}(h0:0<=k):c_l [.lst (ns.map D.int),.int k] = .ok (.int (z6a ns k)):=by
 unfold c_l g_l
 by_cases h:k<(ns.length:Int)
 ·have e1:=x2r h0 h
  have e2:decide (k<(ns.length:Int))=true:=decide_eq_true h
  walk_at "ev"
  simp only[e1,e2]
  walk_at "ev"
 ·have e2:decide (k<(ns.length:Int))=false:=decide_eq_false h
  have e3:=y9z h0 h
  walk_at "ev"
  simp only[e2,e3]
  walk_at "ev"
noncomputable def z3a(P:Int):Nat->Int->List Int
 | 0,_=>[]
 | n+1,c=>c%P::z3a P n (c/P)
theorem z4e(P:Int):∀(n:Nat) (c:Int),(z3a P n c).length=n
 | 0,_=>rfl
 | n+1,c=>by rw[z3a,List.length_cons,z4e P n]
noncomputable def onW(P:Int)(ns:List Int):Prop:=∀n∈ns,0<=n/\n<P
theorem z6x{P:Int}(hp:0<P):∀(n:Nat) (c:Int),onW P (z3a P n c)
 | 0,_=>fun x hx=>by simp[z3a] at hx
 | n+1,c=>fun x hx=>by
   rw[z3a] at hx
   rcases List.mem_cons.mp hx with e | e
   ·subst e;exact⟨z4x hp,z4y hp⟩
   ·exact z6x hp n _ x e
noncomputable def divs(P:Int):Nat->Int->Int
 | 0,c=>c
 | n+1,c=>divs P n c/P
noncomputable def digs(P:Int)(n:Nat)(c:Int):List Int:=(List.range n).map fun i=>divs P i c%P
theorem y1v(P:Int)(n:Nat)(c:Int):digs P (n+1) c=digs P n c++[divs P n c%P]:=by
 unfold digs;rw[List.range_succ,List.map_append];rfl
theorem y7z(P:Int):∀(n:Nat) (c:Int),divs P (n+1) c=divs P n (c/P)
 | 0,c=>rfl
 | n+1,c=>by rw[divs,y7z P n c];rfl
theorem y3f(P:Int):∀(n:Nat) (c:Int),digs P n c=z3a P n c
 | 0,c=>rfl
 | n+1,c=>by
   rw[z3a,<-y3f P n (c/P)]
   unfold digs
   rw[List.range_succ_eq_map,List.map_cons,List.map_map]
   congr 1
   apply List.map_congr_left
   intro i _
   show divs P (i+1) c%P=_
   rw[y7z]
theorem z9q{c P n:Int}(h1:0<P)(h2:P<1000000)(h3:0<=n)(h4:n<=20):c_e [.int c,.int P,.int n] = .ok (.tup ((z3a P n.toNat c).map D.int)):=by
 unfold c_e g_e
 walk_at "ev"
 rw[z8g (fun j=>[.ro (.int (divs P j c)),.ro (.int P),.ro (.int n),.own ((digs P j c).map D.int),(match j with | 0=>.no | k+1=>.ro (.int (0+(k:Int))))])]
 ·walk_at "ev"
  rw[y3f]
 ·rfl
 ·intro j hj
  have hl:(digs P j c).length<=100000:=by unfold digs;simp;omega
  walk_at "ev"
  rw[y1v]
  simp[divs]
noncomputable def z2g(n:Int):Bool:=((List.range 98).filterMap fun(i:Nat)=>if 2+(i:Int)<n then some (n%(2+(i:Int))==0) else none).any fun b=>b
theorem y5f(n:Int):z2g n=true↔∃b:Int,2<=b/\b<100/\b<n/\n%b=0:=by
 unfold z2g
 simp only[List.any_eq_true,List.mem_filterMap,List.mem_range]
 constructor
 ·rintro⟨x,⟨i,hi,e⟩,hx⟩
  by_cases q:2+(i:Int)<n
  ·rw[if_pos q] at e;cases e
   exact⟨2+i,by omega,by omega,q,by simpa using hx⟩
  ·rw[if_neg q] at e;cases e
 ·rintro⟨b,h1,h2,h3,h4⟩
  refine⟨true,⟨(b-2).toNat,by omega,?_⟩,rfl⟩
  have e:(2+(((b-2).toNat:Nat):Int))=b:=by omega
  rw[e,if_pos h3,h4];rfl
theorem y1y{f:D->R (Option D)}{lo:Int}{n:Nat}{h:Nat->Option Bool}(q:∀i,i<n->f (.int (lo+(i:Int))) = .ok ((h i).map D.bl)):z0p f (z2n lo n) [] = .ok (((List.range n).filterMap h).map D.bl):=by
 unfold z2n
 rw[z8u (h:=fun i=>(h i).map D.bl) fun i hi=>q i (List.mem_range.mp hi),List.map_filterMap]
theorem y9t{n c:Int}(Γ:G):gT (z0i dAny (gCons (gL (z2j (y1p (gC (.int 2)) (gC (.int 100))) (z5x (gT (gBin dLt (gV 0) (gV 2))) (gNL (gBin dEq (gBin dMod (gV 2) (gV 0)) (gC (.int 0))))))) gNil)) (.ro (.int c) :: .ro (.int n)::Γ) = .ok (z2g n):=by
 walk_at "ev"
 rw[y1y (h:=fun(i:Nat)=>if 2+(i:Int)<n then some (n%(2+(i:Int))==0) else none)]
 ·walk_at "ev";rfl
 ·intro i hi
  walk_at "ev"
  by_cases q:2+(i:Int)<n
  ·simp only[decide_eq_true q,if_pos q]
   walk_at "ev"
  ·simp only[decide_eq_false q,if_neg q]
   rfl
theorem s_on{P n:Int}(h:0<P):c_on [.int P,.int n] = .ok (.int (n%P)):=by
 unfold c_on g_on
 walk_at "ev"
theorem atD{l:List Int}{i:Nat}(h:i<l.length):atI (l.map D.int) (i:Int)=some (.int ((l[i]?).getD 0)):=by
 rw[z1d,List.getElem?_map,List.getElem?_eq_getElem h];rfl
noncomputable def fits(l:List Int):Prop:=∀n∈l,z4v n
theorem y7s{l:List Int}(h:fits l)(i:Nat):z4v ((l[i]?).getD 0):=by
 by_cases q:i<l.length
 ·rw[List.getElem?_eq_getElem q];exact h _ (List.getElem_mem q)
 ·rw[List.getElem?_eq_none (by omega)];exact⟨by decide,by decide⟩
theorem onW.fits{P:Int}{l:List Int}(h:onW P l)(hp:P<18446744073709551616):fits l:=fun n hn=>by
 have:=h n hn
 exact⟨by omega,by omega⟩
noncomputable def rowD(r:List Int):D:=.tup (r.map D.int)
theorem z0j(r:List Int):rowD r = .tup (r.map D.int):=rfl
theorem z0z(r:List Int):(rowD r).noL=true:=z5j r
theorem y3w(t:List (List Int)):D.noLs (t.map rowD)=true:=y3x fun r _=>z5j r
theorem z8e(n:Nat)(r:List Int):D.lay (n+1) (rowD r)=true:=z6k n r
theorem y3s(r:List Int):D.pl (rowD r)=true:=x1l r
theorem z8c:∀{a b:List Int},a.map D.int=b.map D.int->a=b
 | [],[],_=>rfl
 | [],_::_,h=>by simp at h
 | _::_,[],h=>by simp at h
 | x::a,y::b,h=>by simp at h;rw[h.1,z8c h.2]
theorem z9r{a b:List Int}(h:rowD a=rowD b):a=b:=z8c (by unfold rowD at h;simpa using h)
theorem z8b:∀{a b:List (List Int)},a.map rowD=b.map rowD->a=b
 | [],[],_=>rfl
 | [],_::_,h=>by simp at h
 | _::_,[],h=>by simp at h
 | x::a,y::b,h=>by simp only[List.map_cons,List.cons.injEq] at h;rw[z9r h.1,z8b h.2]
theorem y3e(a b:List Int):eqD (rowD a) (rowD b)=decide (a=b):=y7y (y3s a) (y3s b) ⟨z9r,fun h=>by rw[h]⟩
theorem y0g(a b:List Int):eqD (.tup (a.map D.int)) (.tup (b.map D.int))=decide (a=b):=y3e a b
noncomputable def x5d(c:List D->R D):Prop:=∀ns:List Int,ns.length<=63->c [.lst (ns.map D.int)] = .ok (.bl true)
theorem y3c{α:Type}{l:List α}{i:Nat}{d:α}(h:i<l.length):(l[i]?).getD d=l[i]:=by rw[List.getElem?_eq_getElem h];rfl
noncomputable def x2w(n:Nat):List Int:=List.replicate n 0
noncomputable def z4f(n k:Nat):List Int:=(List.range n).map fun i=>if i=k then 1 else 0
theorem z3d(n k:Nat):(z4f n k).length=n:=by unfold z4f;simp
theorem y8p(n i:Nat):((x2w n)[i]?).getD 0=0:=by
 unfold x2w
 rw[List.getElem?_replicate];split<;>rfl
theorem y8q{n k i:Nat}(h:i<n):((z4f n k)[i]?).getD 0=if i=k then 1 else 0:=by
 unfold z4f
 rw[List.getElem?_map,List.getElem?_range h];rfl
theorem y6p{P:Int}{f:List Int}(hp:0<P)(h:onW P f)(k:Nat):0<=(f[k]?).getD 0/\(f[k]?).getD 0<P:=by
 by_cases q:k<f.length
 ·rw[y3c q];exact h _ (List.getElem_mem q)
 ·rw[List.getElem?_eq_none (by omega)];exact⟨by simp,by simpa using hp⟩
theorem y9r{a b:List Int}(hl:a.length=b.length)(h:∀k,k<a.length->(a[k]?).getD 0=(b[k]?).getD 0):a=b:=by
 apply List.ext_getElem hl
 intro k h1 h2
 have:=h k h1
 rw[y3c h1,y3c h2] at this
 exact this
local macro_rules | `(tactic| walk_at "evs") => wkL " L3.y6f L3.z9q L3.s_on"
theorem z3u{α:Type}(l:List α)(f:α->Int):l.map (fun x=>D.int (f x))=(l.map f).map D.int:=by rw[List.map_map];rfl
theorem z1g{α:Type}(l:List α)(f:α->List Int):l.map (fun x=>rowD (f x))=(l.map f).map rowD:=by rw[List.map_map];rfl
theorem s_r{n x:Nat}(hn:n<=1000):c_r [.int n,.int x] = .ok (rowD (z4f n x)):=by
 refine z2w rfl ?_
 unfold g_r
 refine z4k ?_
 walk_at "evs"
 rw[z7f (h:=fun i=>D.int (if i=x then 1 else 0)),z3u]
 ·walk_at "evs";rfl
 ·intro i hi
  walk_at "evs"
  by_cases q:i=x
  ·subst q
   have e:((0:Int)+(i:Int)==(i:Int))=true:=by simp
   simp only[e]
   walk_at "evs"
  ·have e:((0:Int)+(i:Int)==(x:Int))=false:=by simp;omega
   simp only[e,if_neg q]
   walk_at "evs"
theorem z7w{lo:Int}{n j:Nat}{d:D}(h:(z2n lo n)[j]? = some d):j<n/\d = .int (lo+(j:Int)):=by
 have hj:j<n:=by
  have:=(List.getElem?_eq_some_iff.mp h).1
  rw[z0y] at this;exact this
 rw[z6r lo _ _ hj] at h
 cases h;exact⟨hj,rfl⟩
theorem y7r(k:Nat):(List.replicate k [D.int 0]).flatten=(List.replicate k (0:Int)).map D.int:=by
 induction k with
 | zero=>rfl
 | succ k ih=>rw[List.replicate_succ,List.flatten_cons,ih,List.replicate_succ,List.map_cons];rfl
end L3
namespace L3
open PySem
local macro_rules | `(tactic| walk_at "evs") => wkL " L3.y6f L3.z9q L3.s_on L3.z8e L3.y3e L3.y0g L3.z0z"
theorem x3x{P d:Int}(hp:z2g P=false)(h3:3<=P)(h:P<=9973)(h1:2<=d)(h2:d<P):P%d≠0:=by
 intro e
 have hn:¬∃b:Int,2<=b/\b<100/\b<P/\P%b=0:=fun q=>by rw[(y5f P).mpr q] at hp;cases hp
 by_cases hd:d<100
 ·exact hn ⟨d,h1,hd,h2,e⟩
 ·have e1:P=d*(P/d):=by have:=Int.emod_add_mul_ediv P d;omega
  generalize hq:P/d=q at *
  have q0:0<q:=by
   rcases Int.lt_trichotomy 0 q with z | z | z
   ·exact z
   ·rw[<-z] at e1;simp at e1;omega
   ·have:d*q<0:=Int.mul_neg_of_pos_of_neg (by omega) z
    omega
  have q1:q≠1:=fun z=>by rw[z] at e1;omega
  have q2:q<100:=by
   rcases Int.lt_or_le q 100 with z | z
   ·exact z
   ·have:100*100<=d*q:=Int.mul_le_mul (by omega) z (by omega) (by omega)
    omega
  refine hn ⟨q,by omega,q2,?_,?_⟩
  ·have:2*q<=d*q:=Int.mul_le_mul_of_nonneg_right h1 (by omega)
   omega
  ·rw[e1];exact Int.mul_emod_left d q
theorem y8l{P n0:Int}(hp:z2g P=false)(h3:3<=P)(h:P<=9973)(x1:En):∀(k m:Nat) (Γ:G),m<k ->
 (∃a b:Int,Γ=[.ro (.int P),x1,.ro (.int b),.ro (.int a)]/\1<=b/\b<P/\0<=a/\a<P/\cg P (a*n0) b/\b.toNat=m) ->
 ∃a:Int,whGo (gT (gBin dNe (gV 2) (gC (.int 1)))) (gSt (gSet 3 (gNL (z0i c_on (gCons (gV 0) (gCons (gBin dMul (gNeg (gV 3)) (gBin dDiv (gV 0) (gV 2))) gNil))))) (gSet 2 (gNL (gBin dMod (gV 0) (gV 2))))) k Γ = .ok (.nx [.ro (.int P),x1,.ro (.int 1),.ro (.int a)])/\0<=a/\a<P/\cg P (a*n0) 1:=by
 refine z7i _ (fun r=>∃a:Int,r = .ok (.nx [.ro (.int P),x1,.ro (.int 1),.ro (.int a)])/\0<=a/\a<P/\cg P (a*n0) 1) ?_
 rintro m Γ ⟨a,b,rfl,b1,b2,a1,a2,hc,hm⟩
 by_cases hb:b=1
 ·subst hb
  refine .inl ⟨by walk_at "evs",a,rfl,a1,a2,hc⟩
 ·have hbf:(b==1)=false:=by simpa using hb
  have hnd:=x3x hp h3 h (d:=b) (by omega) b2
  have r1:0<=P%b:=z4x (by omega)
  have r2:P%b<b:=z4y (by omega)
  have hq0:0<=P/b:=Int.ediv_nonneg (by omega) (by omega)
  have hq1:P/b<=P:=Int.ediv_le_self b (by omega)
  have he:P%b=P-b*(P/b):=by have:=Int.emod_add_mul_ediv P b;omega
  refine .inr ⟨by walk_at "evs";simp only[hbf];walk_at "evs",.inl ⟨[.ro (.int P),x1,.ro (.int (P%b)),.ro (.int ((-a*(P/b))%P))],(P%b).toNat,by omega,.inl ?_,_,_,rfl,by omega,by omega,z4x (by omega),z4y (by omega),?_,rfl⟩⟩
  ·refine z1t (d:=.int ((-a*(P/b))%P)) (by walk_at "evs") ?_
   refine y3a ?_
   walk_at "evs"
  ·have c1:cg P ((-a*(P/b))%P*n0) (-(P/b)*(a*n0)):=by
    refine(z3j.mul cg.refl).trans (cg.of_eq ?_)
    rw[Int.neg_mul,Int.neg_mul,Int.neg_mul,Int.mul_assoc,Int.mul_left_comm]
   have c2:cg P (-(P/b)*(a*n0)) (-(P/b)*b):=cg.mul cg.refl hc
   refine(c1.trans c2).trans ?_
   rw[he]
   have:cg P (-(P/b)*b) (P-b*(P/b)):=by
    rw[x4k]
    rw[show -(P/b)*b-(P-b*(P/b)) = -P by rw[Int.neg_mul,Int.mul_comm];omega]
    simp
   exact this
theorem s_t{P n:Int}(hp:z2g P=false)(h3:3<=P)(h:P<=9973):(n%P=0->c_t [.int P,.int n] = .er .noNumber)/\(n%P≠0->∃a:Int,c_t [.int P,.int n] = .ok (.int a)/\0<a/\a<P/\(a*n)%P=1):=by
 have r1:0<=n%P:=z4x (by omega)
 have r2:n%P<P:=z4y (by omega)
 refine⟨fun e=>?_,fun e=>?_⟩
 ·refine x4g (Γ:=[.ro (.int P),.ro (.int n),.ro (.int 0),.no]) rfl ?_
  unfold g_t
  refine z1t (d:=.int 0) (by walk_at "evs";rw[e];walk_at "evs") ?_
  refine x5k (z8s (by walk_at "evs") ?_)
  rfl
 ·have hbf:(n%P==0)=false:=by simpa using e
  obtain⟨a,ea,a1,a2,ac⟩:=y8l (n0:=n%P) hp h3 h (.ro (.int n)) 100000 (n%P).toNat [.ro (.int P),.ro (.int n),.ro (.int (n%P)),.ro (.int 1)] (by omega) ⟨1,n%P,rfl,by omega,r2,by omega,by omega,cg.of_eq (by omega),rfl⟩
  have hc:cg P (a*n) 1:=(cg.mul cg.refl z3j.symm).trans ac
  have h1:(a*n)%P=1:=by
   unfold cg at hc
   rw[hc,Int.emod_eq_of_lt (by omega) (by omega)]
  have a0:a≠0:=fun z=>by rw[z] at h1;simp at h1
  refine⟨a,?_,by omega,a2,h1⟩
  refine z2w rfl ?_
  unfold g_t
  refine z1t (d:=.int (n%P)) (by walk_at "evs") ?_
  refine z3h (by walk_at "evs";simp only[hbf];walk_at "evs") ?_
  refine z1t (d:=.int 1) (by walk_at "evs") ?_
  refine y0m ea ?_
  exact z4k (by walk_at "evs")
noncomputable section
end
inductive Item where
 | set (x:Int) (f:List Int)
 | again (n:Int) (its:List Item)
mutual
noncomputable def Item.d:Item->D
 | .set x f=>.tup [.str "set",.int x,rowD f]
 | .again n its=>.tup [.str "again",.int n,.tup (Item.ds its)]
noncomputable def Item.ds:List Item->List D
 | []=>[]
 | a::r=>a.d::Item.ds r
end
mutual
noncomputable def Item.many:Item->Nat
 | .set _ _=>1
 | .again _ its=>1+Item.manys its
noncomputable def Item.manys:List Item->Nat
 | []=>0
 | a::r=>a.many+Item.manys r
end
mutual
noncomputable def Item.ok(P many:Int):Item->Prop
 | .set x f=>0<=x/\x<many/\(f.length:Int)=many+1/\onW P f
 | .again n its=>0<=n/\n<=10^30/\Item.oks P many its
noncomputable def Item.oks(P many:Int):List Item->Prop
 | []=>True
 | a::r=>a.ok P many/\Item.oks P many r
end
mutual
theorem Item.noL:∀a:Item,a.d.noL=true
 | .set x f=>by
   have:=z0z f
   simp[Item.d,D.noL,D.noLs,this]
 | .again n its=>by
   have:=Item.noLs its
   simp[Item.d,D.noL,D.noLs,this]
theorem Item.noLs:∀its:List Item,D.noLs (Item.ds its)=true
 | []=>rfl
 | a::r=>by
   have h1:=Item.noL a
   have h2:=Item.noLs r
   simp[Item.ds,D.noLs,h1,h2]
end
theorem forI{gb:G->R Fl}{i:Nat}{ds:List D}{Γ:G}(I:Nat->G->Prop)(h0:I 0 Γ)(hq:∀(j:Nat) (d:D) (Γ:G),ds[j]? = some d->I j Γ->Ends (gb (Γ.set i (.ro d))) (I (j+1))):∃Γ',z2m gb i ds Γ = .ok (.nx Γ')/\I ds.length Γ':=by
 obtain⟨Γ',e,h'⟩:=z8h I ds 0 Γ h0 fun j d Γ hd hI=>by rw[Nat.zero_add] at hI ⊢;exact hq j d Γ hd hI
 rw[Nat.zero_add] at h'
 exact⟨Γ',e,h'⟩
theorem y3k{gs:G->R (List D)}{gb u:G->R Fl}{i:Nat}{ds:List D}{Γ:G}(T:R Fl->Prop)(I:Nat->G->Prop)(hi:gs Γ = .ok ds)(h0:I 0 Γ)(hq:∀(j:Nat) (d:D) (Γ:G),ds[j]? = some d->I j Γ->Ends (gb (Γ.set i (.ro d))) (I (j+1)))(h:∀Γ',I ds.length Γ'->T (u Γ')):T (gSt (gFor i gs gb) u Γ):=by
 obtain⟨Γ',e,h'⟩:=forI I h0 hq
 rw[x0w hi e rfl];exact h Γ' h'
noncomputable def vec(r:List Int):Nat->Int:=fun i=>(r[i]?).getD 0
inductive Span (P:Int) (S:List (List Int)):(Nat->Int)->Prop
 | zero {v:Nat->Int}:(∀i,cg P (v i) 0)->Span P S v
 | add {u v:Nat->Int} {c:Int} {r:List Int}:r∈S->Span P S u->(∀i,cg P (v i) (u i+c*vec r i))->Span P S v
section
variable {P:Int}{S T:List (List Int)}{u v:Nat->Int}{c:Int}{r:List Int}
theorem Span.cong(h:Span P S u)(e:∀i,cg P (v i) (u i)):Span P S v:=by
 cases h with
 | zero z=>exact .zero fun i=>(e i).trans (z i)
 | add hr hu q=>exact .add hr hu fun i=>(e i).trans (q i)
theorem Span.of_mem(h:r∈S):Span P S (vec r):=.add (c:=1) h (.zero (v:=fun _=>0) fun _=>cg.refl) fun i=>cg.of_eq (by omega)
theorem Span.plus(h:Span P S u)(g:Span P S v):Span P S (fun i=>u i+v i):=by
 induction h with
 | zero z =>
   refine g.cong fun i=>?_
   have:=(z i).add (cg.refl (P:=P) (a:=v i))
   rw[Int.zero_add] at this;exact this
 | @add u' v' c' r' hr hu q ih =>
   refine .add (c:=c') hr ih fun i=>?_
   refine((q i).add cg.refl).trans (cg.of_eq ?_)
   omega
theorem Span.times(c:Int)(h:Span P S u):Span P S (fun i=>c*u i):=by
 induction h with
 | zero z =>
   refine .zero fun i=>?_
   have:=(cg.refl (P:=P) (a:=c)).mul (z i)
   rw[Int.mul_zero] at this;exact this
 | @add u' v' c' r' hr hu q ih =>
   refine .add (c:=c*c') hr ih fun i=>?_
   refine(cg.refl.mul (q i)).trans (cg.of_eq ?_)
   rw[Int.mul_add,Int.mul_assoc]
theorem Span.trans(h:∀r∈S,Span P T (vec r))(g:Span P S v):Span P T v:=by
 induction g with
 | zero z=>exact .zero z
 | add hr hu q ih=>exact(ih.plus ((h _ hr).times _)).cong q
theorem Span.sub(hu:Span P S u)(hv:Span P S v):Span P S (fun i=>u i-v i):=(hu.plus (hv.times (-1))).cong fun i=>cg.of_eq (by omega)
end
noncomputable def z0f(r:List Int):Nat:=r.findIdx (fun x=>!(x==0))
theorem z2d{r:List Int}{i:Nat}(h:i<z0f r):vec r i=0:=by
 unfold z0f at h
 have hl:i<r.length:=Nat.lt_of_lt_of_le h List.findIdx_le_length
 have:=List.not_of_lt_findIdx h
 unfold vec
 rw[List.getElem?_eq_getElem hl]
 simpa using this
theorem y2y{r:List Int}(h:z0f r<r.length):vec r (z0f r)≠0:=by
 have:=List.findIdx_getElem (xs:=r) (p:=fun x=>!(x==0)) (w:=h)
 unfold vec
 have e:r[z0f r]? = some (r[z0f r]'h):=List.getElem?_eq_getElem h
 rw[e]
 intro z
 have z':r[r.findIdx (fun x=>!(x==0))]'h=0:=z
 simp[z'] at this
theorem y2x{r:List Int}{p:Nat}(h0:∀i,i<p->vec r i=0)(h1:vec r p≠0):z0f r=p:=by
 have hl:p<r.length:=by
  rcases Nat.lt_or_ge p r.length with z | z
  ·exact z
  ·exact absurd (by unfold vec;rw[List.getElem?_eq_none z];rfl) h1
 rcases Nat.lt_trichotomy (z0f r) p with z | z | z
 ·have h2:=y2y (r:=r) (by omega)
  exact absurd (h0 _ z) h2
 ·exact z
 ·exact absurd (z2d z) h1
structure Steps (P:Int) (w:Nat) (S:List (List Int)):Prop where
 row:∀r∈S,r.length=w/\onW P r/\z0f r<w/\vec r (z0f r)=1
 pair:S.Pairwise fun r r'=>z0f r<z0f r'/\vec r (z0f r')=0
noncomputable def comb(S:List (List Int))(v:Nat->Int)(i:Nat):Int:=(S.map fun r=>v (z0f r)*vec r i).sum
theorem z3k{α:Type}{f:α->Int}:∀{l:List α},(∀a∈l,f a=0)->(l.map f).sum=0
 | [],_=>rfl
 | a::l,h=>by rw[List.map_cons,List.sum_cons,h a List.mem_cons_self,z3k fun b hb=>h b (List.mem_cons_of_mem _ hb)];rfl
theorem y4k{α:Type}{P:Int}{f g:α->Int}:∀{l:List α},(∀a∈l,cg P (f a) (g a))->cg P (l.map f).sum (l.map g).sum
 | [],_=>cg.refl
 | a::l,h=>by rw[List.map_cons,List.sum_cons,List.map_cons,List.sum_cons];exact(h a List.mem_cons_self).add (y4k fun b hb=>h b (List.mem_cons_of_mem _ hb))
theorem y5w{α:Type}(f g:α->Int):∀l:List α,(l.map fun a=>f a+g a).sum=(l.map f).sum+(l.map g).sum
 | []=>rfl
 | a::l=>by simp only[List.map_cons,List.sum_cons,y5w f g l];omega
theorem y5v{α:Type}(c:Int)(f:α->Int):∀l:List α,(l.map fun a=>c*f a).sum=c*(l.map f).sum
 | []=>by simp
 | a::l=>by simp only[List.map_cons,List.sum_cons,y5v c f l,Int.mul_add]
theorem y8f{S:List (List Int)}(hp:S.Pairwise fun r r'=>z0f r<z0f r'/\vec r (z0f r')=0)(h1:∀r∈S,vec r (z0f r)=1){r0:List Int}(h:r0∈S)(i:Nat):comb S (vec r0) i=vec r0 i:=by
 induction S with
 | nil=>cases h
 | cons a S ih =>
   obtain⟨ha,hS⟩:=List.pairwise_cons.mp hp
   unfold comb
   rw[List.map_cons,List.sum_cons]
   rcases List.mem_cons.mp h with rfl | h
   ·rw[h1 _ List.mem_cons_self,z3k fun r hr=>by rw[(ha r hr).2,Int.zero_mul]];omega
   ·have hz:vec r0 (z0f a)=0:=z2d (ha r0 h).1
    have:=ih hS (fun r hr=>h1 r (List.mem_cons_of_mem _ hr)) h
    unfold comb at this
    rw[this,hz];omega
section
variable {P:Int}{w:Nat}{S T:List (List Int)}{v:Nat->Int}
theorem z6o(hS:Steps P w S)(h:Span P S v)(i:Nat):cg P (v i) (comb S v i):=by
 induction h with
 | zero z =>
   refine(z i).trans (cg.symm ?_)
   unfold comb
   have:cg P (S.map fun r=>_).sum (S.map fun _=>(0:Int)).sum:=y4k (f:=fun r=>_*vec r i) fun r hr=>by
    have:=(z (z0f r)).mul (cg.refl (P:=P) (a:=vec r i))
    rw[Int.zero_mul] at this;exact this
   rw[z3k (f:=fun _:List Int=>(0:Int)) fun _ _=>rfl] at this
   exact this
 | @add u v' c r hr hu q ih =>
   have e1:=y8f hS.pair (fun r hr=>(hS.row r hr).2.2.2) hr i
   have e2:cg P (comb S v' i) (comb S (fun k=>u k+c*vec r k) i):=y4k fun r' _=>(q (z0f r')).mul cg.refl
   have e3:comb S (fun k=>u k+c*vec r k) i=comb S u i+c*comb S (vec r) i:=by
    unfold comb
    rw[<-y5v,<-y5w]
    congr 1
    refine List.map_congr_left fun a _=>?_
    rw[Int.add_mul,Int.mul_assoc]
   refine(q i).trans (((ih.add (cg.refl (a:=c*vec r i))).trans ?_).trans e2.symm)
   rw[e3,e1]
   exact cg.refl
theorem z9d(hS:Steps P w S)(h:Span P S v){p:Nat}(h0:∀i,i<p->cg P (v i) 0)(h1:¬cg P (v p) 0):∃r∈S,z0f r=p:=by
 refine Classical.byContradiction fun hn=>h1 ?_
 refine(z6o hS h p).trans ?_
 unfold comb
 have:cg P (S.map fun r=>v (z0f r)*vec r p).sum (S.map fun _=>(0:Int)).sum:=y4k (f:=fun r=>v (z0f r)*vec r p) fun r hr=>by
  rcases Nat.lt_trichotomy (z0f r) p with z | z | z
  ·have:=(h0 _ z).mul (cg.refl (P:=P) (a:=vec r p))
   rw[Int.zero_mul] at this;exact this
  ·exact absurd ⟨r,hr,z⟩ hn
  ·rw[z2d z,Int.mul_zero];exact cg.refl
 rw[z3k (f:=fun _:List Int=>(0:Int)) fun _ _=>rfl] at this
 exact this
theorem y6u(hp:1<P):¬cg P 1 0:=fun h=>by
 unfold cg at h
 rw[Int.emod_eq_of_lt (by omega) hp,Int.zero_emod] at h
 omega
theorem z6j(hp:1<P)(hS:Steps P w S)(hT:Steps P w T)(h:∀t∈T,Span P S (vec t)){t:List Int}(ht:t∈T):∃r∈S,z0f r=z0f t:=by
 refine z9d hS (h t ht) (fun i hi=>by rw[z2d hi];exact cg.refl) ?_
 rw[(hT.row t ht).2.2.2]
 exact y6u hp
theorem x0s:∀{a b:List Nat},a.Pairwise (·<·)->b.Pairwise (·<·)->(∀x,x∈a↔x∈b)->a=b
 | [],[],_,_,_=>rfl
 | [],y::b,_,_,h=>by have:=(h y).mpr List.mem_cons_self;cases this
 | x::a,[],_,_,h=>by have:=(h x).mp List.mem_cons_self;cases this
 | x::a,y::b,ha,hb,h=>by
   obtain⟨ha1,ha2⟩:=List.pairwise_cons.mp ha
   obtain⟨hb1,hb2⟩:=List.pairwise_cons.mp hb
   have exy:x=y:=by
    rcases List.mem_cons.mp ((h x).mp List.mem_cons_self) with e | e
    ·exact e
    ·rcases List.mem_cons.mp ((h y).mpr List.mem_cons_self) with e' | e'
     ·exact e'.symm
     ·have:=ha1 y e'
      have:=hb1 x e
      omega
   subst exy
   rw[x0s ha2 hb2 fun z=>?_]
   constructor
   ·intro hz
    rcases List.mem_cons.mp ((h z).mp (List.mem_cons_of_mem _ hz)) with e | e
    ·have:=ha1 z hz;omega
    ·exact e
   ·intro hz
    rcases List.mem_cons.mp ((h z).mpr (List.mem_cons_of_mem _ hz)) with e | e
    ·have:=hb1 z hz;omega
    ·exact e
theorem x0f{a b:List Int}(hp:0<P)(la:a.length=w)(lb:b.length=w)(oa:onW P a)(ob:onW P b)(h:∀i,cg P (vec a i) (vec b i)):a=b:=by
 refine y9r (la.trans lb.symm) fun k hk=>?_
 have h1:=y6p hp oa k
 have h2:=y6p hp ob k
 exact(h k).eq_of h1.1 h1.2 h2.1 h2.2
theorem z7d(hS:Steps P w S){r r':List Int}(h:r∈S)(h':r'∈S)(e:z0f r≠z0f r'):vec r (z0f r')=0:=by
 have key:∀{S:List (List Int)},S.Pairwise (fun r r'=>z0f r<z0f r'/\vec r (z0f r')=0)->r∈S->r'∈S->vec r (z0f r')=0:=by
  intro S
  induction S with
  | nil=>intro _ h _;cases h
  | cons a S ih =>
    intro hp h h'
    obtain⟨h1,h2⟩:=List.pairwise_cons.mp hp
    rcases List.mem_cons.mp h with rfl | g
    ·rcases List.mem_cons.mp h' with rfl | g'
     ·exact absurd rfl e
     ·exact(h1 _ g').2
    ·rcases List.mem_cons.mp h' with rfl | g'
     ·exact z2d (h1 _ g).1
     ·exact ih h2 g g'
 exact key hS.pair h h'
theorem y0q(hp:1<P)(hS:Steps P w S)(hT:Steps P w T)(h1:∀t∈T,Span P S (vec t))(h2:∀r∈S,Span P T (vec r)):S=T:=by
 have incS:(S.map z0f).Pairwise (·<·):=List.pairwise_map.mpr (hS.pair.imp fun q=>q.1)
 have incT:(T.map z0f).Pairwise (·<·):=List.pairwise_map.mpr (hT.pair.imp fun q=>q.1)
 have el:S.map z0f=T.map z0f:=x0s incS incT fun x=>by
  constructor
  ·intro hx
   obtain⟨r,hr,rfl⟩:=List.mem_map.mp hx
   obtain⟨t,ht,e⟩:=z6j hp hT hS h2 hr
   exact List.mem_map.mpr ⟨t,ht,e⟩
  ·intro hx
   obtain⟨t,ht,rfl⟩:=List.mem_map.mp hx
   obtain⟨r,hr,e⟩:=z6j hp hS hT h1 ht
   exact List.mem_map.mpr ⟨r,hr,e⟩
 have er:∀r∈S,∀t∈T,z0f r=z0f t->r=t:=fun r hr t ht e=>by
  obtain⟨a1,a2,a3,a4⟩:=hS.row r hr
  obtain⟨b1,b2,b3,b4⟩:=hT.row t ht
  refine x0f (by omega) a1 b1 a2 b2 fun i=>?_
  have sp:=(Span.of_mem (P:=P) hr).sub (h1 t ht)
  have q:=z6o hS sp i
  have z:comb S (fun k=>vec r k-vec t k) i=0:=by
   refine z3k fun a ha=>?_
   have e0:vec r (z0f a)-vec t (z0f a)=0:=by
    by_cases ea:z0f r=z0f a
    ·rw[<-ea,a4,e,b4];rfl
    ·rw[z7d hS hr ha ea]
     obtain⟨t',ht',et'⟩:=z6j hp hT hS h2 ha
     rw[<-et',z7d hT ht ht' (by omega)];rfl
   show(vec r (z0f a)-vec t (z0f a))*vec a i=0
   rw[e0,Int.zero_mul]
  rw[z] at q
  have:=q.add (cg.refl (P:=P) (a:=vec t i))
  rw[Int.zero_add] at this
  exact cg.trans (cg.of_eq (by omega)) this
 have hl:S.length=T.length:=by have:=congrArg List.length el;simpa using this
 refine List.ext_getElem hl fun i hi hj=>?_
 refine er _ (List.getElem_mem hi) _ (List.getElem_mem hj) ?_
 have:=congrArg (fun l=>l[i]?) el
 simp only[List.getElem?_map,List.getElem?_eq_getElem hi,List.getElem?_eq_getElem hj,Option.map_some,Option.some.injEq] at this
 exact this
end
noncomputable def z1b(P:Int)(r:List Int)(c:Int):List Int:=r.map fun n=>(c*n)%P
noncomputable def z0t(P:Int)(r l:List Int)(p:Nat):List Int:=(r.zip l).map fun x=>(x.1-vec r p*x.2)%P
section
variable {P:Int}{w p:Nat}{r l:List Int}{c:Int}
theorem z3p(i:Nat):vec (z1b P r c) i=(c*vec r i)%P:=by
 unfold vec z1b
 rw[List.getElem?_map]
 cases r[i]? with
 | none=>simp
 | some x=>rfl
theorem z2y:(z1b P r c).length=r.length:=by unfold z1b;simp
theorem z6b(hp:0<P):onW P (z1b P r c):=fun n hn=>by
 obtain⟨x,_,rfl⟩:=List.mem_map.mp hn
 exact⟨z4x hp,z4y hp⟩
theorem z3q(hl:r.length=l.length)(i:Nat):vec (z0t P r l p) i=(vec r i-vec r p*vec l i)%P:=by
 show((z0t P r l p)[i]?).getD 0=_
 unfold z0t
 rw[List.getElem?_map]
 by_cases h:i<r.length
 ·rw[List.getElem?_eq_getElem (by rw[List.length_zip];omega),List.getElem_zip]
  show(r[i]-vec r p*l[i])%P=_
  rw[show vec r i=r[i] by unfold vec;rw[List.getElem?_eq_getElem h];rfl,show vec l i=l[i]'(by omega) by unfold vec;rw[List.getElem?_eq_getElem (by omega)];rfl]
 ·rw[List.getElem?_eq_none (by rw[List.length_zip];omega),show vec r i=0 by unfold vec;rw[List.getElem?_eq_none (by omega)];rfl,show vec l i=0 by unfold vec;rw[List.getElem?_eq_none (by omega)];rfl]
  simp
theorem z9h(hl:r.length=l.length):(z0t P r l p).length=r.length:=by unfold z0t;simp;omega
theorem y1z(hp:0<P):onW P (z0t P r l p):=fun n hn=>by
 obtain⟨x,_,rfl⟩:=List.mem_map.mp hn
 exact⟨z4x hp,z4y hp⟩
theorem x1b(hp:0<P)(h:onW P r)(i:Nat):vec r i%P=vec r i:=by
 have:=y6p hp h i
 exact Int.emod_eq_of_lt this.1 this.2
end
structure Gone (P:Int) (w p:Nat) (rows left steps:List (List Int)):Prop where
 lft:∀r∈left,r.length=w/\onW P r/\∀i,i<p->vec r i=0
 step:∀r∈steps,r.length=w/\onW P r/\z0f r<p/\vec r (z0f r)=1
 pair:steps.Pairwise fun r r'=>z0f r<z0f r'/\vec r (z0f r')=0
 ofL:∀r∈left,Span P rows (vec r)
 ofS:∀r∈steps,Span P rows (vec r)
 all:∀r∈rows,Span P (left++steps) (vec r)
section
variable {P:Int}{w p:Nat}{rows left steps:List (List Int)}
theorem Gone.skip(g:Gone P w p rows left steps)(h:∀r∈left,vec r p=0):Gone P w (p+1) rows left steps where
 lft:=fun r hr=>by
  obtain⟨h1,h2,h3⟩:=g.lft r hr
  refine⟨h1,h2,fun i hi=>?_⟩
  rcases Nat.lt_or_ge i p with z | z
  ·exact h3 i z
  ·rw[show i=p by omega];exact h r hr
 step:=fun r hr=>by obtain⟨h1,h2,h3,h4⟩:=g.step r hr;exact⟨h1,h2,by omega,h4⟩
 pair:=g.pair
 ofL:=g.ofL
 ofS:=g.ofS
 all:=g.all
theorem z9g{S:List (List Int)}{r l:List Int}(hl:r.length=l.length)(h1:Span P S (vec r))(h2:Span P S (vec l)):Span P S (vec (z0t P r l p)):=by
 refine(h1.sub (h2.times (vec r p))).cong fun i=>?_
 rw[z3q hl]
 exact z3j
theorem Gone.turn(g:Gone P w p rows left steps)(hp:1<P)(hw:p<w){r0:List Int}(h0:r0∈left){a:Int}(ha:(a*vec r0 p)%P=1){l:List Int}(el:l=z1b P r0 a):Gone P w (p+1) rows (left.map fun r=>z0t P r l p) ((steps.map fun r=>z0t P r l p)++[l]):=by
 obtain⟨l1,l2,l3⟩:=g.lft r0 h0
 have p0:0<P:=by omega
 have ll:l.length=w:=by rw[el,z2y];exact l1
 have lo:onW P l:=by rw[el];exact z6b p0
 have lv:∀i,vec l i=(a*vec r0 i)%P:=fun i=>by rw[el,z3p]
 have lz:∀i,i<p->vec l i=0:=fun i hi=>by rw[lv,l3 i hi];simp
 have lp:vec l p=1:=by rw[lv];exact ha
 have llead:z0f l=p:=y2x lz (by rw[lp];omega)
 have spl:Span P rows (vec l):=((g.ofL r0 h0).times a).cong fun i=>by rw[lv];exact z3j
 have sv:∀r∈steps,∀i,i<p->vec (z0t P r l p) i=vec r i:=fun r hr i hi=>by
  obtain⟨h1,h2,_⟩:=g.step r hr
  rw[z3q (by omega),lz i hi,Int.mul_zero,Int.sub_zero]
  exact x1b p0 h2 i
 have slead:∀r∈steps,z0f (z0t P r l p)=z0f r:=fun r hr=>by
  obtain⟨h1,h2,h3,h4⟩:=g.step r hr
  refine y2x (fun i hi=>?_) ?_
  ·rw[sv r hr i (by omega)];exact z2d hi
  ·rw[sv r hr _ h3,h4];omega
 have cp:∀r:List Int,r.length=w->vec (z0t P r l p) p=0:=fun r hr=>by
  rw[z3q (by omega),lp]
  simp
 refine⟨fun r' hr'=>?_,fun r' hr'=>?_,?_,fun r' hr'=>?_,fun r' hr'=>?_,fun r hr=>?_⟩
 ·obtain⟨r,hr,rfl⟩:=List.mem_map.mp hr'
  obtain⟨h1,h2,h3⟩:=g.lft r hr
  refine⟨by rw[z9h (by omega)];exact h1,y1z p0,fun i hi=>?_⟩
  rcases Nat.lt_or_ge i p with z | z
  ·rw[z3q (by omega),h3 i z,lz i z];simp
  ·rw[show i=p by omega];exact cp r h1
 ·rcases List.mem_append.mp hr' with hr' | hr'
  ·obtain⟨r,hr,rfl⟩:=List.mem_map.mp hr'
   obtain⟨h1,h2,h3,h4⟩:=g.step r hr
   refine⟨by rw[z9h (by omega)];exact h1,y1z p0,by rw[slead r hr];omega,?_⟩
   rw[slead r hr,sv r hr _ h3];exact h4
  ·rw[List.mem_singleton] at hr'
   subst hr'
   exact⟨ll,lo,by omega,by rw[llead];exact lp⟩
 ·refine List.pairwise_append.mpr ⟨?_,List.pairwise_singleton _ _,fun a' ha' b hb=>?_⟩
  ·refine List.pairwise_map.mpr (g.pair.imp_of_mem fun {r r'} hr hr' q=>?_)
   obtain⟨_,_,h3,_⟩:=g.step r' hr'
   rw[slead r hr,slead r' hr',sv r hr _ h3]
   exact q
  ·obtain⟨r,hr,rfl⟩:=List.mem_map.mp ha'
   rw[List.mem_singleton] at hb
   subst hb
   obtain⟨h1,h2,h3,h4⟩:=g.step r hr
   rw[slead r hr,llead]
   exact⟨h3,cp r h1⟩
 ·obtain⟨r,hr,rfl⟩:=List.mem_map.mp hr'
  exact z9g (by have:=(g.lft r hr).1;omega) (g.ofL r hr) spl
 ·rcases List.mem_append.mp hr' with hr' | hr'
  ·obtain⟨r,hr,rfl⟩:=List.mem_map.mp hr'
   exact z9g (by have:=(g.step r hr).1;omega) (g.ofS r hr) spl
  ·rw[List.mem_singleton] at hr'
   subst hr'
   exact spl
 ·refine Span.trans (fun r' hr'=>?_) (g.all r hr)
  have hlm:l∈(left.map fun r=>z0t P r l p)++((steps.map fun r=>z0t P r l p)++[l]):=by simp
  have undo:∀r:List Int,r.length=w->onW P r->z0t P r l p∈(left.map fun r=>z0t P r l p)++((steps.map fun r=>z0t P r l p)++[l])->Span P ((left.map fun r=>z0t P r l p)++((steps.map fun r=>z0t P r l p)++[l])) (vec r):=fun r h1 h2 h3=>by
   refine((Span.of_mem h3).plus ((Span.of_mem hlm).times (vec r p))).cong fun i=>?_
   rw[z3q (by omega)]
   have:=(z3j (P:=P) (a:=vec r i-vec r p*vec l i)).add (cg.refl (a:=vec r p*vec l i))
   rw[show vec r i-vec r p*vec l i+vec r p*vec l i=vec r i by omega] at this
   exact this.symm
  rcases List.mem_append.mp hr' with q | q
  ·obtain⟨h1,h2,_⟩:=g.lft r' q
   exact undo r' h1 h2 (List.mem_append_left _ (List.mem_map.mpr ⟨r',q,rfl⟩))
  ·obtain⟨h1,h2,_⟩:=g.step r' q
   exact undo r' h1 h2 (List.mem_append_right _ (List.mem_append_left _ (List.mem_map.mpr ⟨r',q,rfl⟩)))
structure StepsOf (P:Int) (w:Nat) (rows S:List (List Int)):Prop where
 steps:Steps P w S
 ofS:∀r∈S,Span P rows (vec r)
 all:∀r∈rows,Span P S (vec r)
theorem Gone.end(g:Gone P w w rows left steps):StepsOf P w rows steps where
 steps:=⟨g.step,g.pair⟩
 ofS:=g.ofS
 all:=fun r hr=>by
  refine Span.trans (fun r' hr'=>?_) (g.all r hr)
  rcases List.mem_append.mp hr' with q | q
  ·obtain⟨h1,_,h3⟩:=g.lft r' q
   refine .zero fun i=>?_
   rcases Nat.lt_or_ge i w with z | z
   ·rw[h3 i z];exact cg.refl
   ·unfold vec;rw[List.getElem?_eq_none (by omega)];exact cg.refl
  ·exact .of_mem q
theorem StepsOf.unique{S T:List (List Int)}(hp:1<P)(hS:StepsOf P w rows S)(hT:StepsOf P w rows T):S=T :=
 y0q hp hS.steps hT.steps (fun t ht=>Span.trans hS.all (hT.ofS t ht)) fun r hr=>Span.trans hT.all (hS.ofS r hr)
theorem StepsOf.span{S:List (List Int)}{v:Nat->Int}(h:StepsOf P w rows S)(g:Span P rows v):Span P S v:=Span.trans h.all g
theorem y5g(hp:0<P)(h:∀r∈rows,r.length=w):Gone P w 0 rows (rows.map fun r=>z1b P r 1) [] where
 lft:=fun r' hr'=>by
  obtain⟨r,hr,rfl⟩:=List.mem_map.mp hr'
  exact⟨by rw[z2y];exact h r hr,z6b hp,fun i hi=>by omega⟩
 step:=fun r hr=>by cases hr
 pair:=List.Pairwise.nil
 ofL:=fun r' hr'=>by
  obtain⟨r,hr,rfl⟩:=List.mem_map.mp hr'
  refine(Span.of_mem hr).cong fun i=>?_
  rw[z3p,Int.one_mul]
  exact z3j
 ofS:=fun r hr=>by cases hr
 all:=fun r hr=>by
  rw[List.append_nil]
  refine(Span.of_mem (List.mem_map.mpr ⟨r,hr,rfl⟩)).cong fun i=>?_
  rw[z3p,Int.one_mul]
  exact z3j.symm
end
noncomputable section
noncomputable def g_p:G->R Fl :=
 (gRet (z0i z3f (gCons (gL (z4b (gZip (gV 1) (gV 2)) (z6v (gNL (z0i (noEr c_on) (gCons (gV 2) (gCons (gBin dSub (gV 0) (gBin dMul (gBin dIx (gV 3) (gV 5)) (gV 1))) gNil))))))) gNil)))
noncomputable def c_p:List D->R D:=fnC 4 4 g_p
noncomputable def g_s:G->R Fl :=
 (gRet (z0i z3f (gCons (gL (z2j (z5g (gV 1)) (fElt (gNL (z0i (noEr c_on) (gCons (gV 1) (gCons (gBin dMul (gV 3) (gV 0)) gNil))))))) gNil)))
noncomputable def c_s:List D->R D:=fnC 3 3 g_s
noncomputable def g_o:G->R Fl :=
 (gSt (gFor 3 (gSeq (gVr 1))
 (gIfS (gT (gBin dNe (gBin dIx (gV 3) (gV 2)) (gC (.int 0)))) (gRet (z0i c_s (gCons (gV 0) (gCons (gV 3) (gCons (z0i c_t (gCons (gV 0) (gCons (gBin dIx (gV 3) (gV 2)) gNil))) gNil))))) z2u))
 (gRet (gC .non)))
noncomputable def c_o:List D->R D:=fnC 3 4 g_o
noncomputable def g_g:G->R Fl :=
 (gSt (z2i 2 (z2j (z5g (gV 1)) (fElt (gNL (z0i (noEr c_s) (gCons (gV 1) (gCons (gV 0) (gCons (gC (.int 1)) gNil))))))))
 (gSt (z2i 3 (gLst gNil))
 (gSt (gFor 4 (z6m (z0i dLen (gCons (gBin dIx (gV 1) (gC (.int 0))) gNil)))
 (gSt (gSet 5 (gNL (z0i c_o (gCons (gV 0) (gCons (gV 2) (gCons (gV 4) gNil))))))
 (gIfS (gT (gBin y9u (gV 5) (gC .non))) (gSt (z2i 2 (z2j (z5g (gV 2)) (fElt (gNL (z0i (noEr c_p) (gCons (gV 1) (gCons (gV 0) (gCons (gV 6) (gCons (gV 5) gNil)))))))))
 (gSt (z2i 3 (z2j (z5g (gV 3)) (fElt (gNL (z0i (noEr c_p) (gCons (gV 1) (gCons (gV 0) (gCons (gV 6) (gCons (gV 5) gNil)))))))))
 (gApp 3 (gNL (gV 5))))) z2u)))
 (z8t 3))))
noncomputable def c_g:List D->R (List D):=fnF 2 6 g_g
noncomputable def g_m:G->R Fl :=
 (gSt (gSet 2 (gNL (z0i dLen (gCons (gBin dIx (gV 1) (gC (.int 0))) gNil))))
 (gSt (z2i 3 (z4b (x2m (gV 1)) (z6v (gNL (gBin dAdd (z0i z3f (gCons (gV 1) gNil)) (z0i (noEr c_r) (gCons (z0i dLen (gCons (gV 3) gNil)) (gCons (gV 0) gNil))))))))
 (y0f (z2j (z5g (gL (z3x c_g (gCons (gV 0) (gCons (gV 3) gNil))))) (z5x (gNot (gT (z0i y3g (gCons (gSl (gV 0) gON (gOS (gV 3))) gNil)))) (gNL (gSl (gV 0) (gOS (gV 3)) gON)))))))
noncomputable def c_m:List D->R (List D):=fnF 2 4 g_m
noncomputable def g_h:G->R Fl :=
 (gSt (z2i 3 (z3x c_m (gCons (gV 0) (gCons (gL (gCat (gLst (gCons (gV 2) gNil)) (z5h (gV 1)))) gNil))))
 (gSt (gIfS (gOr (gNot (x2l (gV 3))) (gT (gBin dEq (gBin dIx (gBin dIx (gV 3) (gC (.int 0))) (gC (.int 0))) (gC (.int 0))))) (gRet (gC .non)) z2u)
 (gRet (z0i c_s (gCons (gV 0) (gCons (gSl (gBin dIx (gV 3) (gC (.int 0))) (gOS (gC (.int 1))) gON) (gCons (gNeg (gC (.int 1))) gNil)))))))
noncomputable def c_h:List D->R D:=fnC 3 4 g_h
end
noncomputable section
end
end L3
namespace L3
open PySem
local macro_rules | `(tactic| walk_at "evs") => wkL " L3.y6f L3.z9q L3.s_on L3.z8e L3.y3e L3.y0g L3.z0z L3.dAbs L3.dInt L3.y9v L3.z4b L3.gZip L3.y9p L3.x2m L3.z6v L3.z9v L3.x2l L3.y8c L3.gRep L3.y9u L3.D.isNon"
theorem z9i:∀xs ys:List Int,zipD (xs.map D.int) (ys.map D.int)=(xs.zip ys).map fun p=>.tup [.int p.1,.int p.2]
 | [],_=>rfl
 | _::_,[]=>rfl
 | x::xs,y::ys=>by simp only[List.map_cons,zipD,List.zip_cons_cons,z9i xs ys]
theorem z4l{f:D->R (Option D)}{h:Int->Int->Int}{xs ys:List Int}(q:∀x∈xs,∀y∈ys,f (.tup [.int x,.int y]) = .ok (some (.int (h x y)))):z0p f (zipD (xs.map D.int) (ys.map D.int)) [] = .ok (((xs.zip ys).map fun p=>h p.1 p.2).map D.int):=by
 rw[z9i,z0s (h:=fun p=>D.int (h p.1 p.2)),z3u]
 intro p hp
 exact q p.1 (List.of_mem_zip hp).1 p.2 (List.of_mem_zip hp).2
theorem z3r(xs ys:List Int):(zipD (xs.map D.int) (ys.map D.int)).length=min xs.length ys.length:=by
 rw[z9i,List.length_map,List.length_zip]
theorem s_s{P c:Int}{r:List Int}(hp:0<P)(hc:z4v c)(hr:r.length<=1000):c_s [.int P,rowD r,.int c] = .ok (rowD (z1b P r c)):=by
 refine z2w rfl ?_
 unfold g_s
 refine z4k ?_
 simp only[z0j]
 walk_at "evs"
 rw[z0s (h:=fun n=>D.int ((c*n)%P)),z3u]
 ·walk_at "evs"
  rfl
 ·intro n hn
  walk_at "evs"
theorem z6z{r:List Int}{p:Nat}(h:p<r.length):atI (r.map D.int) (p:Int)=some (.int (vec r p)):=atD h
theorem s_p{P:Int}{r l:List Int}{p:Nat}(hp:0<P)(hP:P<1000000)(hr:onW P r)(hl:r.length=l.length)(hw:r.length<=1000)(hpp:p<r.length):c_p [.int P,rowD r,rowD l,.int p] = .ok (rowD (z0t P r l p)):=by
 refine z2w rfl ?_
 unfold g_p
 refine z4k ?_
 simp only[z0j]
 have hz:(zipD (r.map D.int) (l.map D.int)).length<=100000:=by rw[z3r];omega
 have n12:=And.intro (z0w r) (z0w l)
 have va:=z6z hpp
 have fv:z4v (vec r p):=y7s (hr.fits (by omega)) p
 walk_at "evs"
 rw[z4l (h:=fun x y=>(x-vec r p*y)%P)]
 ·walk_at "evs"
  rfl
 ·intro x hx y hy
  walk_at "evs"
  simp only[va]
  walk_at "evs"
theorem s_o{P:Int}{left:List (List Int)}{p w:Nat}(hp:z2g P=false)(p1:3<=P)(p2:P<=9973)(hl:∀r∈left,r.length=w/\onW P r)(hpw:p<w)(hw:w<=1000) :
 (c_o [.int P,.lst (left.map rowD),.int p] = .ok .non/\∀r∈left,vec r p=0)∨∃r0 a,r0∈left/\(a*vec r0 p)%P=1/\c_o [.int P,.lst (left.map rowD),.int p] = .ok (rowD (z1b P r0 a)):=by
 have key:(g_o [.ro (.int P),.ro (.lst (left.map rowD)),.ro (.int p),.no] = .ok (.rt .non)/\∀r∈left,vec r p=0)∨∃r0 a,r0∈left/\(a*vec r0 p)%P=1/\g_o [.ro (.int P),.ro (.lst (left.map rowD)),.ro (.int p),.no] = .ok (.rt (rowD (z1b P r0 a))):=by
  unfold g_o
  have loop:∀(l:List (List Int)) (x3:En),(∀r∈l,r∈left) ->
   (∃x3',z2m (gIfS (gT (gBin dNe (gBin dIx (gV 3) (gV 2)) (gC (.int 0)))) (gRet (z0i c_s (gCons (gV 0) (gCons (gV 3) (gCons (z0i c_t (gCons (gV 0) (gCons (gBin dIx (gV 3) (gV 2)) gNil))) gNil))))) z2u) 3 (l.map rowD) [.ro (.int P),.ro (.lst (left.map rowD)),.ro (.int p),x3] = .ok (.nx [.ro (.int P),.ro (.lst (left.map rowD)),.ro (.int p),x3'])/\∀r∈l,vec r p=0) ∨
   ∃r0 a,r0∈left/\(a*vec r0 p)%P=1/\z2m (gIfS (gT (gBin dNe (gBin dIx (gV 3) (gV 2)) (gC (.int 0)))) (gRet (z0i c_s (gCons (gV 0) (gCons (gV 3) (gCons (z0i c_t (gCons (gV 0) (gCons (gBin dIx (gV 3) (gV 2)) gNil))) gNil))))) z2u) 3 (l.map rowD) [.ro (.int P),.ro (.lst (left.map rowD)),.ro (.int p),x3] = .ok (.rt (rowD (z1b P r0 a))):=by
   intro l
   induction l with
   | nil=>intro x3 _;exact .inl ⟨x3,rfl,fun r hr=>by cases hr⟩
   | cons r l ih =>
     intro x3 hs
     obtain⟨h1,h2⟩:=hl r (hs r List.mem_cons_self)
     have va:=z6z (r:=r) (p:=p) (by omega)
     have hv:0<=vec r p/\vec r p<P:=y6p (show 0<P by omega) h2 p
     rw[List.map_cons]
     by_cases hz:vec r p=0
     ·have e:gIfS (gT (gBin dNe (gBin dIx (gV 3) (gV 2)) (gC (.int 0)))) (gRet (z0i c_s (gCons (gV 0) (gCons (gV 3) (gCons (z0i c_t (gCons (gV 0) (gCons (gBin dIx (gV 3) (gV 2)) gNil))) gNil))))) z2u [.ro (.int P),.ro (.lst (left.map rowD)),.ro (.int p),.ro (rowD r)] = .ok (.nx [.ro (.int P),.ro (.lst (left.map rowD)),.ro (.int p),.ro (rowD r)]):=by
       refine y1n ?_
       simp only[z0j]
       walk_at "evs"
       simp only[va]
       walk_at "evs"
       rw[hz];rfl
      rw[z5m]
      simp only[List.set]
      rw[e]
      rcases ih (.ro (rowD r)) (fun r' h'=>hs r' (List.mem_cons_of_mem _ h')) with ⟨x',q1,q2⟩ | q
      ·refine .inl ⟨x',q1,fun r' hr'=>?_⟩
       rcases List.mem_cons.mp hr' with rfl | hr'
       ·exact hz
       ·exact q2 r' hr'
      ·exact .inr q
     ·have hm:vec r p%P≠0:=by rw[Int.emod_eq_of_lt hv.1 hv.2];exact hz
      obtain⟨a,ea,a0,a1,a2⟩:=(s_t (n:=vec r p) hp p1 p2).2 hm
      have et:=s_s (P:=P) (c:=a) (r:=r) (by omega) (z1j (by omega)) (by omega)
      refine .inr ⟨r,a,hs r List.mem_cons_self,a2,?_⟩
      rw[z5m]
      simp only[List.set]
      have e:gIfS (gT (gBin dNe (gBin dIx (gV 3) (gV 2)) (gC (.int 0)))) (gRet (z0i c_s (gCons (gV 0) (gCons (gV 3) (gCons (z0i c_t (gCons (gV 0) (gCons (gBin dIx (gV 3) (gV 2)) gNil))) gNil))))) z2u [.ro (.int P),.ro (.lst (left.map rowD)),.ro (.int p),.ro (rowD r)] = .ok (.rt (rowD (z1b P r a))):=by
       have bz:(!(vec r p==0))=true:=by simp[hz]
       refine z8s ?_ (z4k ?_)
       ·simp only[z0j]
        walk_at "evs"
        simp only[va]
        walk_at "evs"
        rw[bz]
       ·simp only[z0j] at et ⊢
        walk_at "evs"
        simp only[va]
        walk_at "evs"
        simp only[ea]
        walk_at "evs"
        simp only[et]
      rw[e]
  rcases loop left .no (fun r h=>h) with ⟨x',q1,q2⟩ | ⟨r0,a,q1,q2,q3⟩
  ·refine .inl ⟨?_,q2⟩
   exact x0w (ds:=left.map rowD) (by walk_at "evs") q1 (z4k (by walk_at "evs"))
  ·refine .inr ⟨r0,a,q1,q2,y5p (x2c (ds:=left.map rowD) (by walk_at "evs") q3)⟩
 rcases key with ⟨q1,q2⟩ | ⟨r0,a,q1,q2,q3⟩
 ·exact .inl ⟨z2w rfl q1,q2⟩
 ·exact .inr ⟨r0,a,q1,q2,z2w rfl q3⟩
theorem z0m(l:List (List Int)):D.noLs (l.map rowD)=true:=y3w l
theorem s_g{P:Int}{w:Nat}{rows:List (List Int)}(hp:z2g P=false)(p1:3<=P)(p2:P<=9973)(hne:rows≠[])(hr:∀r∈rows,r.length=w)(hw:w<=100)(hn:rows.length<=100) :
 ∃S,c_g [.int P,.lst (rows.map rowD)] = .ok (S.map rowD)/\StepsOf P w rows S:=by
 obtain⟨r0,rest,rfl⟩:∃r0 rest,rows=r0::rest:=by
  cases rows with
  | nil=>exact absurd rfl hne
  | cons a b=>exact⟨a,b,rfl⟩
 generalize hR:r0::rest=rows at *
 have at0:atI (rows.map rowD) 0=some (rowD r0):=by rw[<-hR];exact z1d 0
 have l0:r0.length=w:=hr r0 (by rw[<-hR];exact List.mem_cons_self)
 suffices h:∃S,g_g [.ro (.int P),.ro (.lst (rows.map rowD)),.no,.no,.no,.no] = .ok (.rtF (S.map rowD))/\StepsOf P w rows S by
  obtain⟨S,e,q⟩:=h
  exact⟨S,y4g rfl e,q⟩
 unfold g_g
 have nr:=z0m rows
 have lr:(rows.map rowD).length<=100000:=by rw[List.length_map];omega
 rw[z2e (ds:=(rows.map fun r=>z1b P r 1).map rowD) (by
  walk_at "evs"
  rw[z0s (h:=fun r=>rowD (z1b P r 1)),z1g]
  intro r hrr
  have et:=s_s (P:=P) (c:=1) (r:=r) (by omega) (z1j (by omega)) (by have:=hr r hrr;omega)
  have:=z0z (z1b P r 1)
  walk_at "evs"
  simp only[et]
  walk_at "evs") rfl]
 rw[z2e (ds:=[]) (by walk_at "evs") rfl]
 refine y3k (ds:=z2n 0 w) (fun r=>∃S:List (List Int),r = .ok (.rtF (S.map rowD))/\StepsOf P w rows S) (fun j Γ=>∃(left steps:List (List Int)) (x4 x5:En),Γ=[.ro (.int P),.ro (.lst (rows.map rowD)),.own (left.map rowD),.own (steps.map rowD),x4,x5]/\Gone P w j rows left steps/\left.length<=100/\steps.length<=j) ?_ ⟨_,[],_,_,rfl,y5g (by omega) hr,by rw[List.length_map];exact hn,Nat.le_refl _⟩ ?_ ?_
 ·walk_at "evs"
  simp only[at0]
  simp only[z0j]
  walk_at "evs"
  rw[l0]
  walk_at "evs"
 ·rintro j d Γ hd ⟨left,steps,x4,x5,rfl,gn,ll,ls⟩
  obtain⟨hj,rfl⟩:=z7w hd
  have nl:=z0m left
  have ns:=z0m steps
  have hll:(left.map rowD).length<=100000:=by rw[List.length_map];omega
  have hls:(steps.map rowD).length<=100000:=by rw[List.length_map];omega
  have z0:(0:Int)+(j:Int)=(j:Int):=by omega
  rw[z0]
  rcases s_o (P:=P) (left:=left) (p:=j) (w:=w) hp p1 p2 (fun r hrr=>⟨(gn.lft r hrr).1,(gn.lft r hrr).2.1⟩) hj (by omega) with ⟨e,hz⟩ | ⟨r1,a,h0,ha,e⟩
  ·refine .nx (z1t (d:=.non) (by walk_at "evs";simp only[e];walk_at "evs") (y1n (by walk_at "evs"))) ⟨left,steps,_,_,rfl,gn.skip hz,ll,by omega⟩
  ·have g2:=gn.turn (by omega) hj h0 ha rfl
   have tl:(z1b P r1 a).length=w:=by rw[z2y];exact(gn.lft r1 h0).1
   have nt:=z0z (z1b P r1 a)
   have cl:∀r:List Int,r.length=w->onW P r->c_p [.int P,rowD r,rowD (z1b P r1 a),.int j] = .ok (rowD (z0t P r (z1b P r1 a) j)):=fun r h1 h2=>s_p (by omega) (by omega) h2 (by omega) (by omega) (by omega)
   generalize z1b P r1 a=l at e g2 tl nt cl
   refine .nx (z1t (d:=rowD l) (by walk_at "evs";simp only[e];walk_at "evs") (z8s (by simp only[z0j];walk_at "evs") (z2e (ds:=(left.map fun r=>z0t P r l j).map rowD) ?_ (z2e (ds:=(steps.map fun r=>z0t P r l j).map rowD) ?_ ((x5g (d:=rowD l) rfl (by walk_at "evs") (by rw[List.length_map,List.length_map];omega)).trans rfl))))) ⟨_,(steps.map fun r=>z0t P r l j)++[l],_,_,by rw[List.map_append];rfl,g2,by rw[List.length_map];exact ll,by rw[List.length_append,List.length_map,List.length_singleton];omega⟩
   ·walk_at "evs"
    rw[z0s (h:=fun r=>rowD (z0t P r l j)),z1g]
    intro r hrr
    have ec:=cl r (gn.lft r hrr).1 (gn.lft r hrr).2.1
    have:=z0z (z0t P r l j)
    walk_at "evs"
    simp only[ec]
    walk_at "evs"
   ·walk_at "evs"
    rw[z0s (h:=fun r=>rowD (z0t P r l j)),z1g]
    intro r hrr
    have ec:=cl r (gn.step r hrr).1 (gn.step r hrr).2.1
    have:=z0z (z0t P r l j)
    walk_at "evs"
    simp only[ec]
    walk_at "evs"
 ·rintro Γ ⟨left,steps,x4,x5,rfl,gn,ll,ls⟩
  rw[z0y] at gn
  exact⟨steps,x0m rfl,gn.end⟩
noncomputable def z0v(rows:List (List Int))(k:Nat):List Int:=(rows[k]?).getD []
noncomputable def sumW(rows:List (List Int))(c:Nat->Int)(i:Nat):Int:=sumN (fun k=>c k*vec (z0v rows k) i) rows.length
noncomputable def z4d(rows:List (List Int)):List (List Int):=(List.range rows.length).map fun k=>z0v rows k++z4f rows.length k
section
variable {P:Int}{w:Nat}{rows:List (List Int)}
theorem z1y{k:Nat}(h:k<rows.length):z0v rows k∈rows:=by
 unfold z0v;rw[List.getElem?_eq_getElem h];exact List.getElem_mem h
theorem y7a{k i:Nat}(hr:∀r∈rows,r.length=w)(hk:k<rows.length)(hi:i<w):vec (z0v rows k++z4f rows.length k) i=vec (z0v rows k) i:=by
 unfold vec
 rw[List.getElem?_append_left (by rw[hr _ (z1y hk)];exact hi)]
theorem y7b{k j:Nat}(hr:∀r∈rows,r.length=w)(hk:k<rows.length)(hj:j<rows.length):vec (z0v rows k++z4f rows.length k) (w+j)=if j=k then 1 else 0:=by
 have hl:=hr _ (z1y hk)
 unfold vec
 rw[List.getElem?_append_right (by omega),hl,show w+j-w=j by omega]
 exact y8q hj
theorem y3o(c d:Nat->Int)(i:Nat):sumW rows (fun k=>c k+d k) i=sumW rows c i+sumW rows d i:=by
 unfold sumW
 rw[<-z6c]
 exact z1f fun k _=>Int.add_mul _ _ _
theorem z9m(a:Int)(c:Nat->Int)(i:Nat):sumW rows (fun k=>a*c k) i=a*sumW rows c i:=by
 unfold sumW
 rw[<-z4g]
 exact z1f fun k _=>Int.mul_assoc _ _ _
theorem y2i{c d:Nat->Int}(h:∀k,k<rows.length->cg P (c k) (d k))(i:Nat):cg P (sumW rows c i) (sumW rows d i):=cg.sumN fun k hk=>(h k hk).mul cg.refl
theorem y3n{j:Nat}(hj:j<rows.length)(i:Nat):sumW rows (fun k=>if k=j then 1 else 0) i=vec (z0v rows j) i:=by
 unfold sumW
 rw[z3s hj fun k _ hk=>by show(if k=j then (1:Int) else 0)*_=0;rw[if_neg hk,Int.zero_mul]]
 show(if j=j then (1:Int) else 0)*_=_
 rw[if_pos rfl,Int.one_mul]
theorem y6z{v:Nat->Int}(hr:∀r∈rows,r.length=w)(h:Span P (z4d rows) v):∀i,i<w->cg P (v i) (sumW rows (fun k=>v (w+k)) i):=by
 induction h with
 | zero z =>
   intro i hi
   refine(z i).trans (cg.symm ?_)
   have:cg P (sumW rows (fun k=>_) i) (sumW rows (fun _=>0) i):=y2i (d:=fun _=>0) (fun k _=>z (w+k)) i
   refine this.trans (cg.of_eq ?_)
   unfold sumW
   exact z5b fun k _=>Int.zero_mul _
 | @add u v' c r hm hu q ih =>
   intro i hi
   obtain⟨j,hj,rfl⟩:=List.mem_map.mp hm
   have hj':=List.mem_range.mp hj
   have e1:cg P (sumW rows (fun k=>v' (w+k)) i) (sumW rows (fun k=>u (w+k)+c*(if k=j then 1 else 0)) i):=y2i (fun k hk=>by
    have:=q (w+k)
    rw[y7b hr hj' hk] at this
    exact this) i
   rw[y3o,z9m,y3n hj'] at e1
   refine(q i).trans (((ih i hi).add ?_).trans e1.symm)
   rw[y7a hr hj' hi]
   exact cg.refl
theorem z9n{S:List (List Int)}(c:Nat->Int):∀n,n<=S.length->Span P S (fun i=>sumN (fun k=>c k*vec (z0v S k) i) n)
 | 0,_=>.zero fun _=>cg.refl
 | n+1,h=>.add (c:=c n) (z1y (by omega)) (z9n c n (by omega)) fun i=>cg.refl
theorem z6e{S:List (List Int)}(a:List Int->Int):∀l:List (List Int),(∀r∈l,r∈S)->Span P S (fun i=>(l.map fun r=>a r*vec r i).sum)
 | [],_=>.zero fun _=>cg.refl
 | r::l,h=>.add (c:=a r) (h r List.mem_cons_self) (z6e a l fun b hb=>h b (List.mem_cons_of_mem _ hb)) fun i=>cg.of_eq (by simp only[List.map_cons,List.sum_cons];omega)
theorem z8v{f:List Int->Int}{q:List Int->Bool}:∀{l:List (List Int)},(∀r∈l,q r=false->cg P (f r) 0)->cg P (l.map f).sum ((l.filter q).map f).sum
 | [],_=>cg.refl
 | r::l,h=>by
   have ih:=z8v (l:=l) fun b hb=>h b (List.mem_cons_of_mem _ hb)
   rw[List.map_cons,List.sum_cons]
   cases e:q r with
   | true=>rw[List.filter_cons_of_pos e,List.map_cons,List.sum_cons];exact cg.refl.add ih
   | false =>
     rw[List.filter_cons_of_neg (by rw[e];exact Bool.false_ne_true)]
     have:=(h r List.mem_cons_self e).add ih
     rw[Int.zero_add] at this
     exact this
theorem z4m(r:List Int)(w k:Nat):vec (r.drop w) k=vec r (w+k):=by unfold vec;rw[List.getElem?_drop]
theorem y5y{S:List (List Int)}{v:Nat->Int}(h:Span P S v):Span P (S.map fun r=>r.drop w) (fun k=>v (w+k)):=by
 induction h with
 | zero z=>exact .zero fun k=>z (w+k)
 | @add u v' c r hm hu q ih=>exact .add (c:=c) (List.mem_map.mpr ⟨r,hm,rfl⟩) ih fun k=>by rw[z4m];exact q (w+k)
theorem z8d{r:List Int}(h:w<=z0f r)(hl:z0f r<r.length):z0f (r.drop w)=z0f r-w:=by
 refine y2x (fun i hi=>?_) ?_
 ·rw[z4m];exact z2d (by omega)
 ·rw[z4m,show w+(z0f r-w)=z0f r by omega];exact y2y hl
structure IdleOf (P:Int) (rows T:List (List Int)):Prop where
 steps:Steps P rows.length T
 idle:∀t∈T,∀i,cg P (sumW rows (vec t) i) 0
 all:∀c:Nat->Int,(∀i,cg P (sumW rows c i) 0)->Span P T (fun k=>if k<rows.length then c k else 0)
noncomputable def lowS(w:Nat)(S:List (List Int)):List (List Int):=(S.filter fun r=>decide (w<=z0f r)).map fun r=>r.drop w
theorem y7k{S:List (List Int)}(hr:∀r∈rows,r.length=w)(hS:StepsOf P (w+rows.length) (z4d rows) S):IdleOf P rows (lowS w S):=by
 have hrow:=hS.steps.row
 refine⟨⟨fun t ht=>?_,?_⟩,fun t ht i=>?_,fun c hc=>?_⟩
 ·obtain⟨r,hr',rfl⟩:=List.mem_map.mp ht
  obtain⟨hm,hd⟩:=List.mem_filter.mp hr'
  have hd:=of_decide_eq_true hd
  obtain⟨h1,h2,h3,h4⟩:=hrow r hm
  have el:=z8d hd (by omega)
  refine⟨by rw[List.length_drop];omega,fun n hn=>h2 n (List.mem_of_mem_drop hn),by rw[el];omega,?_⟩
  rw[el,z4m,show w+(z0f r-w)=z0f r by omega];exact h4
 ·refine List.pairwise_map.mpr ((hS.steps.pair.sublist List.filter_sublist).imp_of_mem fun {r r'} hm hm' q=>?_)
  obtain⟨m1,d1⟩:=List.mem_filter.mp hm
  obtain⟨m2,d2⟩:=List.mem_filter.mp hm'
  have d1:=of_decide_eq_true d1
  have d2:=of_decide_eq_true d2
  have e1:=z8d d1 (by have:=hrow r m1;omega)
  have e2:=z8d d2 (by have:=hrow r' m2;omega)
  rw[e1,e2,z4m,show w+(z0f r'-w)=z0f r' by omega]
  exact⟨by omega,q.2⟩
 ·obtain⟨r,hr',rfl⟩:=List.mem_map.mp ht
  obtain⟨hm,hd⟩:=List.mem_filter.mp hr'
  have hd:=of_decide_eq_true hd
  have sp:=hS.ofS r hm
  rcases Nat.lt_or_ge i w with z | z
  ·have:=y6z hr sp i z
   rw[z2d (by omega)] at this
   have e:sumW rows (vec (r.drop w)) i=sumW rows (fun k=>vec r (w+k)) i:=by unfold sumW;exact z1f fun k _=>by rw[z4m]
   rw[e]
   exact this.symm
  ·refine cg.of_eq ?_
   unfold sumW
   refine z5b fun k hk=>?_
   rw[show vec (z0v rows k) i=0 by unfold vec;rw[List.getElem?_eq_none (by rw[hr _ (z1y hk)];exact z)];rfl,Int.mul_zero]
 ·have lm:(z4d rows).length=rows.length:=by unfold z4d;simp
  have sp:Span P (z4d rows) (fun i=>if i<w then 0 else if i-w<rows.length then c (i-w) else 0):=by
   refine(z9n (S:=z4d rows) c rows.length (by omega)).cong fun i=>?_
   have ra:∀k,k<rows.length->z0v (z4d rows) k=z0v rows k++z4f rows.length k:=fun k hk=>by
    unfold z4d z0v
    rw[List.getElem?_map,List.getElem?_range hk]
    rfl
   rcases Nat.lt_or_ge i w with z | z
   ·rw[if_pos z]
    refine cg.symm ?_
    rw[z1f (g:=fun k=>c k*vec (z0v rows k) i) fun k hk=>by rw[ra k hk,y7a hr hk z]]
    exact hc i
   ·rw[if_neg (by omega)]
    by_cases hk:i-w<rows.length
    ·rw[if_pos hk,z1f (g:=fun k=>c k*(if i-w=k then 1 else 0)) fun k hk'=>by
      rw[ra k hk',show i=w+(i-w) by omega,y7b hr hk' hk,show w+(i-w)-w=i-w by omega]]
     rw[z3s hk fun k _ hne=>by rw[if_neg (Ne.symm hne),Int.mul_zero],if_pos rfl,Int.mul_one]
     exact cg.refl
    ·rw[if_neg hk]
     refine cg.of_eq (Eq.symm (z5b fun k hk'=>?_))
     rw[ra k hk']
     have:vec (z0v rows k++z4f rows.length k) i=0:=by
      unfold vec
      rw[List.getElem?_eq_none (by rw[List.length_append,z3d,hr _ (z1y hk')];omega)];rfl
     rw[this,Int.mul_zero]
  have s1:=hS.span sp
  have s2:Span P (S.filter fun r=>decide (w<=z0f r)) (fun i=>if i<w then 0 else if i-w<rows.length then c (i-w) else 0):=by
   refine(z6e (S:=S.filter fun r=>decide (w<=z0f r)) (fun r=>(fun i=>if i<w then 0 else if i-w<rows.length then c (i-w) else 0) (z0f r)) (S.filter fun r=>decide (w<=z0f r)) fun r h=>h).cong fun i=>?_
   refine(z6o hS.steps s1 i).trans (z8v fun r _ hq=>?_)
   have hq:=of_decide_eq_false hq
   show cg P ((if z0f r<w then 0 else _)*_) 0
   rw[if_pos (by omega),Int.zero_mul]
   exact cg.refl
  refine(y5y (w:=w) s2).cong fun k=>cg.of_eq ?_
  have e:(if w+k<w then (0:Int) else if w+k-w<rows.length then c (w+k-w) else 0)=if k<rows.length then c k else 0:=by
   rw[if_neg (show ¬w+k<w by omega),show w+k-w=k by omega]
  exact e.symm
end
theorem z8j:∀(rows:List (List Int)) (k:Nat),z6w k (rows.map rowD)=(List.range rows.length).map fun i=>.tup [.int ((k+i:Nat):Int),rowD (z0v rows i)]
 | [],_=>rfl
 | r::rows,k=>by
   rw[List.map_cons,z6w,z8j rows (k+1),List.length_cons,List.range_succ_eq_map,List.map_cons,List.map_map]
   congr 1
   refine List.map_congr_left fun i _=>?_
   show D.tup [.int ((k+1+i:Nat):Int),rowD (z0v rows i)] = .tup [.int ((k+(i+1):Nat):Int),rowD (z0v (r::rows) (i+1))]
   rw[show k+1+i=k+(i+1) by omega]
   rfl
theorem y4o{r:List Int}{w:Nat}(hw:w<=r.length):((r.take w).any fun n=>n != 0)=!decide (w<=z0f r):=by
 by_cases h:w<=z0f r
 ·rw[decide_eq_true h]
  refine List.any_eq_false.mpr fun x hx=>?_
  obtain⟨i,hi⟩:=List.getElem?_of_mem hx
  have hlt:=(List.getElem?_eq_some_iff.mp hi).1
  rw[List.length_take] at hlt
  rw[List.getElem?_take_of_lt (by omega)] at hi
  have:=z2d (r:=r) (i:=i) (by omega)
  unfold vec at this
  rw[hi] at this
  have:x=0:=this
  simp[this]
 ·rw[decide_eq_false h]
  have hl:z0f r<r.length:=by omega
  refine List.any_eq_true.mpr ⟨r[z0f r],?_,?_⟩
  ·refine List.mem_of_getElem? (i:=z0f r) ?_
   rw[List.getElem?_take_of_lt (by omega)];exact List.getElem?_eq_getElem hl
  ·have:=y2y hl
   unfold vec at this
   rw[List.getElem?_eq_getElem hl] at this
   have:r[z0f r]≠0:=this
   simpa using this
theorem z5y{α:Type}{f:D->R (Option D)}{k h:α->D}{q:α->Bool}{l:List α}(hq:∀x∈l,f (k x) = .ok (if q x=true then some (h x) else none)):z0p f (l.map k) [] = .ok ((l.filter q).map h):=by
 suffices H:∀(l:List α) (acc:List D),(∀x∈l,f (k x) = .ok (if q x=true then some (h x) else none))->z0p f (l.map k) acc = .ok (acc++(l.filter q).map h) by
  have:=H l [] hq;simpa using this
 intro l
 induction l with
 | nil=>intro acc _;simp[z0p]
 | cons x l ih =>
   intro acc hx
   rw[List.map_cons]
   unfold z0p
   rw[hx x List.mem_cons_self]
   cases e:q x with
   | true =>
     simp only[if_true]
     rw[ih _ fun y hy=>hx y (List.mem_cons_of_mem _ hy),List.filter_cons_of_pos e]
     simp
   | false =>
     simp only[Bool.false_eq_true,if_false]
     rw[ih _ fun y hy=>hx y (List.mem_cons_of_mem _ hy),List.filter_cons_of_neg (by rw[e];exact Bool.false_ne_true)]
theorem s_m{P:Int}{w:Nat}{rows:List (List Int)}(hp:z2g P=false)(p1:3<=P)(p2:P<=9973)(hne:rows≠[])(hr:∀r∈rows,r.length=w)(hw:w<=50)(hn:rows.length<=50) :
 ∃S,StepsOf P (w+rows.length) (z4d rows) S/\c_m [.int P,.lst (rows.map rowD)] = .ok ((lowS w S).map rowD):=by
 obtain⟨r0,rest,e0⟩:∃r0 rest,rows=r0::rest:=by
  cases rows with
  | nil=>exact absurd rfl hne
  | cons a b=>exact⟨a,b,rfl⟩
 have at0:atI (rows.map rowD) 0=some (rowD r0):=by rw[e0];exact z1d 0
 have l0:r0.length=w:=hr r0 (by rw[e0];exact List.mem_cons_self)
 have lm:(z4d rows).length=rows.length:=by unfold z4d;simp
 have hm:∀r∈z4d rows,r.length=w+rows.length:=fun r hr'=>by
  obtain⟨k,hk,rfl⟩:=List.mem_map.mp hr'
  rw[List.length_append,z3d,hr _ (z1y (List.mem_range.mp hk))]
 obtain⟨S,eS,hS⟩:=s_g (P:=P) (rows:=z4d rows) hp p1 p2 (by intro z;rw[z] at lm;have:=congrArg List.length e0;simp at this lm;omega) hm (by omega) (by omega)
 refine⟨S,hS,y4g rfl ?_⟩
 unfold g_m
 have nr:=z0m rows
 have nS:=z0m S
 refine z1t (d:=.int w) (by
  walk_at "evs"
  simp only[at0]
  simp only[z0j]
  walk_at "evs"
  rw[l0]) ?_
 refine z2e (ds:=(z4d rows).map rowD) ?_ ?_
 ·walk_at "evs"
  have le:(z6w 0 (rows.map rowD)).length<=100000:=by rw[z8j,List.length_map,List.length_range];omega
  walk_at "evs"
  rw[z8j,z0s (h:=fun k=>rowD (z0v rows k++z4f rows.length k)),z1g]
  ·rfl
  ·intro k hk
   have hk:=List.mem_range.mp hk
   have eo:=s_r (n:=rows.length) (x:=k) (by omega)
   have lk:=hr _ (z1y hk)
   have nn:=z0z (z0v rows k++z4f rows.length k)
   have ul:=z3d rows.length k
   have em:(z0v rows k).map D.int++(z4f rows.length k).map D.int=(z0v rows k++z4f rows.length k).map D.int:=by rw[List.map_append]
   simp only[z0j] at eo nn ⊢
   rw[show 0+k=k by omega]
   walk_at "evs"
   simp only[eo]
   walk_at "evs"
   rw[em]
   walk_at "evs"
 ·have lS:S.length<=100000:=by
   have hinc:(S.map z0f).Pairwise (·<·):=List.pairwise_map.mpr (hS.steps.pair.imp fun q=>q.1)
   have:∀(l:List Nat) (b:Nat),l.Pairwise (·<·)->(∀x∈l,b<=x/\x<w+rows.length)->b<=w+rows.length->l.length+b<=w+rows.length:=by
    intro l
    induction l with
    | nil=>intro b _ _ hb;simpa using hb
    | cons x l ih =>
      intro b hpw hx hb
      obtain⟨h1,h2⟩:=List.pairwise_cons.mp hpw
      have hx0:=hx x List.mem_cons_self
      have:=ih (x+1) h2 (fun y hy=>⟨h1 y hy,(hx y (List.mem_cons_of_mem _ hy)).2⟩) (by omega)
      rw[List.length_cons];omega
   have:=this (S.map z0f) 0 hinc (fun x hx=>by
    obtain⟨r,hr',rfl⟩:=List.mem_map.mp hx
    exact⟨Nat.zero_le _,(hS.steps.row r hr').2.2.1⟩) (Nat.zero_le _)
   rw[List.length_map] at this
   omega
  refine x0n ?_
  have hSl:(S.map rowD).length<=100000:=by rw[List.length_map];exact lS
  walk_at "evs"
  simp only[eS]
  walk_at "evs"
  rw[z5y (q:=fun r=>decide (w<=z0f r)) (h:=fun r=>rowD (r.drop w))]
  ·unfold lowS
   rw[z1g]
  ·intro r hr'
   have lr:=(hS.steps.row r hr').1
   have ah:=y4o (r:=r) (w:=w) (by omega)
   have nd:=z0z (r.drop w)
   simp only[z0j] at nd ⊢
   rw[List.map_drop] at nd ⊢
   walk_at "evs"
   rw[y8d,z8m,<-List.map_take]
   walk_at "evs"
   rw[ah]
   cases hd:decide (w<=z0f r) with
   | true=>walk_at "evs"
   | false=>walk_at "evs"
noncomputable def addZ(P:Int)(r l:List Int)(c:Int):List Int:=(r.zip l).map fun x=>(x.1+c*x.2)%P
section
variable {P c:Int}{r l:List Int}{w:Nat}
theorem x1a{f:Int->Int->Int}(h0:f 0 0=0)(hl:r.length=l.length)(i:Nat):vec ((r.zip l).map fun x=>f x.1 x.2) i=f (vec r i) (vec l i):=by
 show(((r.zip l).map fun x=>f x.1 x.2)[i]?).getD 0=_
 rw[List.getElem?_map]
 by_cases h:i<r.length
 ·rw[List.getElem?_eq_getElem (by rw[List.length_zip];omega),List.getElem_zip]
  show f r[i] l[i]=_
  rw[show vec r i=r[i] by unfold vec;rw[List.getElem?_eq_getElem h];rfl,show vec l i=l[i]'(by omega) by unfold vec;rw[List.getElem?_eq_getElem (by omega)];rfl]
 ·rw[List.getElem?_eq_none (by rw[List.length_zip];omega),show vec r i=0 by unfold vec;rw[List.getElem?_eq_none (by omega)];rfl,show vec l i=0 by unfold vec;rw[List.getElem?_eq_none (by omega)];rfl]
  exact h0.symm
theorem x0c(hl:r.length=l.length)(i:Nat):vec (addZ P r l c) i=(vec r i+c*vec l i)%P:=x1a (f:=fun x y=>(x+c*y)%P) (by simp) hl i
theorem x2u(hp:0<P)(hl:r.length=l.length):(addZ P r l c).length=r.length/\onW P (addZ P r l c):=by
 refine⟨by unfold addZ;simp;omega,fun n hn=>?_⟩
 obtain⟨x,_,rfl⟩:=List.mem_map.mp hn
 exact⟨z4x hp,z4y hp⟩
end
theorem z9c{gb:G->R Fl}{i j:Nat}(I:Nat->G->Prop):∀{xs ys:List D} {k:Nat} {Γ:G},I k Γ->(∀(m:Nat) (a b:D) (Γ:G),xs[m]? = some a->ys[m]? = some b->I (k+m) Γ->∃Γ',gb ((Γ.set i (.ro a)).set j (.ro b)) = .ok (.nx Γ')/\I (k+m+1) Γ')->∃Γ',z2p gb i j (zipD xs ys) Γ = .ok (.nx Γ')/\I (k+min xs.length ys.length) Γ'
 | [],ys,k,Γ,h,_=>⟨Γ,by simp[zipD,z2p],by simpa using h⟩
 | a::xs,[],k,Γ,h,_=>⟨Γ,by simp[zipD,z2p],by simpa using h⟩
 | a::xs,b::ys,k,Γ,h,q=>by
   obtain⟨Γ1,e1,h1⟩:=q 0 a b Γ rfl rfl h
   obtain⟨Γ2,e2,h2⟩:=z9c (gb:=gb) (i:=i) (j:=j) I (xs:=xs) (ys:=ys) (k:=k+1) (Γ:=Γ1) h1 fun m a' b' Γ' ha hb hI=>by
    have:=q (m+1) a' b' Γ' (by simpa using ha) (by simpa using hb) (by rw[show k+(m+1)=k+1+m by omega];exact hI)
    rw[show k+(m+1)+1=k+1+m+1 by omega] at this
    exact this
   refine⟨Γ2,?_,?_⟩
   ·rw[zipD,z2p,e1]
    exact e2
   ·rw[List.length_cons,List.length_cons,Nat.add_min_add_right]
    rw[show k+(min xs.length ys.length+1)=k+1+min xs.length ys.length by omega]
    exact h2
theorem z6q(f:Nat->Int):∀n,sumN f (n+1)=f 0+sumN (fun k=>f (k+1)) n
 | 0=>by simp[sumN]
 | n+1=>by rw[z1x,z6q f n,z1x];omega
theorem y0o(g:List Int)(rows:List (List Int))(c:Nat->Int)(i:Nat):sumW (g::rows) c i=c 0*vec g i+sumW rows (fun k=>c (k+1)) i:=by
 unfold sumW
 rw[List.length_cons,z6q]
 rfl
section
variable {P:Int}{w:Nat}{rows:List (List Int)}
theorem y0s{v:Nat->Int}(h:Span P rows v):∃c:Nat->Int,∀i,cg P (v i) (sumW rows c i):=by
 induction h with
 | zero z=>exact⟨fun _=>0,fun i=>(z i).trans (cg.of_eq (by unfold sumW;rw[z5b fun k _=>Int.zero_mul _]))⟩
 | @add u v' c0 r hm hu q ih =>
   obtain⟨c,hc⟩:=ih
   obtain⟨j,hj⟩:=List.getElem?_of_mem hm
   have hj':=(List.getElem?_eq_some_iff.mp hj).1
   have er:z0v rows j=r:=by unfold z0v;rw[hj];rfl
   refine⟨fun k=>c k+c0*(if k=j then 1 else 0),fun i=>?_⟩
   rw[y3o,z9m,y3n hj',er]
   exact(q i).trans ((hc i).add cg.refl)
theorem y0r{T:List (List Int)}(hT:Steps P w T):T.length<=w:=by
 have hinc:(T.map z0f).Pairwise (·<·):=List.pairwise_map.mpr (hT.pair.imp fun q=>q.1)
 have:∀(l:List Nat) (b:Nat),l.Pairwise (·<·)->(∀x∈l,b<=x/\x<w)->b<=w->l.length+b<=w:=by
  intro l
  induction l with
  | nil=>intro b _ _ hb;simpa using hb
  | cons x l ih =>
    intro b hpw hx hb
    obtain⟨h1,h2⟩:=List.pairwise_cons.mp hpw
    have hx0:=hx x List.mem_cons_self
    have:=ih (x+1) h2 (fun y hy=>⟨h1 y hy,(hx y (List.mem_cons_of_mem _ hy)).2⟩) (by omega)
    rw[List.length_cons];omega
 have:=this (T.map z0f) 0 hinc (fun x hx=>by
  obtain⟨r,hr',rfl⟩:=List.mem_map.mp hx
  exact⟨Nat.zero_le _,(hT.row r hr').2.2.1⟩) (Nat.zero_le _)
 rw[List.length_map] at this
 omega
theorem y5i{g:List Int}{T:List (List Int)}(hp:1<P)(hT:IdleOf P (g::rows) T)(sp:Span P rows (vec g)):∃t0 T',T=t0::T'/\vec t0 0=1:=by
 obtain⟨c,hc⟩:=y0s sp
 have hd:∀i,cg P (sumW (g::rows) (fun k=>if k=0 then -1 else c (k-1)) i) 0:=fun i=>by
  rw[y0o]
  have e:sumW rows (fun k=>(fun k=>if k=0 then -1 else c (k-1)) (k+1)) i=sumW rows c i:=by
   unfold sumW
   exact z1f fun k _=>by show(if k+1=0 then (-1:Int) else c (k+1-1))*_=_;rw[if_neg (by omega)];rfl
  rw[e,if_pos rfl]
  have:=(cg.refl (P:=P) (a:=-1*vec g i)).add (hc i).symm
  refine this.trans (cg.of_eq ?_)
  omega
 have s1:=hT.all _ hd
 obtain⟨r,hr,hz⟩:=z9d hT.steps s1 (p:=0) (fun i hi=>by omega) (by
  intro z
  rw[if_pos (by simp),if_pos rfl] at z
  have:=z.neg
  exact y6u hp (by simpa using this))
 cases T with
 | nil=>cases hr
 | cons t0 T' =>
   refine⟨t0,T',rfl,?_⟩
   obtain⟨h1,h2⟩:=List.pairwise_cons.mp hT.steps.pair
   rcases List.mem_cons.mp hr with rfl | hr'
   ·rw[<-hz];exact(hT.steps.row _ List.mem_cons_self).2.2.2
   ·have:=(h1 r hr').1;omega
theorem y4p{g t:List Int}(h:∀i,cg P (sumW (g::rows) (vec t) i) 0)(h0:vec t 0=1):∀i,cg P (vec g i) (sumW rows (vec (z1b P (t.drop 1) (-1))) i):=fun i=>by
 have e:=h i
 rw[y0o,h0,Int.one_mul] at e
 have e2:cg P (sumW rows (vec (z1b P (t.drop 1) (-1))) i) (sumW rows (fun k=>-1*vec t (k+1)) i):=y2i (fun k _=>by rw[z3p,z4m,Nat.add_comm 1 k];exact z3j) i
 rw[z9m] at e2
 have:=(e.add (cg.refl (a:=-1*sumW rows (fun k=>vec t (k+1)) i)))
 refine(cg.of_eq ?_).trans (this.trans ((cg.of_eq ?_).trans e2.symm))
 ·omega
 ·omega
end
theorem s_h{P:Int}{w:Nat}{rows:List (List Int)}{g:List Int}(hp:z2g P=false)(p1:3<=P)(p2:P<=9973)(hr:∀r∈rows,r.length=w)(hg:g.length=w)(hw:w<=40)(hn:rows.length<=40) :
 (∃ws:List Int,c_h [.int P,.lst (rows.map rowD),rowD g] = .ok (rowD ws)/\ws.length=rows.length/\onW P ws/\∀i,cg P (vec g i) (sumW rows (vec ws) i))∨(c_h [.int P,.lst (rows.map rowD),rowD g] = .ok .non/\¬Span P rows (vec g)):=by
 have p0:1<P:=by omega
 have hr':∀r∈g::rows,r.length=w:=fun r h=>(List.mem_cons.mp h).elim (fun z=>by rw[z];exact hg) (hr r)
 obtain⟨S,hS,eS⟩:=s_m (P:=P) (rows:=g::rows) hp p1 p2 (by simp) hr' (by omega) (by simp;omega)
 have hT:=y7k hr' hS
 generalize lowS w S=T at eS hT
 have nr:=z0m rows
 have nT:=z0m T
 have n1:D.noLs [rowD g]=true:=y3w [g]
 have start:∀u r,u [.ro (.int P),.ro (.lst (rows.map rowD)),.ro (rowD g),.own (T.map rowD)]=r->gSt (z2i 3 (z3x c_m (gCons (gV 0) (gCons (gL (gCat (gLst (gCons (gV 2) gNil)) (z5h (gV 1)))) gNil)))) u [.ro (.int P),.ro (.lst (rows.map rowD)),.ro (rowD g),.no]=r:=fun u r h=>by
  refine z2e (ds:=T.map rowD) ?_ h
  have ll:1+rows.length<=1000:=by omega
  simp only[List.map_cons] at eS
  walk_at "evs"
  try simp only[List.cons_append,List.nil_append,eS]
  walk_at "evs"
 by_cases hc:∃t0 T',T=t0::T'/\vec t0 0=1
 ·obtain⟨t0,T',rfl,h0⟩:=hc
  obtain⟨h1,h2,h3,h4⟩:=hT.steps.row t0 List.mem_cons_self
  rw[List.length_cons] at h1
  have at0:atI (rowD t0::T'.map rowD) 0=some (rowD t0):=z1d 0
  have va:=z6z (r:=t0) (p:=0) (by omega)
  rw[h0] at va
  have va0:atI (t0.map D.int) (0:Int)=some (.int 1):=va
  have et:=s_s (P:=P) (c:=-1) (r:=t0.drop 1) (by omega) (z1j (by omega)) (by rw[List.length_drop];omega)
  refine .inl ⟨z1b P (t0.drop 1) (-1),z2w rfl ?_,by rw[z2y,List.length_drop];omega,z6b (by omega),y4p (hT.idle t0 List.mem_cons_self) h0⟩
  unfold g_h
  refine start _ _ (z3h ?_ (z4k ?_))
  ·walk_at "evs"
   try simp only[at0]
   simp only[z0j,List.isEmpty_cons]
   walk_at "evs"
   simp only[va0]
   walk_at "evs"
   try rfl
  ·have e1:cutL (t0.map D.int) (some 1) none=(t0.drop 1).map D.int:=by
    have:=z8m (t0.map D.int) 1
    rw[<-List.map_drop] at this
    exact this
   simp only[z0j] at et ⊢
   walk_at "evs"
   try simp only[at0]
   try simp only[z0j]
   walk_at "evs"
   rw[e1]
   walk_at "evs"
   try simp only[et]
 ·refine .inr ⟨z2w rfl ?_,fun sp=>hc (y5i p0 hT sp)⟩
  unfold g_h
  refine start _ _ (y5p (z8s ?_ (z4k (by walk_at "evs"))))
  cases T with
  | nil=>walk_at "evs";rfl
  | cons t0 T' =>
    obtain⟨h1,h2,h3,h4⟩:=hT.steps.row t0 List.mem_cons_self
    rw[List.length_cons] at h1
    have at0:atI (rowD t0::T'.map rowD) 0=some (rowD t0):=z1d 0
    have va:=z6z (r:=t0) (p:=0) (by omega)
    have h0:vec t0 0=0:=by
     rcases Nat.eq_zero_or_pos (z0f t0) with z | z
     ·exact absurd ⟨t0,T',rfl,by rw[<-z];exact h4⟩ hc
     ·exact z2d z
    rw[h0] at va
    have va0:atI (t0.map D.int) (0:Int)=some (.int 0):=va
    walk_at "evs"
    try simp only[at0]
    simp only[z0j,List.isEmpty_cons]
    walk_at "evs"
    simp only[va0]
    walk_at "evs"
    try rfl
noncomputable section
noncomputable def g_a:G->R Fl :=
 (gRet (z0i c_on (gCons (gV 0) (gCons (z0i dSum (gCons (gL (z4b (gZip (gV 1) (gV 2)) (z6v (gNL (gBin dMul (gV 0) (gV 1)))))) gNil)) gNil))))
noncomputable def c_a:List D->R D:=fnC 3 3 g_a
noncomputable def g_c:G->R Fl :=
 (gSt (z2i 3 (z2j (z6m (z0i dLen (gCons (gV 2) gNil))) (fElt (gNL (z0i z3f (gCons (gL (z2j (z5g (gV 2)) (fElt (gNL (gBin dIx (gV 0) (gV 1)))))) gNil))))))
 (gSt (gFor 4 (gSeq (gL (z3x c_m (gCons (gV 0) (gCons (gV 3) gNil)))))
 (gSt (gSet 5 (gNL (z0i c_a (gCons (gV 0) (gCons (gV 4) (gCons (gV 2) gNil))))))
 (gIfS (gT (gBin dNe (gV 5) (gC (.int 0)))) (gRet (z0i c_s (gCons (gV 0) (gCons (gV 4) (gCons (z0i c_t (gCons (gV 0) (gCons (gV 5) gNil))) gNil))))) z2u)))
 (gRet (gC .non))))
noncomputable def c_c:List D->R D:=fnC 3 6 g_c
noncomputable def g_q:G->R Fl :=
 (gSt (gSet 3 (gNL (z0i c_h (gCons (gV 0) (gCons (gV 1) (gCons (gV 2) gNil))))))
 (gSt (gIfS (gT (gBin y9u (gV 3) (gC .non))) (gRet (gTup (gCons (gC (.str "sum")) (gCons (gV 3) gNil)))) z2u)
 (gRet (gTup (gCons (gC (.str "shut")) (gCons (z0i c_c (gCons (gV 0) (gCons (gV 1) (gCons (gV 2) gNil)))) gNil))))))
noncomputable def c_q:List D->R D:=fnC 3 4 g_q
end
section
variable {P:Int}{w:Nat}{rows S:List (List Int)}
end
theorem z9b{gb:G->R Fl}{i:Nat}{I:G->Prop}{A B:D->Prop}:∀{ds:List D} {Γ:G},I Γ->(∀d∈ds,∀Γ,I Γ->(A d/\∃Γ',gb (Γ.set i (.ro d)) = .ok (.nx Γ')/\I Γ')∨∃v,gb (Γ.set i (.ro d)) = .ok (.rt v)/\B v)->((∃Γ',z2m gb i ds Γ = .ok (.nx Γ')/\I Γ')/\∀d∈ds,A d)∨∃v,z2m gb i ds Γ = .ok (.rt v)/\B v
 | [],Γ,h,_=>.inl ⟨⟨Γ,rfl,h⟩,fun d hd=>by cases hd⟩
 | d::ds,Γ,h,q=>by
   rw[z5m]
   rcases q d List.mem_cons_self Γ h with ⟨ha,Γ',e,h'⟩ | ⟨v,e,h'⟩
   ·rw[e]
    rcases z9b h' fun d' hd=>q d' (List.mem_cons_of_mem _ hd) with ⟨z1,z2⟩ | z
    ·refine .inl ⟨z1,fun d' hd=>?_⟩
     rcases List.mem_cons.mp hd with rfl | hd
     ·exact ha
     ·exact z2 d' hd
    ·exact .inr z
   ·rw[e];exact .inr ⟨v,rfl,h'⟩
noncomputable def dotZ(a b:List Int):Int:=((a.zip b).map fun p=>p.1*p.2).sum
theorem z8k:∀{a b:List Int},a.length=b.length->dotZ a b=sumN (fun k=>vec a k*vec b k) a.length
 | [],[],_=>rfl
 | [],_::_,h=>by simp at h
 | _::_,[],h=>by simp at h
 | x::a,y::b,h=>by
   have ih:=z8k (a:=a) (b:=b) (by simpa using h)
   rw[List.length_cons,z6q]
   unfold dotZ at ih ⊢
   rw[List.zip_cons_cons,List.map_cons,List.sum_cons,ih]
   rfl
section
variable {P:Int}{w:Nat}{rows S T:List (List Int)}
noncomputable def colZ(rows:List (List Int))(k:Nat):List Int:=rows.map fun r=>vec r k
noncomputable def z5z(rows:List (List Int))(w:Nat):List (List Int):=(List.range w).map (colZ rows)
theorem z3g:(z5z rows w).length=w:=by unfold z5z;simp
theorem x4j{k i:Nat}(hk:k<w):vec (z0v (z5z rows w) k) i=vec (z0v rows i) k:=by
 unfold z5z z0v
 rw[List.getElem?_map,List.getElem?_range hk]
 show vec (colZ rows k) i=_
 unfold colZ vec
 rw[List.getElem?_map]
 cases rows[i]? with
 | none=>rfl
 | some r=>rfl
theorem y0p(c:Nat->Int)(i:Nat):sumW (z5z rows w) c i=sumN (fun k=>c k*vec (z0v rows i) k) w:=by
 unfold sumW
 rw[z3g]
 exact z1f fun k hk=>by rw[x4j hk]
noncomputable def y7o(S:List (List Int))(p:Nat)(k:Nat):Int:=(if k=p then 1 else 0)-(S.map fun r=>vec r p*(if k=z0f r then 1 else 0)).sum
theorem z8w{v:Nat->Int}{p:Nat}:∀{l:List (List Int)},(∀r∈l,z0f r<w)->sumN (fun k=>(l.map fun r=>vec r p*(if k=z0f r then 1 else 0)).sum*v k) w=comb l v p
 | [],_=>by rw[z5b fun k _=>by simp];rfl
 | r::l,h=>by
   have ih:=z8w (v:=v) (p:=p) (l:=l) fun r' hr'=>h r' (List.mem_cons_of_mem _ hr')
   have e:∀k,((r::l).map fun r=>vec r p*(if k=z0f r then 1 else 0)).sum*v k=vec r p*((if k=z0f r then 1 else 0)*v k)+(l.map fun r=>vec r p*(if k=z0f r then 1 else 0)).sum*v k:=fun k=>by
    rw[List.map_cons,List.sum_cons,Int.add_mul,Int.mul_assoc]
   rw[z1f fun k _=>e k,z6c,z4g,ih,z3s (h r List.mem_cons_self) fun k _ hk=>by rw[if_neg hk,Int.zero_mul],if_pos rfl,Int.one_mul]
   unfold comb
   rw[List.map_cons,List.sum_cons,Int.mul_comm (vec r p)]
theorem y4f{v:Nat->Int}{p:Nat}(hp:p<w)(h:∀r∈S,z0f r<w):sumN (fun k=>y7o S p k*v k) w=v p-comb S v p:=by
 have e:∀k,y7o S p k*v k=(if k=p then 1 else 0)*v k + -1*((S.map fun r=>vec r p*(if k=z0f r then 1 else 0)).sum*v k):=fun k=>by
  unfold y7o
  rw[Int.sub_mul];omega
 rw[z1f fun k _=>e k,z6c,z4g,z8w h,z3s hp fun k _ hk=>by rw[if_neg hk,Int.zero_mul],if_pos rfl,Int.one_mul]
 omega
theorem y8s{u g:Nat->Int}(h:Span P T u)(ht:∀t∈T,cg P (sumN (fun k=>vec t k*g k) w) 0):cg P (sumN (fun k=>u k*g k) w) 0:=by
 induction h with
 | zero z =>
   have:cg P (sumN (fun k=>_*g k) w) (sumN (fun _=>0) w):=cg.sumN fun k _=>by
    have:=(z k).mul (cg.refl (a:=g k))
    rw[Int.zero_mul] at this;exact this
   rw[z4n] at this
   exact this
 | @add u v c r hm hu q ih =>
   have e:cg P (sumN (fun k=>v k*g k) w) (sumN (fun k=>u k*g k+c*(vec r k*g k)) w):=cg.sumN fun k _=>by
    have:=(q k).mul (cg.refl (a:=g k))
    rw[Int.add_mul,Int.mul_assoc] at this;exact this
   rw[z6c,z4g] at e
   have:=ih.add ((cg.refl (P:=P) (a:=c)).mul (ht r hm))
   rw[Int.mul_zero] at this
   exact e.trans this
theorem y6a{g:List Int}(hS:StepsOf P w rows S)(hr:∀r∈rows,r.length=w)(hg:g.length=w)(hT:IdleOf P (z5z rows w) T)(hn:¬Span P rows (vec g)):∃t∈T,¬cg P (sumN (fun k=>vec t k*vec g k) w) 0:=by
 refine Classical.byContradiction fun hc=>hn ?_
 have ht:∀t∈T,cg P (sumN (fun k=>vec t k*vec g k) w) 0:=fun t h=>Classical.byContradiction fun z=>hc ⟨t,h,z⟩
 have hl:∀r∈S,z0f r<w:=fun r h=>(hS.steps.row r h).2.2.1
 have key:∀p,cg P (vec g p) (comb S (vec g) p):=fun p=>by
  rcases Nat.lt_or_ge p w with hp | hp
  ·have h1:=hT.all (y7o S p) fun i=>by
    rw[y0p,y4f hp hl]
    by_cases hi:i<rows.length
    ·have:=z6o hS.steps (hS.all _ (z1y hi)) p
     have:=this.sub (cg.refl (a:=comb S (vec (z0v rows i)) p))
     rw[Int.sub_self] at this
     exact this
    ·have e:z0v rows i=[]:=by unfold z0v;rw[List.getElem?_eq_none (by omega)];rfl
     have e0:∀k,vec (z0v rows i) k=0:=fun k=>by rw[e];rfl
     refine cg.of_eq ?_
     unfold comb
     rw[e0,z3k fun r _=>by rw[e0,Int.zero_mul]]
     rfl
   have h2:=y8s (g:=vec g) (w:=w) h1 ht
   rw[z3g,z1f (g:=fun k=>y7o S p k*vec g k) fun k hk=>by rw[if_pos hk],y4f hp hl] at h2
   have:=h2.add (cg.refl (a:=comb S (vec g) p))
   rw[Int.zero_add,Int.sub_add_cancel] at this
   exact this
  ·refine cg.of_eq ?_
   unfold comb
   rw[show vec g p=0 by unfold vec;rw[List.getElem?_eq_none (by omega)];rfl,z3k fun r h=>by
    rw[show vec r p=0 by unfold vec;rw[List.getElem?_eq_none (by rw[(hS.steps.row r h).1];exact hp)];rfl,Int.mul_zero]]
 have sp:Span P S (vec g):=(z6e (S:=S) (fun r=>vec g (z0f r)) S fun _ h=>h).cong key
 exact Span.trans hS.ofS sp
end
theorem x4r{P:Int}{a b:List Int}(h:fits a)(hl:a.length<=1000):z4b (gZip (gV 1) (gV 2)) (z6v (gNL (gBin dMul (gV 0) (gV 1)))) [.ro (.int P),.ro (rowD a),.ro (rowD b)] = .ok (((a.zip b).map fun p=>p.1*p.2).map D.int):=by
 simp only[z0j]
 have hz:(zipD (a.map D.int) (b.map D.int)).length<=100000:=by rw[z3r];omega
 have n12:=And.intro (z0w a) (z0w b)
 walk_at "evs"
 rw[z4l (h:=fun x y=>x*y)]
 intro x hx y hy
 have fx:=z4i (j:=y) (h x hx)
 walk_at "evs"
theorem y4w{P:Int}{a b:List Int}(hp:0<P)(h:fits a)(hl:a.length<=1000):c_a [.int P,rowD a,rowD b] = .ok (.int (dotZ a b%P)):=by
 refine z2w rfl ?_
 unfold g_a
 refine z4k ?_
 have e:=x4r (P:=P) (b:=b) h hl
 have eo:=s_on (P:=P) (n:=dotZ a b) hp
 have ls:((a.zip b).map fun p=>p.1*p.2).length<=1000:=by rw[List.length_map,List.length_zip];omega
 show(z0i c_on (gCons (gV 0) (gCons (z0i dSum (gCons (gL (z4b (gZip (gV 1) (gV 2)) (z6v (gNL (gBin dMul (gV 0) (gV 1)))))) gNil)) gNil))) [.ro (.int P),.ro (rowD a),.ro (rowD b)]=_
 simp only[z0i,gCons,gNil,gL]
 rw[e]
 walk_at "evs"
 rfl
theorem y4x{P:Int}{w:Nat}{rows:List (List Int)}{g:List Int}(hp:z2g P=false)(p1:3<=P)(p2:P<=9973)(hne:rows≠[])(hr:∀r∈rows,r.length=w)(hg:g.length=w)(w1:1<=w)(hw:w<=40)(hn:rows.length<=40)(hs:¬Span P rows (vec g)) :
 ∃s:List Int,c_c [.int P,.lst (rows.map rowD),rowD g] = .ok (rowD s)/\s.length=w/\onW P s/\(∀r∈rows,cg P (dotZ r s) 0)/\cg P (dotZ g s) 1:=by
 have p0:0<P:=by omega
 obtain⟨S0,_,hS0⟩:=s_g (P:=P) (w:=w) (rows:=rows) hp p1 p2 hne hr (by omega) (by omega)
 have cl:∀r∈z5z rows w,r.length=rows.length:=fun r h=>by
  unfold z5z at h
  obtain⟨k,_,rfl⟩:=List.mem_map.mp h
  unfold colZ;rw[List.length_map]
 have cne:z5z rows w≠[]:=by intro z;have:=z3g (rows:=rows) (w:=w);rw[z] at this;simp at this;omega
 obtain⟨S,hS,eS⟩:=s_m (P:=P) (w:=rows.length) (rows:=z5z rows w) hp p1 p2 cne cl (by omega) (by rw[z3g];omega)
 have hT:=y7k cl hS
 generalize lowS rows.length S=T at eS hT
 have hTs:=hT.steps
 rw[z3g] at hTs
 have nr:=z0m rows
 have nT:=z0m T
 have nC:=z0m (z5z rows w)
 obtain⟨t1,ht1,hd1⟩:=y6a hS0 hr hg hT hs
 have dots:∀t∈T,∀v:List Int,v.length=w->dotZ t v=sumN (fun k=>vec t k*vec v k) w:=fun t ht v hv=>by
  rw[z8k ((hTs.row t ht).1.trans hv.symm),(hTs.row t ht).1]
 have key:∃s:List Int,g_c [.ro (.int P),.ro (.lst (rows.map rowD)),.ro (rowD g),.no,.no,.no] = .ok (.rt (rowD s))/\s.length=w/\onW P s/\(∀r∈rows,cg P (dotZ r s) 0)/\cg P (dotZ g s) 1:=by
  unfold g_c
  have loop:=z9b (i:=4) (gb:=(gSt (gSet 5 (gNL (z0i c_a (gCons (gV 0) (gCons (gV 4) (gCons (gV 2) gNil)))))) (gIfS (gT (gBin dNe (gV 5) (gC (.int 0)))) (gRet (z0i c_s (gCons (gV 0) (gCons (gV 4) (gCons (z0i c_t (gCons (gV 0) (gCons (gV 5) gNil))) gNil))))) z2u)))
   (I:=fun Γ=>∃x4 x5,Γ=[.ro (.int P),.ro (.lst (rows.map rowD)),.ro (rowD g),.own ((z5z rows w).map rowD),x4,x5])
   (A:=fun d=>∀t∈T,d=rowD t->cg P (dotZ t g) 0) (B:=fun v=>∃s:List Int,v=rowD s/\s.length=w/\onW P s/\(∀r∈rows,cg P (dotZ r s) 0)/\cg P (dotZ g s) 1)
   (ds:=T.map rowD) (Γ:=[.ro (.int P),.ro (.lst (rows.map rowD)),.ro (rowD g),.own ((z5z rows w).map rowD),.no,.no]) ⟨_,_,rfl⟩ (by
     rintro d hd Γ ⟨x4,x5,rfl⟩
     obtain⟨t,ht,rfl⟩:=List.mem_map.mp hd
     obtain⟨l1,l2,l3,l4⟩:=hTs.row t ht
     have eb:=y4w (P:=P) (a:=t) (b:=g) p0 (l2.fits (by omega)) (by omega)
     by_cases hz:dotZ t g%P=0
     ·refine .inl ⟨fun t' _ e=>?_,_,z1t (d:=.int (dotZ t g%P)) (by walk_at "evs";simp only[eb];walk_at "evs") (y1n ?_),⟨_,_,rfl⟩⟩
      ·have:t'=t:=z9r e.symm
       rw[this]
       unfold cg
       rw[hz,Int.zero_emod]
      ·rw[hz]
       walk_at "evs"
       try rfl
     ·have hm:(dotZ t g%P)%P≠0:=by rw[Int.emod_emod_of_dvd _ (Int.dvd_refl P)];exact hz
      obtain⟨a,ea,a0,a1,a2⟩:=(s_t (n:=dotZ t g%P) hp p1 p2).2 hm
      have et:=s_s (P:=P) (c:=a) (r:=t) (by omega) (z1j (by omega)) (by omega)
      have bz:(!(dotZ t g%P==0))=true:=by simp[hz]
      have sl:(z1b P t a).length=w:=z2y.trans l1
      have sd:∀v:List Int,v.length=w->cg P (dotZ v (z1b P t a)) (a*dotZ t v):=fun v hv=>by
       rw[z8k (hv.trans sl.symm),hv,dots t ht v hv,<-z4g]
       refine cg.sumN fun k _=>?_
       rw[z3p]
       refine((cg.refl (a:=vec v k)).mul z3j).trans (cg.of_eq ?_)
       rw[<-Int.mul_assoc,Int.mul_comm (vec v k),Int.mul_assoc,Int.mul_comm (vec v k)]
      refine .inr ⟨rowD (z1b P t a),z1t (d:=.int (dotZ t g%P)) (by walk_at "evs";simp only[eb];walk_at "evs") (z8s ?_ (z4k ?_)),z1b P t a,rfl,sl,z6b p0,fun r hr'=>?_,?_⟩
      ·walk_at "evs"
       rw[bz]
      ·walk_at "evs"
       simp only[ea]
       walk_at "evs"
       exact et
      ·refine(sd r (hr r hr')).trans ?_
       obtain⟨j,hj⟩:=List.getElem?_of_mem hr'
       have er:z0v rows j=r:=by unfold z0v;rw[hj];rfl
       have:=hT.idle t ht j
       rw[y0p,er,<-dots t ht r (hr r hr')] at this
       have:=(cg.refl (P:=P) (a:=a)).mul this
       rw[Int.mul_zero] at this
       exact this
      ·refine(sd g hg).trans ?_
       have:cg P (a*dotZ t g) (a*(dotZ t g%P)):=(cg.refl (a:=a)).mul z3j.symm
       refine this.trans ?_
       unfold cg
       rw[a2,Int.emod_eq_of_lt (by omega) (by omega)])
  rcases loop with ⟨_,hA⟩ | ⟨v,e,s,rfl,q⟩
  ·exfalso
   have:=hA (rowD t1) (List.mem_map.mpr ⟨t1,ht1,rfl⟩) t1 ht1 rfl
   rw[dots t1 ht1 g hg] at this
   exact hd1 this
  ·refine⟨s,?_,q⟩
   refine z2e (ds:=(z5z rows w).map rowD) ?_ (y5p (x2c (ds:=T.map rowD) ?_ e))
   ·have hl2:((w:Int)-0).toNat=w:=by omega
    have gw:(w:Int)<4611686018427387904:=by omega
    simp only[z0j g]
    walk_at "evs"
    rw[hg]
    walk_at "evs"
    try simp only[Int.toNat_natCast]
    rw[z7f (h:=fun k=>rowD (colZ rows k))]
    ·unfold z5z
     rw[z1g]
    ·intro k hk
     have hln:(rows.map rowD).length<=100000:=by rw[List.length_map];omega
     have nk:=z0z (colZ rows k)
     walk_at "evs"
     rw[z0s (h:=fun r=>D.int (vec r k))]
     ·walk_at "evs"
      unfold colZ at nk ⊢
      simp only[z0j] at nk ⊢
      rw[z3u]
      walk_at "evs"
     ·intro r hr'
      have va:=z6z (r:=r) (p:=k) (by rw[hr r hr'];exact hk)
      simp only[z0j]
      walk_at "evs"
      simp only[Int.zero_add,va]
      walk_at "evs"
   ·walk_at "evs"
    simp only[eS]
    walk_at "evs"
 obtain⟨s,e,q⟩:=key
 exact⟨s,z2w rfl e,q⟩
theorem s_q{P:Int}{w:Nat}{rows:List (List Int)}{g:List Int}(hp:z2g P=false)(p1:3<=P)(p2:P<=9973)(hne:rows≠[])(hr:∀r∈rows,r.length=w)(hg:g.length=w)(w1:1<=w)(hw:w<=40)(hn:rows.length<=40) :
 (∃ws:List Int,c_q [.int P,.lst (rows.map rowD),rowD g] = .ok (.tup [.str "sum",rowD ws])/\ws.length=rows.length/\onW P ws/\∀i,cg P (vec g i) (sumW rows (vec ws) i)) ∨
 ∃s:List Int,c_q [.int P,.lst (rows.map rowD),rowD g] = .ok (.tup [.str "shut",rowD s])/\s.length=w/\onW P s/\(∀r∈rows,cg P (dotZ r s) 0)/\cg P (dotZ g s) 1/\¬Span P rows (vec g):=by
 rcases s_h hp p1 p2 hr hg (by omega) (by omega) with ⟨ws,e,h1,h2,h3⟩ | ⟨e,h⟩
 ·refine .inl ⟨ws,z2w rfl ?_,h1,h2,h3⟩
  unfold g_q
  refine z1t (d:=rowD ws) (by walk_at "evs";simp only[e];walk_at "evs") (y5p (z8s (by simp only[z0j];walk_at "evs") (z4k (by walk_at "evs"))))
 ·obtain⟨s,es,q1,q2,q3,q4⟩:=y4x hp p1 p2 hne hr hg w1 hw hn h
  refine .inr ⟨s,z2w rfl ?_,q1,q2,q3,q4,h⟩
  unfold g_q
  refine z1t (d:=.non) (by walk_at "evs";simp only[e];walk_at "evs") (z3h (by walk_at "evs";try rfl) (z4k (by walk_at "evs";simp only[es];walk_at "evs")))
theorem z5u:∀{a b:List Int},a.Nodup->(∀x∈a,x∈b)->b.length<=a.length->a.Perm b
 | [],b,_,_,h=>by
   have:b=[]:=List.length_eq_zero_iff.mp (by simpa using h)
   rw[this]
 | x::a,b,hn,hs,h=>by
   obtain⟨n1,n2⟩:=List.nodup_cons.mp hn
   have hx:=hs x List.mem_cons_self
   have p:=List.perm_cons_erase hx
   have hl:(b.erase x).length<=a.length:=by rw[List.length_erase_of_mem hx];simp at h;omega
   refine(List.Perm.cons x (z5u n2 (fun y hy=>?_) hl)).trans p.symm
   have ne:y≠x:=fun z=>n1 (z ▸ hy)
   exact(List.mem_erase_of_ne ne).mpr (hs y (List.mem_cons_of_mem _ hy))
noncomputable def z5p:List Int->Int
 | []=>1
 | x::l=>x*z5p l
theorem y4y{a b:List Int}(h:a.Perm b):z5p a=z5p b:=by
 induction h with
 | nil=>rfl
 | cons x _ ih=>simp only[z5p,ih]
 | swap x y l=>simp only[z5p];rw[<-Int.mul_assoc,<-Int.mul_assoc,Int.mul_comm y x]
 | trans _ _ h1 h2=>exact h1.trans h2
theorem y1a{P x:Int}:∀l:List Int,cg P (z5p (l.map fun i=>(x*i)%P)) (x^l.length*z5p l)
 | []=>by simp only[List.map_nil,z5p,List.length_nil];exact cg.of_eq (by rw[Int.pow_zero,Int.one_mul])
 | i::l=>by
   simp only[List.map_cons,z5p,List.length_cons]
   refine(z3j.mul (y1a l)).trans (cg.of_eq ?_)
   rw[Int.pow_succ]
   have:x*i*(x^l.length*z5p l)=x^l.length*x*(i*z5p l):=by
    rw[Int.mul_comm (x^l.length) x,Int.mul_assoc,Int.mul_assoc]
    congr 1
    rw[<-Int.mul_assoc,<-Int.mul_assoc,Int.mul_comm i]
   exact this
section
variable {P:Int}
theorem y5s(hp:z2g P=false)(p1:3<=P)(p2:P<=9973){a:Int}(h:a%P≠0):∃b:Int,cg P (b*a) 1:=by
 obtain⟨b,_,_,_,e⟩:=(s_t (n:=a) hp p1 p2).2 h
 exact⟨b,by unfold cg;rw[e,Int.emod_eq_of_lt (by omega) (by omega)]⟩
theorem y0n(hp:z2g P=false)(p1:3<=P)(p2:P<=9973):∀l:List Int,(∀a∈l,a%P≠0)->∃b:Int,cg P (b*z5p l) 1
 | [],_=>⟨1,cg.of_eq (by simp[z5p])⟩
 | a::l,h=>by
   obtain⟨b,hb⟩:=y5s hp p1 p2 (h a List.mem_cons_self)
   obtain⟨c,hc⟩:=y0n hp p1 p2 l fun x hx=>h x (List.mem_cons_of_mem _ hx)
   refine⟨b*c,(cg.of_eq ?_).trans ((hb.mul hc).trans (cg.of_eq (by simp)))⟩
   simp only[z5p]
   rw[Int.mul_assoc,Int.mul_assoc]
   congr 1
   rw[<-Int.mul_assoc,<-Int.mul_assoc,Int.mul_comm c]
theorem x4i(hp:z2g P=false)(p1:3<=P)(p2:P<=9973){x:Int}(hx:x%P≠0):cg P (x^(P-1).toNat) 1:=by
 obtain⟨n,en⟩:∃n:Nat,P-1=(n:Int):=⟨(P-1).toNat,by omega⟩
 have ln:(P-1).toNat=n:=by omega
 let l:List Int:=(List.range n).map fun i:Nat=>(i:Int)+1
 have ll:l.length=n:=by simp[l]
 have ml:∀y:Int,y∈l↔1<=y/\y<P:=fun y=>by
  simp only[l,List.mem_map,List.mem_range]
  constructor
  ·rintro⟨i,hi,rfl⟩;omega
  ·rintro⟨h1,h2⟩;exact⟨(y-1).toNat,by omega,by omega⟩
 have nl:l.Nodup:=by
  refine List.pairwise_map.mpr ((List.nodup_range (n:=n)).imp fun {a b} q z=>q (by omega))
 have nz:∀a∈l,a%P≠0:=fun a ha=>by
  obtain⟨h1,h2⟩:=(ml a).mp ha
  rw[Int.emod_eq_of_lt (by omega) h2];omega
 obtain⟨xi,hxi⟩:=y5s hp p1 p2 hx
 have back:∀i:Int,cg P (xi*(x*i)) i:=fun i=>by
  rw[<-Int.mul_assoc]
  have:=hxi.mul (cg.refl (a:=i))
  rw[Int.one_mul] at this;exact this
 have nm:(l.map fun i=>(x*i)%P).Nodup:=by
  refine List.pairwise_map.mpr (nl.imp_of_mem fun {a b} ha hb q z=>q ?_)
  obtain⟨a1,a2⟩:=(ml a).mp ha
  obtain⟨b1,b2⟩:=(ml b).mp hb
  have h1:cg P (x*a) (x*b):=z
  have h2:=((back a).symm.trans ((cg.refl (a:=xi)).mul h1)).trans (back b)
  unfold cg at h2
  rw[Int.emod_eq_of_lt (by omega) a2,Int.emod_eq_of_lt (by omega) b2] at h2
  exact h2
 have sub:∀y∈l.map (fun i=>(x*i)%P),y∈l:=fun y hy=>by
  obtain⟨i,hi,rfl⟩:=List.mem_map.mp hy
  rw[ml]
  have h1:=Int.emod_nonneg (x*i) (show P≠0 by omega)
  have h2:=Int.emod_lt_of_pos (x*i) (show 0<P by omega)
  refine⟨?_,h2⟩
  have:(x*i)%P≠0:=fun z=>nz i hi (by
   have q:cg P (x*i) 0:=by unfold cg;rw[z,Int.zero_emod]
   have:=(back i).symm.trans ((cg.refl (a:=xi)).mul q)
   rw[Int.mul_zero] at this
   unfold cg at this;rw[this,Int.zero_emod])
  omega
 have pm:=y4y (z5u nm sub (Nat.le_of_eq (List.length_map (as:=l) _).symm))
 have h1:=y1a (P:=P) (x:=x) l
 rw[pm,ll] at h1
 obtain⟨b,hb⟩:=y0n hp p1 p2 l nz
 rw[ln]
 have h2:=(cg.refl (P:=P) (a:=b)).mul h1
 have e:b*(x^n*z5p l)=x^n*(b*z5p l):=by rw[<-Int.mul_assoc,Int.mul_comm b,Int.mul_assoc]
 rw[e] at h2
 have h3:=(cg.refl (P:=P) (a:=x^n)).mul hb
 rw[Int.mul_one] at h3
 exact h3.symm.trans (h2.symm.trans hb)
end
noncomputable section
noncomputable def g_k:G->R Fl :=
 (gSt (gSet 2 (gNL (gC (.int 1))))
 (gSt (gSet 3 (gNL (gBin dSub (gV 0) (gC (.int 2)))))
 (gSt (whGo (gT (gBin dGt (gV 3) (gC (.int 0)))) (gSt (gIfS (gT (gBin dEq (gBin dMod (gV 3) (gC (.int 2))) (gC (.int 1)))) (gSet 2 (gNL (gBin dMod (gBin dMul (gV 2) (gV 1)) (gV 0)))) z2u)
 (gSt (gSet 1 (gNL (gBin dMod (gBin dMul (gV 1) (gV 1)) (gV 0))))
 (gSet 3 (gNL (gBin dDiv (gV 3) (gC (.int 2))))))) 20000)
 (gRet (gV 2)))))
noncomputable def c_k:List D->R D:=fnC 2 4 g_k
noncomputable def z3w:G->R Fl :=
 (gRet (z0i z3f (gCons (gL (z4b (gZip (gV 1) (gV 2)) (z6v (gNL (gBin dMod (gBin dSub (gV 0) (gBin dMul (gBin dIx (gV 3) (gV 5)) (gV 1))) (gV 2)))))) gNil)))
noncomputable def z1s:List D->R D:=fnC 4 4 z3w
noncomputable def g_b:G->R Fl :=
 (gSt (z2i 2 (z5h (gV 1)))
 (gSt (z2i 3 (gLst gNil))
 (gSt (gFor 4 (z6m (z0i dLen (gCons (gBin dIx (gV 1) (gC (.int 0))) gNil)))
 (gSt (z2i 5 (z2j (z6m (z0i dLen (gCons (gV 2) gNil))) (z5x (gT (gBin dNe (gBin dIx (gBin dIx (gV 3) (gV 0)) (gV 5)) (gC (.int 0)))) (gNL (gV 0)))))
 (gIfS (gT (gBin dGt (z0i dLen (gCons (gV 5) gNil)) (gC (.int 0)))) (gSt (gPop 6 2 (gBin dIx (gV 5) (gC (.int 0))))
 (gSt (gSet 7 (gNL (z0i c_k (gCons (gV 0) (gCons (gBin dIx (gV 6) (gV 4)) gNil)))))
 (gSt (gSet 6 (gNL (z0i z3f (gCons (gL (z2j (z5g (gV 6)) (fElt (gNL (gBin dMod (gBin dMul (gV 8) (gV 0)) (gV 1)))))) gNil))))
 (gSt (z2i 2 (z2j (z5g (gV 2)) (fElt (gNL (z0i (noEr z1s) (gCons (gV 1) (gCons (gV 0) (gCons (gV 7) (gCons (gV 5) gNil)))))))))
 (z2i 3 (gCat (z2j (z5g (gV 3)) (fElt (gNL (z0i (noEr z1s) (gCons (gV 1) (gCons (gV 0) (gCons (gV 7) (gCons (gV 5) gNil)))))))) (gLst (gCons (gV 6) gNil)))))))) z2u)))
 (z8t 3))))
noncomputable def c_b:List D->R (List D):=fnF 2 8 g_b
noncomputable def g_n:G->R Fl :=
 (gSt (gSet 2 (gNL (z0i dLen (gCons (gBin dIx (gV 1) (gC (.int 0))) gNil))))
 (gSt (gSet 3 (gNL (z0i dLen (gCons (gV 1) gNil))))
 (gSt (z2i 4 (z2j (z6m (gV 3)) (fElt (gNL (gBin dAdd (gBin dAdd (gBin dAdd (gBin dIx (gV 2) (gV 0)) (gBin dMul (gTup (gCons (gC (.int 0)) gNil)) (gV 0))) (gTup (gCons (gC (.int 1)) gNil))) (gBin dMul (gTup (gCons (gC (.int 0)) gNil)) (gBin dSub (gBin dSub (gV 4) (gC (.int 1))) (gV 0))))))))
 (y0f (z2j (z5g (gL (z3x c_b (gCons (gV 0) (gCons (gV 4) gNil))))) (z5x (gT (gBin dEq (gSl (gV 0) gON (gOS (gV 3))) (gBin dMul (gTup (gCons (gC (.int 0)) gNil)) (gV 3)))) (gNL (gSl (gV 0) (gOS (gV 3)) gON))))))))
noncomputable def c_n:List D->R (List D):=fnF 2 5 g_n
noncomputable def z3b:G->R Fl :=
 (gSt (gIfS (gT (gBin dEq (gBin dMod (gBin dDiv (z0i c_l (gCons (gV 0) (gCons (gC (.int 1)) gNil))) (gC (.int 64))) (gC (.int 2))) (gC (.int 0)))) (gRet (z0i dAbs (gCons (z0i c_l (gCons (gV 0) (gCons (gC (.int 2)) gNil))) gNil))) z2u)
 (gSt (gSet 1 (gNL (gC (.int 7))))
 (gSt (gFor 2 (gSeq (gVr 0))
 (gSet 1 (gNL (gBin dAdd (gBin y9v (gV 1) (gC (.int 999999999999999989))) (gBin dMod (gV 2) (gBin dPow (gC (.int 10)) (gC (.int 18))))))))
 (gRet (gBin y9v (gV 1) (gV 1))))))
noncomputable def z3c:List D->R D:=fnC 1 3 z3b
noncomputable def z4u:G->R Fl :=
 (gSt (gSet 1 (gNL (gBin dAdd (gC (.int 3)) (gBin dMod (gV 0) (gC (.int 9971))))))
 (gSt (whGo (gT (z0i dAny (gCons (gL (z2j (y1p (gC (.int 2)) (gC (.int 100))) (z5x (gT (gBin dLt (gV 0) (gV 2))) (gNL (gBin dEq (gBin dMod (gV 2) (gV 0)) (gC (.int 0))))))) gNil))) (gSet 1 (gNL (gBin dAdd (gV 1) (gC (.int 1))))) 10000)
 (gRet (gV 1))))
noncomputable def z2s:List D->R D:=fnC 1 2 z4u
noncomputable def g_i:G->R Fl :=
 (gSt (gIfS (gOr (gNot (gT (gIsi z3m (gV 3)))) (gOr (gT (gBin dNe (z0i dLen (gCons (gV 3) gNil)) (gC (.int 2)))) (gT (gBin dNe (gBin dIx (gV 3) (gC (.int 0))) (gBin dIx (gL (gLst (gCons (gC (.str "sum")) (gCons (gC (.str "shut")) gNil)))) (z0i dInt (gCons (gV 4) gNil))))))) (gRet (gC (.bl false))) z2u)
 (gSt (gIfS (gOr (gNot (gT (gIsi z3m (gBin dIx (gV 3) (gC (.int 1)))))) (gT (gBin dNe (z0i dLen (gCons (gBin dIx (gV 3) (gC (.int 1))) gNil)) (gBin dIx (gL (gLst (gCons (z0i dLen (gCons (gV 1) gNil)) (gCons (z0i dLen (gCons (gV 2) gNil)) gNil)))) (z0i dInt (gCons (gV 4) gNil)))))) (gRet (gC (.bl false))) z2u)
 (gSt (gIfS (gT (gV 4)) (gSt (z2i 5 (z2j (z5g (gL (y3d (gV 1) (gL (gLst (gCons (gV 2) gNil)))))) (fElt (gNL (gBin dMod (z0i dSum (gCons (gL (z4b (gZip (gV 0) (gBin dIx (gV 4) (gC (.int 1)))) (z6v (gNL (gBin dMul (gV 0) (gV 1)))))) gNil)) (gV 1))))))
 (gRet (gBin dEq (gV 5) (gL (gCat (gRep (gLst (gCons (gC (.int 0)) gNil)) (z0i dLen (gCons (gV 1) gNil))) (gLst (gCons (gC (.int 1)) gNil))))))) z2u)
 (gSt (gSet 6 (gNL (gBin dMul (gTup (gCons (gC (.int 0)) gNil)) (z0i dLen (gCons (gV 2) gNil)))))
 (gSt (y9q 7 8 (y9p (gVr 1) (gBin dIx (gVr 3) (gC (.int 1))))
 (gSet 6 (gNL (z0i z3f (gCons (gL (z4b (gZip (gV 6) (gV 7)) (z6v (gNL (gBin dMod (gBin dAdd (gV 0) (gBin dMul (gV 10) (gV 1))) (gV 2)))))) gNil)))))
 (gRet (gBin dEq (gV 6) (gV 2))))))))
noncomputable def c_i:List D->R D:=fnC 5 9 g_i
end
theorem y8t(c:Int):∃p:Int,z2s [.int c] = .ok (.int p)/\3<=p/\p<=9973/\z2g p=false:=by
 unfold z2s z4u
 have key:∀(n m:Nat) (Γ:G),m<n->(∃z:Int,Γ=[.ro (.int c),.ro (.int z)]/\3<=z/\z<=9973/\(9973-z).toNat=m) ->
  ∃z:Int,whGo (gT (z0i dAny (gCons (gL (z2j (y1p (gC (.int 2)) (gC (.int 100))) (z5x (gT (gBin dLt (gV 0) (gV 2))) (gNL (gBin dEq (gBin dMod (gV 2) (gV 0)) (gC (.int 0))))))) gNil))) (gSet 1 (gNL (gBin dAdd (gV 1) (gC (.int 1))))) n Γ = .ok (.nx [.ro (.int c),.ro (.int z)])/\3<=z/\z<=9973/\z2g z=false:=by
  refine z7i _ (fun r=>∃z:Int,r = .ok (.nx [.ro (.int c),.ro (.int z)])/\3<=z/\z<=9973/\z2g z=false) ?_
  rintro m Γ ⟨z,rfl,h1,h2,h3⟩
  rw[y9t]
  cases q:z2g z with
  | false=>exact .inl ⟨rfl,z,rfl,h1,h2,q⟩
  | true =>
    have hz:z≠9973:=fun e=>by rw[e] at q;exact absurd q (by decide +kernel)
    refine .inr ⟨rfl,.inl ⟨[.ro (.int c),.ro (.int (z+1))],(9973-(z+1)).toNat,by omega,.inl ?_,z+1,rfl,by omega,by omega,rfl⟩⟩
    walk_at "evs"
 have hz:3<=3+c%9971/\3+c%9971<=9973:=by omega
 obtain⟨z,e,h1,h2,h3⟩:=key 10000 (9973-(3+c%9971)).toNat [.ro (.int c),.ro (.int (3+c%9971))] (by omega) ⟨_,rfl,hz.1,hz.2,rfl⟩
 refine⟨z,?_,h1,h2,h3⟩
 walk_at "evs"
 rw[e]
 walk_at "evs"
theorem y6e{c P n:Int}(h1:0<P)(h2:P<1000000)(h3:0<=n)(h4:n<=100):c_e [.int c,.int P,.int n] = .ok (.tup ((z3a P n.toNat c).map D.int)):=by
 unfold c_e g_e
 walk_at "evs"
 rw[z8g (fun j=>[.ro (.int (divs P j c)),.ro (.int P),.ro (.int n),.own ((digs P j c).map D.int),(match j with | 0=>.no | k+1=>.ro (.int (0+(k:Int))))])]
 ·walk_at "evs"
  rw[y3f]
 ·rfl
 ·intro j hj
  have hl:(digs P j c).length<=100000:=by unfold digs;simp;omega
  walk_at "evs"
  rw[y1v]
  simp[divs]
theorem y6t{x X r:Int}(h0:0<=x)(h1:x<8*X)(r0:0<=r)(r1:r<1000000000000000000):x*999999999999999989+r<8*(X*1000000000000000000):=by omega
theorem y1i{x:Int}{j:Nat}(h0:0<=x)(h1:x<8*(1000000000000000000:Int)^j)(hj:j<=63):x.natAbs<bigN:=by
 have h2:(1000000000000000000:Nat)^j<=1000000000000000000^63:=Nat.pow_le_pow_right (by decide) hj
 have h3:8*(1000000000000000000:Nat)^63<=bigN:=by unfold bigN;decide +kernel
 have h4:((1000000000000000000:Nat)^j:Nat)=(1000000000000000000:Int)^j:=by rw[Int.natCast_pow];rfl
 rw[<-h4] at h1
 generalize (1000000000000000000:Nat)^63=B at h2 h3
 generalize (1000000000000000000:Nat)^j=A at h1 h2
 omega
theorem y6d{ns:List Int}(hn:ns.length<=63):∃N:Int,z3c [.lst (ns.map D.int)] = .ok (.int N):=by
 suffices h:∃N:Int,z3b [.ro (.lst (ns.map D.int)),.no,.no] = .ok (.rt (.int N)) by
  obtain⟨N,e⟩:=h
  exact⟨N,z2w rfl e⟩
 unfold z3b
 by_cases hc:z6a ns 1/64%2=0
 ·have hb:(z6a ns 1/64%2==0)=true:=by simp[hc]
  refine⟨_,y5p (z8s (by walk_at "evs";rw[hb]) (z4k (by walk_at "evs";rfl)))⟩
 ·have hb:(z6a ns 1/64%2==0)=false:=by simp[hc]
  rw[z3h (by walk_at "evs";rw[hb]) rfl]
  rw[z1t (d:=.int 7) (by walk_at "evs") rfl]
  refine y3k (ds:=ns.map D.int) (fun r=>∃N:Int,r = .ok (.rt (.int N))) (fun j Γ=>∃(x:Int) (x2:En),Γ=[.ro (.lst (ns.map D.int)),.ro (.int x),x2]/\0<=x/\x<8*(1000000000000000000:Int)^j) (by walk_at "evs") ⟨7,_,rfl,by omega,by decide⟩ ?_ ?_
  ·rintro j d Γ hd ⟨x,x2,rfl,h0,h1⟩
   rw[List.getElem?_map] at hd
   cases hi:ns[j]? with
   | none=>rw[hi] at hd;cases hd
   | some c =>
     rw[hi] at hd
     injection hd with hd
     subst hd
     have hj:j<ns.length:=(List.getElem?_eq_some_iff.mp hi).1
     have fit:z5k x 999999999999999989:=⟨y1i h0 h1 (by omega),x4n (show(999999999999999989:Int).natAbs<=10^300 from Nat.le_trans (show _<=10^18 by decide) (Nat.pow_le_pow_right (by decide) (by decide)))⟩
     have e18:(10:Int)^(18:Int).toNat=1000000000000000000:=rfl
     refine .nx (y3a (d:=.int (x*999999999999999989+c%1000000000000000000)) ?_) ⟨_,_,rfl,by omega,?_⟩
     ·walk_at "evs"
      try rfl
     ·rw[Int.pow_succ]
      exact y6t h0 h1 (by omega) (by omega)
  ·rintro Γ ⟨x,x2,rfl,h0,h1⟩
   rw[List.length_map] at h1
   have f1:=y1i h0 h1 hn
   have fit:z5k x x:=⟨f1,f1⟩
   exact⟨_,z4k (by walk_at "evs";rfl)⟩
theorem y8h{P a b:Int}(h:cg P a b):∀n:Nat,cg P (a^n) (b^n)
 | 0=>by rw[Int.pow_zero,Int.pow_zero];exact cg.refl
 | n+1=>by rw[Int.pow_succ,Int.pow_succ];exact(y8h h n).mul h
theorem y8w(x:Int)(q:Nat):x^(2*q)=(x*x)^q:=by
 rw[Int.pow_mul,show x^2=x*x by rw[Int.pow_succ,Int.pow_succ,Int.pow_zero,Int.one_mul]]
theorem x1f{P x:Int}(hp:z2g P=false)(p1:3<=P)(p2:P<=9973)(x0:0<x)(x1:x<P):∃a:Int,c_k [.int P,.int x] = .ok (.int a)/\0<=a/\a<P/\(a*x)%P=1:=by
 have p0:0<P:=by omega
 have key:∀(n m:Nat) (Γ:G),m<n->(∃y f:Int,Γ=[.ro (.int P),.ro (.int y),.ro (.int f),.ro (.int (m:Int))]/\0<=y/\y<P/\0<=f/\f<P/\cg P (f*y^m) (x^(P-2).toNat)) ->
  ∃y f:Int,whGo (gT (gBin dGt (gV 3) (gC (.int 0)))) (gSt (gIfS (gT (gBin dEq (gBin dMod (gV 3) (gC (.int 2))) (gC (.int 1)))) (gSet 2 (gNL (gBin dMod (gBin dMul (gV 2) (gV 1)) (gV 0)))) z2u)
 (gSt (gSet 1 (gNL (gBin dMod (gBin dMul (gV 1) (gV 1)) (gV 0))))
 (gSet 3 (gNL (gBin dDiv (gV 3) (gC (.int 2))))))) n Γ = .ok (.nx [.ro (.int P),.ro (.int y),.ro (.int f),.ro (.int 0)])/\0<=f/\f<P/\cg P f (x^(P-2).toNat):=by
  refine z7i _ (fun r=>∃y f:Int,r = .ok (.nx [.ro (.int P),.ro (.int y),.ro (.int f),.ro (.int 0)])/\0<=f/\f<P/\cg P f (x^(P-2).toNat)) ?_
  rintro m Γ ⟨y,f,rfl,y0,y1,f0,f1,hc⟩
  have fy:z4v y:=z1j (by omega)
  have ff:z4v f:=z1j (by omega)
  have yy:cg P ((y*y%P)^(m/2)) (y^(2*(m/2))):=by rw[y8w];exact y8h z3j _
  have ny:=z4x (w:=y*y) p0
  have nl:=z4y (w:=y*y) p0
  have eh:(m:Int)/2=((m/2:Nat):Int):=rfl
  by_cases hm:m=0
  ·subst hm
   refine .inl ⟨by walk_at "evs";rfl,y,f,rfl,f0,f1,?_⟩
   rw[Int.pow_zero,Int.mul_one] at hc
   exact hc
  ·have b1:decide ((m:Int)>0)=true:=decide_eq_true (by omega)
   refine .inr ⟨by walk_at "evs";rw[b1],.inl ?_⟩
   by_cases hq:m%2=1
   ·have bq:((m:Int)%2==1)=true:=by rw[show(m:Int)%2=1 by omega];rfl
    have fl:=z4y (w:=f*y) p0
    have fn:=z4x (w:=f*y) p0
    refine⟨[.ro (.int P),.ro (.int (y*y%P)),.ro (.int (f*y%P)),.ro (.int ((m/2:Nat):Int))],m/2,by omega,.inl (y0m (Γ':=[.ro (.int P),.ro (.int y),.ro (.int (f*y%P)),.ro (.int (m:Int))]) (z8s (by walk_at "evs";rw[bq]) (y3a (by walk_at "evs"))) (z1t (d:=.int (y*y%P)) (by walk_at "evs") (y3a (d:=.int ((m/2:Nat):Int)) (by walk_at "evs";rfl)))),y*y%P,f*y%P,rfl,ny,nl,fn,fl,?_⟩
    refine((z3j.mul yy).trans (cg.of_eq ?_)).trans hc
    rw[show y^m=y^(2*(m/2)+1) by rw[show 2*(m/2)+1=m by omega],Int.pow_succ,Int.mul_comm (y^_) y,<-Int.mul_assoc]
   ·have bq:((m:Int)%2==1)=false:=by rw[show(m:Int)%2=0 by omega];rfl
    refine⟨[.ro (.int P),.ro (.int (y*y%P)),.ro (.int f),.ro (.int ((m/2:Nat):Int))],m/2,by omega,.inl (z3h (by walk_at "evs";rw[bq]) (z1t (d:=.int (y*y%P)) (by walk_at "evs") (y3a (d:=.int ((m/2:Nat):Int)) (by walk_at "evs";rfl)))),y*y%P,f,rfl,ny,nl,f0,f1,?_⟩
    refine((cg.refl.mul yy).trans (cg.of_eq ?_)).trans hc
    rw[show 2*(m/2)=m by omega]
 obtain⟨y,f,e,f0,f1,hc⟩:=key 20000 (P-2).toNat [.ro (.int P),.ro (.int x),.ro (.int 1),.ro (.int ((P-2).toNat:Int))] (by omega) ⟨x,1,rfl,by omega,x1,by omega,by omega,by rw[Int.one_mul];exact cg.refl⟩
 have eP:(((P-2).toNat:Nat):Int)=P-2:=by omega
 rw[eP] at e
 refine⟨f,z2w rfl ?_,f0,f1,?_⟩
 ·unfold g_k
  exact z1t (d:=.int 1) (by walk_at "evs") (z1t (d:=.int (P-2)) (by walk_at "evs") (y0m e (z4k (by walk_at "evs"))))
 ·have hx:x%P≠0:=by rw[Int.emod_eq_of_lt (by omega) x1];omega
  have h1:=(hc.mul (cg.refl (a:=x))).trans (cg.of_eq (show x^(P-2).toNat*x=x^(P-1).toNat by rw[<-Int.pow_succ];congr 1;omega))
  have h2:=h1.trans (x4i hp p1 p2 hx)
  unfold cg at h2
  rw[h2,Int.emod_eq_of_lt (by omega) (by omega)]
theorem y2k{P:Int}{r l:List Int}{p:Nat}(hp:0<P)(hP:P<1000000)(hr:onW P r)(hl:r.length=l.length)(hw:r.length<=1000)(hpp:p<r.length):z1s [.int P,rowD r,rowD l,.int p] = .ok (rowD (z0t P r l p)):=by
 refine z2w rfl ?_
 unfold z3w
 refine z4k ?_
 simp only[z0j]
 have hz:(zipD (r.map D.int) (l.map D.int)).length<=100000:=by rw[z3r];omega
 have n12:=And.intro (z0w r) (z0w l)
 have va:=z6z hpp
 have fv:z4v (vec r p):=y7s (hr.fits (by omega)) p
 walk_at "evs"
 rw[z4l (h:=fun x y=>(x-vec r p*y)%P)]
 ·walk_at "evs"
  rfl
 ·intro x hx y hy
  walk_at "evs"
  simp only[va]
  walk_at "evs"
section
variable {P:Int}{w p:Nat}{rows left left' steps:List (List Int)}
theorem Gone.drop(g:Gone P w p rows left steps)(h1:∀r∈left',r∈left)(h2:∀r∈left,r∈left'∨∀i,cg P (vec r i) 0):Gone P w p rows left' steps where
 lft:=fun r hr=>g.lft r (h1 r hr)
 step:=g.step
 pair:=g.pair
 ofL:=fun r hr=>g.ofL r (h1 r hr)
 ofS:=g.ofS
 all:=fun r hr=>Span.trans (fun r' hr'=>by
  rcases List.mem_append.mp hr' with q | q
  ·rcases h2 r' q with z | z
   ·exact .of_mem (List.mem_append_left _ z)
   ·exact .zero z
  ·exact .of_mem (List.mem_append_right _ q)) (g.all r hr)
theorem y3b(h:∀r∈rows,r.length=w/\onW P r):Gone P w 0 rows rows [] where
 lft:=fun r hr=>⟨(h r hr).1,(h r hr).2,fun i hi=>by omega⟩
 step:=fun r hr=>by cases hr
 pair:=List.Pairwise.nil
 ofL:=fun r hr=>.of_mem hr
 ofS:=fun r hr=>by cases hr
 all:=fun r hr=>by rw[List.append_nil];exact .of_mem hr
theorem y5o{r0:List Int}{a:Int}(ha:(a*vec r0 p)%P=1)(i:Nat):cg P (vec (z0t P r0 (z1b P r0 a) p) i) 0:=by
 rw[z3q (by rw[z2y]),z3p]
 refine z3j.trans ?_
 have h1:cg P (vec r0 p*((a*vec r0 i)%P)) (vec r0 p*(a*vec r0 i)):=cg.refl.mul z3j
 have h2:cg P (a*vec r0 p) 1:=by unfold cg;rw[ha];exact(by rw[<-ha,Int.emod_emod])
 have h3:cg P (vec r0 p*(a*vec r0 i)) (1*vec r0 i):=by
  rw[<-Int.mul_assoc,Int.mul_comm (vec r0 p) a]
  exact h2.mul cg.refl
 have h4:=(cg.refl (P:=P) (a:=vec r0 i)).add ((cg.refl (P:=P) (a:=-1)).mul (h1.trans h3))
 refine(cg.of_eq (by omega)).trans (h4.trans (cg.of_eq (by omega)))
theorem y7u{α β:Type}(f:α->β)(l:List α)(k:Nat):(l.map f).eraseIdx k=(l.eraseIdx k).map f:=by
 rw[List.eraseIdx_eq_take_drop_succ,List.eraseIdx_eq_take_drop_succ,List.map_append,List.map_take,List.map_drop]
theorem y6y{α:Type}{l:List α}{k:Nat}(hk:k<l.length){r:α}(h:r∈l):r=l[k]∨r∈l.eraseIdx k:=by
 rw[List.eraseIdx_eq_take_drop_succ]
 rw[<-List.take_append_drop k l,List.drop_eq_getElem_cons hk] at h
 rcases List.mem_append.mp h with z | z
 ·exact .inr (List.mem_append_left _ z)
 ·rcases List.mem_cons.mp z with z | z
  ·exact .inl z
  ·exact .inr (List.mem_append_right _ z)
end
theorem x5e{i j:Nat}{g:G->R D}{Γ:G}{ds:List D}{k:Int}{e:D}(ho:Γ[i]? = some (.own ds))(hg:g Γ = .ok (.int k))(h:0<=k/\k<1000000)(he:ds[k.toNat]? = some e):gPop j i g Γ = .ok (.nx ((Γ.set i (.own (ds.eraseIdx k.toNat))).set j (.ro e))):=by
 unfold gPop
 rw[ho]
 show lift (g Γ) Γ (popK j i ds Γ)=_
 rw[hg]
 exact y6j h he
theorem x0g{left:List (List Int)}{k:Nat}(hk:k<left.length):atI (left.map rowD) (k:Int)=some (rowD (z0v left k)):=by
 rw[z1d,List.getElem?_map]
 unfold z0v
 rw[List.getElem?_eq_getElem hk]
 rfl
theorem y0v{left:List (List Int)}{k:Nat}(hk:k<left.length):z0v left k=left[k]:=by
 unfold z0v
 rw[List.getElem?_eq_getElem hk]
 rfl
theorem z7v{P:Int}{w:Nat}{rows:List (List Int)}(hp:z2g P=false)(p1:3<=P)(p2:P<=9973)(hne:rows≠[])(hr:∀r∈rows,r.length=w/\onW P r)(hw:w<=100)(hn:rows.length<=100) :
 ∃S,c_b [.int P,.lst (rows.map rowD)] = .ok (S.map rowD)/\StepsOf P w rows S:=by
 obtain⟨r0,rest,rfl⟩:∃r0 rest,rows=r0::rest:=by
  cases rows with
  | nil=>exact absurd rfl hne
  | cons a b=>exact⟨a,b,rfl⟩
 generalize hR:r0::rest=rows at *
 have at0:atI (rows.map rowD) 0=some (rowD r0):=by rw[<-hR];exact z1d 0
 have l0:r0.length=w:=(hr r0 (by rw[<-hR];exact List.mem_cons_self)).1
 suffices h:∃S,g_b [.ro (.int P),.ro (.lst (rows.map rowD)),.no,.no,.no,.no,.no,.no] = .ok (.rtF (S.map rowD))/\StepsOf P w rows S by
  obtain⟨S,e,q⟩:=h
  exact⟨S,y4g rfl e,q⟩
 unfold g_b
 have nr:=z0m rows
 have lr:(rows.map rowD).length<=100000:=by rw[List.length_map];omega
 rw[z2e (ds:=rows.map rowD) (by walk_at "evs") rfl]
 rw[z2e (ds:=[]) (by walk_at "evs") rfl]
 refine y3k (ds:=z2n 0 w) (fun r=>∃S:List (List Int),r = .ok (.rtF (S.map rowD))/\StepsOf P w rows S) (fun j Γ=>∃(left steps:List (List Int)) (x4 x5 x6 x7:En),Γ=[.ro (.int P),.ro (.lst (rows.map rowD)),.own (left.map rowD),.own (steps.map rowD),x4,x5,x6,x7]/\Gone P w j rows left steps/\left.length<=100/\steps.length<=j) ?_ ⟨rows,[],_,_,_,_,rfl,y3b hr,hn,Nat.le_refl _⟩ ?_ ?_
 ·walk_at "evs"
  simp only[at0]
  simp only[z0j]
  walk_at "evs"
  rw[l0]
  walk_at "evs"
 ·rintro j d Γ hd ⟨left,steps,x4,x5,x6,x7,rfl,gn,ll,ls⟩
  obtain⟨hj,rfl⟩:=z7w hd
  have nl:=z0m left
  have ns:=z0m steps
  have hll:(left.map rowD).length<=100000:=by rw[List.length_map];omega
  have hls:(steps.map rowD).length<=100000:=by rw[List.length_map];omega
  have z0:(0:Int)+(j:Int)=(j:Int):=by omega
  rw[z0]
  have es:z2j (z6m (z0i dLen (gCons (gV 2) gNil))) (z5x (gT (gBin dNe (gBin dIx (gBin dIx (gV 3) (gV 0)) (gV 5)) (gC (.int 0)))) (gNL (gV 0))) [.ro (.int P),.ro (.lst (rows.map rowD)),.own (left.map rowD),.own (steps.map rowD),.ro (.int (j:Int)),x5,x6,x7] = .ok (((List.range left.length).filter fun k=>vec (z0v left k) j != 0).map fun(k:Nat)=>D.int (k:Int)):=by
   walk_at "evs"
   unfold z2n
   rw[z5y (q:=fun k=>vec (z0v left k) j != 0) (h:=fun(k:Nat)=>D.int (k:Int))]
   intro k hk
   have hk:=List.mem_range.mp hk
   have ra:=x0g hk
   have va:=z6z (r:=z0v left k) (p:=j) (by rw[(gn.lft _ (z1y hk)).1];exact hj)
   rw[show(0:Int)+(k:Int)=(k:Int) by omega]
   simp only[z0j] at ra
   walk_at "evs"
   simp only[ra]
   walk_at "evs"
   simp only[va]
   walk_at "evs"
   rw[show(!(vec (z0v left k) j==0))=(vec (z0v left k) j != 0) from rfl]
   cases hq:vec (z0v left k) j != 0 with
   | true=>rfl
   | false=>rfl
  cases hf:(List.range left.length).filter fun k=>vec (z0v left k) j != 0 with
  | nil =>
    rw[hf] at es
    refine .nx (z2e es (y1n (by walk_at "evs";rfl))) ⟨left,steps,_,_,_,_,rfl,gn.skip fun r hr=>?_,ll,by omega⟩
    obtain⟨k,hk,rfl⟩:=List.mem_iff_getElem.mp hr
    have:=List.filter_eq_nil_iff.mp hf k (List.mem_range.mpr hk)
    rw[y0v hk] at this
    simpa using this
  | cons k0 ks =>
    rw[hf] at es
    have hmem:k0∈(List.range left.length).filter fun k=>vec (z0v left k) j != 0:=by rw[hf];exact List.mem_cons_self
    obtain⟨hk,hv⟩:=List.mem_filter.mp hmem
    have hk:=List.mem_range.mp hk
    have hv:vec (z0v left k0) j≠0:=by simpa using hv
    have h0:=z1y (rows:=left) hk
    have e0:=y0v hk
    have ge:(left.map rowD)[k0]? = some (rowD (z0v left k0)):=by rw[List.getElem?_map,List.getElem?_eq_getElem hk,e0];rfl
    generalize hr1:z0v left k0=r1 at *
    obtain⟨g1,g2,g3⟩:=gn.lft r1 h0
    have on1:=y6p (show 0<P by omega) g2 j
    have on2:0<=vec r1 j/\vec r1 j<P:=on1
    obtain⟨a,ea,a0,a1,ha⟩:=x1f hp p1 p2 (x:=vec r1 j) (by omega) on2.2
    have gt:=gn.turn (by omega) hj h0 ha rfl
    have gd:=gt.drop (left':=(left.eraseIdx k0).map fun r=>z0t P r (z1b P r1 a) j) (fun r hr=>by
     obtain⟨r',hr',rfl⟩:=List.mem_map.mp hr
     exact List.mem_map.mpr ⟨r',List.mem_of_mem_eraseIdx hr',rfl⟩) (fun r hr=>by
     obtain⟨r',hr',rfl⟩:=List.mem_map.mp hr
     rcases y6y hk hr' with z | z
     ·right
      intro i
      rw[z,<-e0]
      exact y5o ha i
     ·exact .inl (List.mem_map.mpr ⟨r',z,rfl⟩))
    have va:=z6z (r:=r1) (p:=j) (by omega)
    have fa:z4v a:=z1j (by omega)
    have tl:(z1b P r1 a).length=w:=by rw[z2y];exact g1
    have nt:=z0z (z1b P r1 a)
    have lf:(left.eraseIdx k0).length<=100:=Nat.le_trans (List.length_eraseIdx_le _ _) ll
    have lf2:((left.eraseIdx k0).map rowD).length<=100000:=by rw[List.length_map];omega
    have nl2:=z0m (left.eraseIdx k0)
    have lfo:∀r∈left.eraseIdx k0,r.length=w/\onW P r:=fun r hr=>⟨(gn.lft r (List.mem_of_mem_eraseIdx hr)).1,(gn.lft r (List.mem_of_mem_eraseIdx hr)).2.1⟩
    have em:=y7u rowD left k0
    have n1:=z0z r1
    have cl:∀r:List Int,r.length=w->onW P r->z1s [.int P,rowD r,rowD (z1b P r1 a),.int j] = .ok (rowD (z0t P r (z1b P r1 a) j)):=fun r h1 h2=>y2k (by omega) (by omega) h2 (by omega) (by omega) (by omega)
    have et:gNL (z0i z3f (gCons (gL (z2j (z5g (gV 6)) (fElt (gNL (gBin dMod (gBin dMul (gV 8) (gV 0)) (gV 1)))))) gNil)) [.ro (.int P),.ro (.lst (rows.map rowD)),.own ((left.eraseIdx k0).map rowD),.own (steps.map rowD),.ro (.int (j:Int)),.own ((k0::ks).map fun(k:Nat)=>D.int (k:Int)),.ro (rowD r1),.ro (.int a)] = .ok (rowD (z1b P r1 a)):=by
     simp only[z0j]
     walk_at "evs"
     rw[z0s (h:=fun n=>D.int ((a*n)%P)),z3u]
     ·walk_at "evs"
      rfl
     ·intro n hn
      walk_at "evs"
    generalize z1b P r1 a=l at gd tl nt cl et
    refine .nx (z2e es (z8s ?_ (y0m (Γ':=[.ro (.int P),.ro (.lst (rows.map rowD)),.own ((left.eraseIdx k0).map rowD),.own (steps.map rowD),.ro (.int (j:Int)),.own ((k0::ks).map fun(k:Nat)=>D.int (k:Int)),.ro (rowD r1),x7]) ?_ (z1t (d:=.int a) ?_ (z1t (d:=rowD l) et (z2e (ds:=((left.eraseIdx k0).map fun r=>z0t P r l j).map rowD) ?_ (x0l (ds:=((steps.map fun r=>z0t P r l j)++[l]).map rowD) ?_))))))) ⟨_,_,_,_,_,_,rfl,gd,by rw[List.length_map];exact lf,by rw[List.length_append,List.length_map,List.length_singleton];omega⟩
    ·have b1:decide ((0:Int)<((ks.length+1:Nat):Int))=true:=decide_eq_true (by omega)
     walk_at "evs"
     rw[b1]
    ·refine(x5e (ds:=left.map rowD) (k:=(k0:Int)) (e:=rowD r1) rfl ?_ ⟨by omega,by omega⟩ ge).trans ?_
     ·have ak:atI ((k0::ks).map fun(k:Nat)=>D.int (k:Int)) 0=some (.int (k0:Int)):=z1d 0
      walk_at "evs"
     ·rw[show((k0:Int)).toNat=k0 from rfl,em]
      rfl
    ·simp only[z0j]
     walk_at "evs"
     simp only[va]
     walk_at "evs"
     simp only[ea]
     walk_at "evs"
    ·walk_at "evs"
     rw[z0s (h:=fun r=>rowD (z0t P r l j)),z1g]
     intro r hrr
     have ec:=cl r (lfo r hrr).1 (lfo r hrr).2
     have:=z0z (z0t P r l j)
     walk_at "evs"
     simp only[ec]
     walk_at "evs"
    ·have lc:(steps.map fun r=>z0t P r l j).length+1<=1000:=by rw[List.length_map];omega
     walk_at "evs"
     rw[z0s (h:=fun r=>rowD (z0t P r l j)),z1g]
     ·rw[List.map_append]
      have n3:D.noLs [rowD l]=true:=z0m [l]
      have lc2:steps.length+1<=1000:=by omega
      walk_at "evs"
      try rfl
     ·intro r hrr
      have ec:=cl r (gn.step r hrr).1 (gn.step r hrr).2.1
      have:=z0z (z0t P r l j)
      walk_at "evs"
      simp only[ec]
      walk_at "evs"
 ·rintro Γ ⟨left,steps,x4,x5,x6,x7,rfl,gn,ll,ls⟩
  rw[z0y] at gn
  exact⟨steps,x0m rfl,gn.end⟩
theorem y4q{n k:Nat}(hk:k<n):z4f n k=List.replicate k 0++1::List.replicate (n-1-k) 0:=by
 refine List.ext_getElem (by rw[z3d,List.length_append,List.length_cons,List.length_replicate,List.length_replicate];omega) fun i h1 h2=>?_
 have e1:(z4f n k)[i]=if i=k then 1 else 0:=by simp[z4f]
 rw[e1]
 rcases Nat.lt_trichotomy i k with z | z | z
 ·rw[if_neg (by omega),List.getElem_append_left (by rw[List.length_replicate];exact z),List.getElem_replicate]
 ·subst z
  rw[if_pos rfl,List.getElem_append_right (by rw[List.length_replicate];omega)]
  simp
 ·rw[if_neg (by omega),List.getElem_append_right (by rw[List.length_replicate];omega)]
  have:i-(List.replicate k (0:Int)).length=(i-k-1)+1:=by rw[List.length_replicate];omega
  simp only[this,List.getElem_cons_succ,List.getElem_replicate]
theorem y7n{r:List Int}{w:Nat}(hw:w<=r.length):decide (r.take w=List.replicate w 0)=decide (w<=z0f r):=by
 have h:=y4o hw
 by_cases q:w<=z0f r
 ·rw[decide_eq_true q] at h ⊢
  refine decide_eq_true (List.eq_replicate_iff.mpr ⟨by rw[List.length_take];omega,fun b hb=>?_⟩)
  have:=List.any_eq_false.mp h b hb
  simpa using this
 ·rw[decide_eq_false q] at h ⊢
  refine decide_eq_false fun z=>?_
  rw[z] at h
  obtain⟨b,hb,e⟩:=List.any_eq_true.mp h
  rw[List.eq_of_mem_replicate hb] at e
  cases e
theorem x1e{P:Int}{w:Nat}{rows:List (List Int)}(hp:z2g P=false)(p1:3<=P)(p2:P<=9973)(hne:rows≠[])(hr:∀r∈rows,r.length=w/\onW P r)(hw:w<=50)(hn:rows.length<=50) :
 ∃S,StepsOf P (w+rows.length) (z4d rows) S/\c_n [.int P,.lst (rows.map rowD)] = .ok ((lowS w S).map rowD):=by
 obtain⟨r0,rest,e0⟩:∃r0 rest,rows=r0::rest:=by
  cases rows with
  | nil=>exact absurd rfl hne
  | cons a b=>exact⟨a,b,rfl⟩
 have at0:atI (rows.map rowD) 0=some (rowD r0):=by rw[e0];exact z1d 0
 have l0:r0.length=w:=(hr r0 (by rw[e0];exact List.mem_cons_self)).1
 have lm:(z4d rows).length=rows.length:=by unfold z4d;simp
 have hm:∀r∈z4d rows,r.length=w+rows.length/\onW P r:=fun r hr'=>by
  obtain⟨k,hk,rfl⟩:=List.mem_map.mp hr'
  have hk:=List.mem_range.mp hk
  obtain⟨h1,h2⟩:=hr _ (z1y hk)
  refine⟨by rw[List.length_append,z3d,h1],fun n hn=>?_⟩
  rcases List.mem_append.mp hn with z | z
  ·exact h2 n z
  ·obtain⟨i,_,rfl⟩:=List.mem_map.mp z
   split<;>omega
 obtain⟨S,eS,hS⟩:=z7v (P:=P) (rows:=z4d rows) hp p1 p2 (by intro z;rw[z] at lm;have:=congrArg List.length e0;simp at this lm;omega) hm (by omega) (by omega)
 refine⟨S,hS,y4g rfl ?_⟩
 unfold g_n
 have nr:=z0m rows
 have nS:=z0m S
 refine z1t (d:=.int w) (by
  walk_at "evs"
  simp only[at0]
  simp only[z0j]
  walk_at "evs"
  rw[l0]) ?_
 refine z1t (d:=.int rows.length) (by walk_at "evs";try rw[List.length_map]) ?_
 refine z2e (ds:=(z4d rows).map rowD) ?_ ?_
 ·walk_at "evs"
  unfold z2n
  rw[z0s (h:=fun k=>rowD (z0v rows k++z4f rows.length k)),z1g]
  ·rfl
  ·intro k hk
   have hk:=List.mem_range.mp hk
   have ra:=x0g hk
   have lk:=(hr _ (z1y hk)).1
   have nn:=z0z (z0v rows k++z4f rows.length k)
   have f1:=y7r k
   have f2:=y7r (rows.length-1-k)
   have ek:((rows.length:Int)-1-(k:Int)).toNat=rows.length-1-k:=by omega
   have g1:(0:Int)<=(k:Int)/\(k:Int)<1000000/\1*k<=1000:=by omega
   have g2:(0:Int)<=(rows.length:Int)-1-(k:Int)/\(rows.length:Int)-1-(k:Int)<1000000/\1*((rows.length:Int)-1-(k:Int)).toNat<=1000:=by omega
   have em:(z0v rows k).map D.int++((List.replicate k (0:Int)).map D.int++D.int 1::(List.replicate (rows.length-1-k) (0:Int)).map D.int)=(z0v rows k++z4f rows.length k).map D.int:=by
    rw[y4q hk,List.map_append,List.map_append,List.map_cons]
   rw[show(0:Int)+(k:Int)=(k:Int) by omega]
   simp only[z0j] at ra nn ⊢
   walk_at "evs"
   simp only[ra]
   walk_at "evs"
   rw[ek,f1,f2]
   walk_at "evs"
   rw[em]
   walk_at "evs"
 ·have lS:S.length<=100000:=by have:=y0r hS.steps;omega
  refine x0n ?_
  have hSl:(S.map rowD).length<=100000:=by rw[List.length_map];exact lS
  have nm:=z0m (z4d rows)
  walk_at "evs"
  simp only[eS]
  walk_at "evs"
  rw[z5y (q:=fun r=>decide (w<=z0f r)) (h:=fun r=>rowD (r.drop w))]
  ·unfold lowS
   rw[z1g]
  ·intro r hr'
   have lr:=(hS.steps.row r hr').1
   have hz:=y7n (r:=r) (w:=w) (by omega)
   have nd:=z0z (r.drop w)
   have g1:(0:Int)<=(w:Int)/\(w:Int)<1000000/\1*w<=1000:=by omega
   have f1:=y7r w
   have lay:D.lay 40 (.tup ((r.take w).map D.int))=true/\D.lay 40 (.tup ((List.replicate w (0:Int)).map D.int))=true:=⟨z8e 39 _,z8e 39 _⟩
   simp only[z0j] at nd ⊢
   rw[List.map_drop] at nd ⊢
   walk_at "evs"
   rw[y8d,z8m,<-List.map_take]
   walk_at "evs"
   rw[f1,y0g,hz]
   cases hd:decide (w<=z0f r) with
   | true=>rw[R.guard_pos lay];rfl
   | false=>rw[R.guard_pos lay];rfl
section
variable {P:Int}{w:Nat}{S T rows:List (List Int)}{g:List Int}
theorem x2q(hp:S.Pairwise fun r r'=>z0f r<z0f r'/\vec r (z0f r')=0)(h1:∀r∈S,vec r (z0f r)=1){s:List Int}(h:s∈S)(v:Nat->Int):comb S v (z0f s)=v (z0f s):=by
 induction S with
 | nil=>cases h
 | cons a S ih =>
   obtain⟨ha,hS⟩:=List.pairwise_cons.mp hp
   unfold comb
   rw[List.map_cons,List.sum_cons]
   rcases List.mem_cons.mp h with rfl | h
   ·rw[h1 _ List.mem_cons_self,z3k fun r hr=>by rw[z2d (ha r hr).1,Int.mul_zero]];omega
   ·have:=ih hS (fun r hr=>h1 r (List.mem_cons_of_mem _ hr)) h
    unfold comb at this
    rw[this,(ha s h).2];omega
theorem x1g(hp:1<P)(hS:StepsOf P w rows S)(hT:StepsOf P w (rows++[g]) T)(hg:Span P rows (vec g)):T=S:=by
 refine StepsOf.unique hp hT ⟨hS.steps,fun r hr=>Span.trans (fun r' h'=>.of_mem (List.mem_append_left _ h')) (hS.ofS r hr),fun r hr=>?_⟩
 rcases List.mem_append.mp hr with z | z
 ·exact hS.all r z
 ·rw[List.mem_singleton] at z
  subst z
  exact Span.trans hS.all hg
theorem y8u(hp:1<P)(hS:StepsOf P w rows S)(hT:StepsOf P w (rows++[g]) T)(hg:¬Span P rows (vec g)):S.length<T.length:=by
 rcases Nat.lt_or_ge S.length T.length with z | z
 ·exact z
 exfalso
 have sT:∀s∈S,Span P T (vec s):=fun s hs=>Span.trans (fun r hr=>hT.all r (List.mem_append_left _ hr)) (hS.ofS s hs)
 have nd:(S.map fun r=>(z0f r:Int)).Nodup:=List.pairwise_map.mpr (hS.steps.pair.imp fun q z=>by have:=q.1;omega)
 have pm:=z5u (b:=T.map fun r=>(z0f r:Int)) nd (fun x hx=>by
  obtain⟨s,hs,rfl⟩:=List.mem_map.mp hx
  obtain⟨t,ht,e⟩:=z6j hp hT.steps hS.steps sT hs
  exact List.mem_map.mpr ⟨t,ht,by rw[e]⟩) (by rw[List.length_map,List.length_map];exact z)
 have tl:∀t∈T,∃s∈S,z0f s=z0f t:=fun t ht=>by
  obtain⟨s,hs,e⟩:=List.mem_map.mp (pm.mem_iff.mpr (List.mem_map.mpr ⟨t,ht,rfl⟩))
  exact⟨s,hs,by omega⟩
 have TS:∀t∈T,Span P S (vec t):=fun t ht=>by
  have c1:Span P S (comb S (vec t)):=z6e (fun r=>vec t (z0f r)) S fun r hr=>hr
  have c2:Span P T (comb S (vec t)):=Span.trans sT c1
  have u:=(Span.of_mem (P:=P) ht).sub c2
  refine c1.cong fun i=>?_
  have q:=z6o hT.steps u i
  have zz:comb T (fun k=>vec t k-comb S (vec t) k) i=0:=by
   refine z3k fun a ha=>?_
   obtain⟨s,hs,e⟩:=tl a ha
   have e1:=x2q hS.steps.pair (fun r hr=>(hS.steps.row r hr).2.2.2) hs (vec t)
   rw[e] at e1
   show(vec t (z0f a)-comb S (vec t) (z0f a))*vec a i=0
   rw[e1,Int.sub_self,Int.zero_mul]
  rw[zz] at q
  have:=q.add (cg.refl (P:=P) (a:=comb S (vec t) i))
  rw[Int.zero_add] at this
  exact cg.trans (cg.of_eq (by omega)) this
 exact hg (Span.trans hS.ofS (Span.trans TS (hT.all g (List.mem_append_right _ List.mem_cons_self))))
end
theorem x2z:((Str.ofString "sum")==(Str.ofString "sum"))=true:=by decide +kernel
theorem x3a:((Str.ofString "shut")==(Str.ofString "shut"))=true:=by decide +kernel
theorem x2b:D.lay 40 (.str "sum")=true:=by rw[y2z];decide +kernel
theorem y9k:D.lay 40 (.str "shut")=true:=by rw[y2z];decide +kernel
theorem y5c(a b:D):atI [a,b] (0:Int)=some a:=z1d 0
theorem y2p(a b:D):atI [a,b] (1:Int)=some b:=z1d 1
theorem y2j{P:Int}{w:Nat}{rows:List (List Int)}{g cs:List Int}(p1:3<=P)(p2:P<=9973)(hr:∀r∈rows,r.length=w)(hg:g.length=w)(og:onW P g)(hw:w<=100)(hn:rows.length<=100)(hc:cs.length=rows.length)(oc:onW P cs)(h:∀i,cg P (vec g i) (sumW rows (vec cs) i)):c_i [.int P,.lst (rows.map rowD),rowD g,.tup [.str "sum",rowD cs],.bl false] = .ok (.bl true):=by
 have p0:0<P:=by omega
 have flat:(List.replicate w [D.int 0]).flatten=(List.replicate w (0:Int)).map D.int:=y7r w
 have rep0:onW P (List.replicate w 0):=fun n hn=>by rw[List.eq_of_mem_replicate hn];omega
 have nr:=z0m rows
 obtain⟨Γ',e,v,x7,x8,rfl,h1,h2,h3⟩:=z9c (gb:=gSet 6 (gNL (z0i z3f (gCons (gL (z4b (gZip (gV 6) (gV 7)) (z6v (gNL (gBin dMod (gBin dAdd (gV 0) (gBin dMul (gV 10) (gV 1))) (gV 2)))))) gNil)))) (i:=7) (j:=8) (xs:=rows.map rowD) (ys:=cs.map D.int) (k:=0)
  (fun k Γ=>∃(u:List Int) (x7 x8:En),Γ=[.ro (.int P),.ro (.lst (rows.map rowD)),.ro (rowD g),.ro (.tup [.str "sum",rowD cs]),.ro (.bl false),.no,.ro (rowD u),x7,x8]/\u.length=w/\onW P u/\∀i,cg P (vec u i) (sumN (fun k=>vec cs k*vec (z0v rows k) i) k))
  (Γ:=[.ro (.int P),.ro (.lst (rows.map rowD)),.ro (rowD g),.ro (.tup [.str "sum",rowD cs]),.ro (.bl false),.no,.ro (rowD (List.replicate w (0:Int))),.no,.no]) ⟨_,_,_,rfl,by simp,rep0,fun i=>cg.of_eq (y8p w i)⟩ (by
    rintro m a b Γ ha hb ⟨u,x7,x8,rfl,lu,ou,hu⟩
    rw[List.getElem?_map] at ha hb
    cases qa:rows[m]? with
    | none=>rw[qa] at ha;cases ha
    | some r =>
      cases qb:cs[m]? with
      | none=>rw[qb] at hb;cases hb
      | some c =>
        rw[qa] at ha
        rw[qb] at hb
        cases ha
        cases hb
        have hr1:=hr r (List.mem_of_getElem? qa)
        have oc1:=oc c (List.mem_of_getElem? qb)
        have fc:z4v c:=z1j (by omega)
        have hz:(zipD (u.map D.int) (r.map D.int)).length<=100000:=by rw[z3r];omega
        have n12:=And.intro (z0w u) (z0w r)
        have ok:=x2u (P:=P) (c:=c) (r:=u) (l:=r) p0 (by omega)
        have na:=z0z (addZ P u r c)
        have la:(addZ P u r c).length<=1000:=by rw[ok.1];omega
        refine⟨_,y3a (d:=rowD (addZ P u r c)) ?_,_,_,_,rfl,ok.1.trans lu,ok.2,fun i=>?_⟩
        ·simp only[z0j]
         walk_at "evs"
         rw[z4l (h:=fun x y=>(x+c*y)%P)]
         ·walk_at "evs"
          try rfl
         ·intro x hx y hy
          walk_at "evs"
        ·rw[x0c (by omega)]
         refine z3j.trans ?_
         have ec:vec cs (0+m)=c:=by unfold vec;rw[Nat.zero_add,qb];rfl
         have er:z0v rows (0+m)=r:=by unfold z0v;rw[Nat.zero_add,qa];rfl
         rw[z1x,ec,er]
         exact(hu i).add cg.refl)
 rw[List.length_map,List.length_map,hc,Nat.min_self,Nat.zero_add] at h3
 have evg:v=g:=x0f p0 h1 hg h2 og fun i=>(h3 i).trans (h i).symm
 subst evg
 refine z2w rfl ?_
 unfold g_i
 have nss:D.noLs [.str "sum",.str "shut"]=true:=rfl
 have nii:D.noLs [.int (rows.length:Int),.int (v.length:Int)]=true:=rfl
 refine z3h (by
  walk_at "evs"
  try simp only[y5c]
  walk_at "evs"
  try simp only[y7w,x2z,x2b]
  walk_at "evs"
  try rfl) ?_
 refine z3h (by
  walk_at "evs"
  try simp only[y5c,y2p]
  simp only[z0j]
  walk_at "evs"
  try simp only[y5c,y2p]
  walk_at "evs"
  try simp[hc]) ?_
 refine z3h (by walk_at "evs") ?_
 refine z1t (d:=rowD (List.replicate w (0:Int))) ?_ (y0m (Γ':=[.ro (.int P),.ro (.lst (rows.map rowD)),.ro (rowD v),.ro (.tup [.str "sum",rowD cs]),.ro (.bl false),.no,.ro (rowD v),x7,x8]) ?_ (z4k (by walk_at "evs";try simp)))
 ·have gg:(0:Int)<=(v.length:Int)/\(v.length:Int)<1000000/\1*v.length<=1000:=by omega
  have nz:=z0z (List.replicate w (0:Int))
  simp only[z0j] at nz ⊢
  walk_at "evs"
  rw[hg,flat]
  walk_at "evs"
 ·unfold y9q
  have ez:y9p (gVr 1) (gBin dIx (gVr 3) (gC (.int 1))) [.ro (.int P),.ro (.lst (rows.map rowD)),.ro (rowD v),.ro (.tup [.str "sum",rowD cs]),.ro (.bl false),.no,.ro (rowD (List.replicate w (0:Int))),.no,.no] = .ok (zipD (rows.map rowD) (cs.map D.int)):=by
   simp only[z0j]
   walk_at "evs"
   try simp only[y2p]
   walk_at "evs"
  exact(z2r ez).trans e
theorem y0u{P:Int}{w:Nat}{rows:List (List Int)}{g s:List Int}(p1:3<=P)(p2:P<=9973)(hr:∀r∈rows,r.length=w/\onW P r)(hg:g.length=w)(og:onW P g)(hw:w<=100)(hn:rows.length<=100)(hs:s.length=w)(h:∀r∈rows,cg P (dotZ r s) 0)(hg1:cg P (dotZ g s) 1):c_i [.int P,.lst (rows.map rowD),rowD g,.tup [.str "shut",rowD s],.bl true] = .ok (.bl true):=by
 have p0:0<P:=by omega
 have nr:=z0m rows
 have nrg:=z0m (rows++[g])
 refine z2w rfl ?_
 unfold g_i
 have nss:D.noLs [.str "sum",.str "shut"]=true:=rfl
 have nii:D.noLs [.int (rows.length:Int),.int (g.length:Int)]=true:=rfl
 refine z3h (by
  walk_at "evs"
  try simp only[y5c,y2p]
  walk_at "evs"
  try simp only[y7w,x3a,y9k]
  walk_at "evs"
  try rfl) ?_
 refine z3h (by
  walk_at "evs"
  try simp only[y5c,y2p]
  simp only[z0j]
  walk_at "evs"
  try simp only[y5c,y2p]
  walk_at "evs"
  try simp[hs,hg]) ?_
 have em:((rows++[g]).map fun r=>D.int (dotZ r s%P))=(List.replicate rows.length (0:Int)++[1]).map D.int:=by
  rw[List.map_append,List.map_append]
  congr 1
  ·rw[List.map_replicate]
   refine List.eq_replicate_iff.mpr ⟨by rw[List.length_map],fun b hb=>?_⟩
   obtain⟨r,hr',rfl⟩:=List.mem_map.mp hb
   have:=h r hr'
   unfold cg at this
   rw[this,Int.zero_emod]
  ·have:=hg1
   unfold cg at this
   rw[List.map_singleton,List.map_singleton,this,Int.emod_eq_of_lt (by omega) (by omega)]
 have lrg:((rows++[g]).map rowD).length<=100000:=by rw[List.length_map,List.length_append,List.length_singleton];omega
 have ap:rows.map rowD++[rowD g]=(rows++[g]).map rowD:=by rw[List.map_append];rfl
 refine y5p (z8s (by walk_at "evs") (z2e (ds:=(List.replicate rows.length (0:Int)++[1]).map D.int) ?_ (z4k ?_)))
 ·rw[<-em]
  have n1:D.noLs [rowD g]=true:=z0m [g]
  walk_at "evs"
  try rw[ap]
  have gq:rows.length<=999/\D.noLs ((rows++[g]).map rowD)=true:=⟨by omega,nrg⟩
  rw[R.guard_pos gq]
  walk_at "evs"
  rw[z0s (h:=fun r=>D.int (dotZ r s%P))]
  intro r hr'
  have hrr:r.length=w/\onW P r:=by
   rcases List.mem_append.mp hr' with z | z
   ·exact hr r z
   ·rw[List.mem_singleton] at z;subst z;exact⟨hg,og⟩
  have hz:(zipD (r.map D.int) (s.map D.int)).length<=100000:=by rw[z3r];omega
  have n12:=And.intro (z0w r) (z0w s)
  have ls:((r.zip s).map fun p=>p.1*p.2).length<=1000:=by rw[List.length_map,List.length_zip];omega
  simp only[z0j]
  walk_at "evs"
  try simp only[y2p]
  walk_at "evs"
  rw[z4l (h:=fun x y=>x*y)]
  ·walk_at "evs"
   try rfl
  ·intro x hx y hy
   have fx:=z4i (j:=y) ((hrr.2.fits (by omega)) x hx)
   walk_at "evs"
 ·have n1:D.noLs [D.int 0]=true:=z0w [0]
  have n2:D.noLs [D.int 1]=true:=z0w [1]
  have gg:(0:Int)<=(rows.length:Int)/\(rows.length:Int)<1000000/\1*rows.length<=1000:=by omega
  have f0:=y7r rows.length
  have nl:=z0w (List.replicate rows.length (0:Int)++[1])
  walk_at "evs"
  try rw[f0]
  walk_at "evs"
  have ap2:(List.replicate rows.length (0:Int)).map D.int++[D.int 1]=(List.replicate rows.length (0:Int)++[1]).map D.int:=by rw[List.map_append];rfl
  rw[ap2]
  generalize List.replicate rows.length (0:Int)++[1]=q
  have ly:D.lay 40 (.lst (q.map D.int))=true:=by rw[y7f,List.all_map,List.all_eq_true];intro x _;exact z6u 39 x
  rw[R.guard_pos ⟨ly,ly⟩,y9s (by rw[y6k,List.all_map,List.all_eq_true];intro x _;exact x0h x)]
noncomputable section
noncomputable def x2k:G->R Fl :=
 (gSt (gSet 1 (gNL (z0i z2s (gCons (z0i c_l (gCons (gV 0) (gCons (gC (.int 0)) gNil))) gNil))))
 (gSt (gSet 2 (gNL (gBin dAdd (gC (.int 1)) (gBin dMod (z0i c_l (gCons (gV 0) (gCons (gC (.int 1)) gNil))) (gC (.int 8))))))
 (gSt (gSet 3 (gNL (gBin dAdd (gC (.int 1)) (gBin dMod (gBin dDiv (z0i c_l (gCons (gV 0) (gCons (gC (.int 1)) gNil))) (gC (.int 8))) (gC (.int 8))))))
 (gSt (gSet 4 (gNL (z0i c_e (gCons (z0i z3c (gCons (gV 0) gNil)) (gCons (gV 1) (gCons (gBin dMul (gV 2) (gV 3)) gNil))))))
 (gSt (z2i 5 (z2j (z6m (gV 3)) (fElt (gNL (gSl (gV 5) (gOS (gBin dMul (gV 0) (gV 3))) (gOS (gBin dAdd (gBin dMul (gV 0) (gV 3)) (gV 3))))))))
 (gSt (gSet 6 (gNL (z0i c_e (gCons (z0i c_l (gCons (gV 0) (gCons (gC (.int 3)) gNil))) (gCons (gV 1) (gCons (gV 2) gNil))))))
 (gSt (z2i 7 (z3x c_g (gCons (gV 1) (gCons (gL (z5h (gV 5))) gNil))))
 (gSt (gIfS (gOr (gNot (gT (gIsi z4w (gV 7)))) (gT (gBin dNe (gV 7) (gL (z3x c_b (gCons (gV 1) (gCons (gV 5) gNil))))))) (gRet (gC (.bl false))) z2u)
 (gSt (z2i 8 (z3x c_m (gCons (gV 1) (gCons (gL (z5h (gV 5))) gNil))))
 (gSt (gIfS (gOr (gNot (gT (gIsi z4w (gV 8)))) (gT (gBin dNe (gV 8) (gL (z3x c_n (gCons (gV 1) (gCons (gV 5) gNil))))))) (gRet (gC (.bl false))) z2u)
 (gSt (gSet 9 (gNL (gBin dGt (z0i dLen (gCons (gL (z3x c_b (gCons (gV 1) (gCons (gL (y3d (gV 5) (gL (gLst (gCons (gV 6) gNil))))) gNil)))) gNil)) (z0i dLen (gCons (gV 7) gNil)))))
 (gRet (z0i c_i (gCons (gV 1) (gCons (gV 5) (gCons (gV 6) (gCons (z0i c_q (gCons (gV 1) (gCons (gL (z5h (gV 5))) (gCons (gV 6) gNil)))) (gCons (gV 9) gNil))))))))))))))))))
noncomputable def c_law:List D->R D:=fnC 1 10 x2k
end
theorem y9l(n:Nat)(l:List (List Int)):D.lay (n+2) (.lst (l.map rowD))=true:=by
 rw[y7f,List.all_map,List.all_eq_true];intro x _;exact z8e n x
theorem y7v(a b:List (List Int)):eqD (.lst (a.map rowD)) (.lst (b.map rowD))=decide (a=b):=y7y (by rw[y6k,List.all_map,List.all_eq_true];intro x _;exact y3s x) (by rw[y6k,List.all_map,List.all_eq_true];intro x _;exact y3s x) ⟨fun h=>z8b (by simpa using h),fun h=>by rw[h]⟩
theorem y1u(c:Int):∃m:Nat,1+c%8=(m:Int)/\1<=m/\m<=8:=⟨(1+c%8).toNat,by omega,by omega,by omega⟩
theorem x1n{ds:List Int}{w n k:Nat}(hl:ds.length=w*n)(hk:k<n):((ds.drop (k*w)).take w).length=w:=by
 rw[List.length_take,List.length_drop,hl]
 have h1:w*(k+1)<=w*n:=Nat.mul_le_mul_left w hk
 rw[Nat.mul_succ] at h1
 rw[Nat.mul_comm k w]
 omega
theorem y9w{ds:List Int}{w k:Nat}(h:k*w<=ds.length):cutL (ds.map D.int) (some ((k:Int)*(w:Int))) (some ((k:Int)*(w:Int)+(w:Int)))=((ds.drop (k*w)).take w).map D.int:=by
 have e1:(k:Int)*(w:Int)=((k*w:Nat):Int):=(Int.natCast_mul k w).symm
 rw[e1,show((k*w:Nat):Int)+(w:Int)=((k*w+w:Nat):Int) from rfl,y3h _ _ _ (by rw[List.length_map];exact h),List.map_take,List.map_drop,Nat.add_sub_cancel_left]
theorem law_k96:x5d c_law:=by
 intro ns hn
 obtain⟨P,eP,p1,p2,hD⟩:=y8t (z6a ns 0)
 obtain⟨w,ew,w1,w8⟩:=y1u (z6a ns 1)
 obtain⟨n,en,n1,n8⟩:=y1u (z6a ns 1/8)
 obtain⟨N,eN⟩:=y6d (ns:=ns) hn
 have p0:0<P:=by omega
 have wn:w*n<=64:=Nat.mul_le_mul w8 n8
 have ed:=y6e (c:=N) (P:=P) (n:=((w*n:Nat):Int)) p0 (by omega) (by omega) (by omega)
 have dl:=z4e P (w*n) N
 have do':=z6x (P:=P) p0 (w*n) N
 rw[show(((w*n:Nat):Int)).toNat=w*n from rfl] at ed
 generalize z3a P (w*n) N=ds at ed dl do'
 refine z2w rfl ?_
 unfold x2k
 refine z1t (d:=.int P) (by walk_at "evs";simp only[eP];walk_at "evs") ?_
 refine z1t (d:=.int w) (by walk_at "evs";rw[ew]) ?_
 refine z1t (d:=.int n) (by walk_at "evs";rw[en]) ?_
 have fw:z4v (w:Int):=z1j (by omega)
 refine z1t (d:=rowD ds) (by
  have nd:=z0z ds
  simp only[z0j] at nd ⊢
  walk_at "evs"
  simp only[eN]
  walk_at "evs"
  rw[show(w:Int)*(n:Int)=((w*n:Nat):Int) from(Int.natCast_mul w n).symm]
  simp only[ed]
  walk_at "evs") ?_
 let rows:List (List Int):=(List.range n).map fun k=>(ds.drop (k*w)).take w
 have hrows:rows=(List.range n).map fun k=>(ds.drop (k*w)).take w:=rfl
 have lr:rows.length=n:=by rw[hrows,List.length_map,List.length_range]
 have okr:∀r∈rows,r.length=w/\onW P r:=fun r hr=>by
  obtain⟨k,hk,rfl⟩:=List.mem_map.mp hr
  exact⟨x1n dl (List.mem_range.mp hk),fun x hx=>do' x (List.mem_of_mem_drop (List.mem_of_mem_take hx))⟩
 refine z2e (ds:=rows.map rowD) (by
  simp only[z0j]
  walk_at "evs"
  unfold z2n
  rw[z0s (h:=fun k=>rowD ((ds.drop (k*w)).take w)),z1g]
  intro k hk
  have hk:=List.mem_range.mp hk
  have fk:z4v (k:Int):=z1j (by omega)
  have nd:=z0z ((ds.drop (k*w)).take w)
  simp only[z0j] at nd ⊢
  rw[show(0:Int)+(k:Int)=(k:Int) by omega]
  have kb:(k:Int)*(w:Int)=((k*w:Nat):Int):=(Int.natCast_mul k w).symm
  have kc:k*w<=64:=Nat.le_trans (Nat.mul_le_mul (Nat.le_of_lt hk) (Nat.le_refl w)) (by rw[Nat.mul_comm];exact wn)
  have r1:y0w ((k:Int)*(w:Int)):=z2b (by rw[kb];omega)
  have r2:y0w ((k:Int)*(w:Int)+(w:Int)):=z2b (by rw[kb];omega)
  walk_at "evs"
  rw[y9w (by rw[dl,Nat.mul_comm];exact Nat.mul_le_mul (Nat.le_refl w) (Nat.le_of_lt hk))]
  walk_at "evs") ?_
 have hne:rows≠[]:=by intro z;rw[z] at lr;simp at lr;omega
 have hrl:∀r∈rows,r.length=w:=fun r h=>(okr r h).1
 have nr:=z0m rows
 have lyr:∀l:List (List Int),D.lay 40 (.lst (l.map rowD))=true:=fun l=>y9l 38 l
 clear_value rows
 have gl:=z4e P w (z6a ns 3)
 have go:=z6x (P:=P) p0 w (z6a ns 3)
 refine z1t (d:=rowD (z3a P w (z6a ns 3))) (by walk_at "evs";rfl) ?_
 generalize z3a P w (z6a ns 3)=g at gl go
 obtain⟨S,eS,hS⟩:=s_g (P:=P) (w:=w) (rows:=rows) hD p1 p2 hne hrl (by omega) (by omega)
 obtain⟨S',eS',hS'⟩:=z7v (P:=P) (w:=w) (rows:=rows) hD p1 p2 hne okr (by omega) (by omega)
 have h1:S'=S:=StepsOf.unique (by omega) hS' hS
 subst h1
 obtain⟨M,hM,eM⟩:=s_m (P:=P) (w:=w) (rows:=rows) hD p1 p2 hne hrl (by omega) (by omega)
 obtain⟨M',hM',eM'⟩:=x1e (P:=P) (w:=w) (rows:=rows) hD p1 p2 hne okr (by omega) (by omega)
 have h2:M'=M:=StepsOf.unique (by omega) hM' hM
 subst h2
 have okg:∀r∈rows++[g],r.length=w/\onW P r:=fun r hr=>by
  rcases List.mem_append.mp hr with z | z
  ·exact okr r z
  ·rw[List.mem_singleton] at z;subst z;exact⟨gl,go⟩
 obtain⟨T,eT,hT⟩:=z7v (P:=P) (w:=w) (rows:=rows++[g]) hD p1 p2 (by simp) okg (by omega) (by rw[List.length_append,List.length_singleton];omega)
 have nS:=z0m S'
 have nT:=z0m T
 have nM:=z0m (lowS w M')
 have ap:rows.map rowD++[rowD g]=(rows++[g]).map rowD:=by rw[List.map_append];rfl
 have gq:rows.length<=999/\D.noLs ((rows++[g]).map rowD)=true:=⟨by omega,z0m _⟩
 refine z2e (ds:=S'.map rowD) (by walk_at "evs";simp only[eS];walk_at "evs") ?_
 refine z3h (by
  walk_at "evs"
  simp only[eS']
  walk_at "evs"
  rw[y7v,decide_eq_true rfl]
  have l2:=lyr S'
  walk_at "evs"
  try rw[R.guard_pos l2]
  try rfl) ?_
 refine z2e (ds:=(lowS w M').map rowD) (by walk_at "evs";simp only[eM];walk_at "evs") ?_
 refine z3h (by
  walk_at "evs"
  simp only[eM']
  walk_at "evs"
  rw[y7v,decide_eq_true rfl]
  have l2:=lyr (lowS w M')
  walk_at "evs"
  try rw[R.guard_pos l2]
  try rfl) ?_
 refine z1t (d:=.bl (decide ((S'.length:Int)<(T.length:Int)))) (by
  have n1:D.noLs [rowD g]=true:=z0m [g]
  walk_at "evs"
  rw[ap,R.guard_pos gq]
  walk_at "evs"
  simp only[eT]
  walk_at "evs"
  try rfl) ?_
 rcases s_q (P:=P) (w:=w) (rows:=rows) (g:=g) hD p1 p2 hne hrl gl w1 (by omega) (by omega) with ⟨ws,es,q1,q2,q3⟩ | ⟨s,es,q1,q2,q3,q4,q5⟩
 ·have sp:Span P rows (vec g):=(z9n (vec ws) rows.length (Nat.le_refl _)).cong q3
  have hr:=x1g (by omega) hS' hT sp
  have b1:decide ((S'.length:Int)<(T.length:Int))=false:=by rw[hr];exact decide_eq_false (Int.lt_irrefl _)
  have et:=y2j p1 p2 hrl gl go (by omega) (by omega) q1 q2 q3
  have nt:D.noL (.tup [.str "sum",rowD ws])=true:=by simp[D.noL,D.noLs,z0z]
  refine z4k ?_
  walk_at "evs"
  simp only[es]
  walk_at "evs"
  rw[b1]
  simp only[et]
 ·have hr:=y8u (by omega) hS' hT q5
  have b1:decide ((S'.length:Int)<(T.length:Int))=true:=decide_eq_true (by omega)
  have et:=y0u p1 p2 okr gl go (by omega) (by omega) q1 q3 q4
  refine z4k ?_
  walk_at "evs"
  simp only[es]
  walk_at "evs"
  rw[b1]
  simp only[et]
end L3
namespace L3
open PySem PySem.Spec PyProof.Rows L2
noncomputable abbrev St:=L2.St
noncomputable instance:Monad R where
 pure:=R.ok
 bind:=R.bind
mutual
noncomputable def Is(K:PySem.W.Frag)(H:Hp):D->V->Prop
 | .non,v=>v = .non
 | .bl b,v=>v = .bl b
 | .int i,v=>v = .int i
 | .str x,v=>v = .str x
 | .tup ds,v=>∃a xs,v = .ref a/\SqT K H a xs/\IsAll K H ds xs
 | .lst ds,v=>∃a xs,v = .ref a/\SqL K H a xs/\IsAll K H ds xs
 | .dct,v=>∃a ob,v = .ref a/\H a=some (.frz ob (.own 0))/\ob.cls = .type "dict"
 | .exc c,v=>∃e oe C,v = .ref e/\H e=some (.frz oe (.own 0))/\oe.cls = .ref C/\PySem.W.nsIn K mainGlobals c.nm=some (some (.ref C))
noncomputable def IsAll(K:PySem.W.Frag)(H:Hp):List D->List V->Prop
 | [],xs=>xs=[]
 | d::ds,xs=>∃x r,xs=x::r/\Is K H d x/\IsAll K H ds r
end
structure Sub (K:PySem.W.Frag) (H H':Hp):Prop where
 t:∀a xs,SqT K H a xs->SqT K H' a xs
 l:∀a xs,SqL K H a xs->SqL K H' a xs
 x:∀a o u,H a=some (.frz o u)->H' a=some (.frz o u)
theorem z4h{K:PySem.W.Frag}{H H':Hp}{a:Addr}{xs:List V}(e:Same H H')(h:SqT K H a xs):SqT K H' a xs:=by
 rcases h with (h | ⟨o,h⟩) | h
 ·exact .inl (.inl (e _ _ h))
 ·exact .inl (.inr ⟨o,e _ _ h⟩)
 ·exact .inr h
theorem Sub.of_same{K:PySem.W.Frag}{H H':Hp}(e:Same H H'):Sub K H H':=⟨fun _ _ h=>z4h e h,fun _ _ h=>e.seq h,fun _ _ _ h=>e _ _ h⟩
theorem Sub.refl{K:PySem.W.Frag}{H:Hp}:Sub K H H:=⟨fun _ _ h=>h,fun _ _ h=>h,fun _ _ _ h=>h⟩
mutual
theorem Is.sub{K:PySem.W.Frag}{H H':Hp}(s:Sub K H H'):∀(d:D) (v:V),Is K H d v->Is K H' d v
 | .non,_,h=>h
 | .bl _,_,h=>h
 | .int _,_,h=>h
 | .str _,_,h=>h
 | .tup ds,v,h=>by
   unfold Is at h ⊢
   obtain⟨a,xs,e,h1,h2⟩:=h
   exact⟨a,xs,e,s.t a xs h1,IsAll.sub s ds xs h2⟩
 | .lst ds,v,h=>by
   unfold Is at h ⊢
   obtain⟨a,xs,e,h1,h2⟩:=h
   exact⟨a,xs,e,s.l a xs h1,IsAll.sub s ds xs h2⟩
 | .dct,v,h=>by
   unfold Is at h ⊢
   obtain⟨a,ob,e,h1,h2⟩:=h
   exact⟨a,ob,e,s.x a ob _ h1,h2⟩
 | .exc c,v,h=>by
   unfold Is at h ⊢
   obtain⟨a,oe,C,e,h1,h2⟩:=h
   exact⟨a,oe,C,e,s.x a oe _ h1,h2⟩
theorem IsAll.sub{K:PySem.W.Frag}{H H':Hp}(s:Sub K H H'):∀(ds:List D) (xs:List V),IsAll K H ds xs->IsAll K H' ds xs
 | [],_,h=>h
 | d::ds,xs,h=>by
   unfold IsAll at h ⊢
   obtain⟨x,r,e,h1,h2⟩:=h
   exact⟨x,r,e,Is.sub s d x h1,IsAll.sub s ds r h2⟩
end
theorem Is.same{K:PySem.W.Frag}{H H':Hp}{d:D}{v:V}(h:Is K H d v)(e:Same H H'):Is K H' d v:=Is.sub (.of_same e) d v h
theorem IsAll.same{K:PySem.W.Frag}{H H':Hp}{ds:List D}{xs:List V}(h:IsAll K H ds xs)(e:Same H H'):IsAll K H' ds xs:=IsAll.sub (.of_same e) ds xs h
theorem Is.int_iff{K:PySem.W.Frag}{H:Hp}{i:Int}{v:V}:Is K H (.int i) v↔v = .int i:=by unfold Is;rfl
theorem Is.bl_iff{K:PySem.W.Frag}{H:Hp}{b:Bool}{v:V}:Is K H (.bl b) v↔v = .bl b:=by unfold Is;rfl
theorem Is.str_iff{K:PySem.W.Frag}{H:Hp}{x:Str}{v:V}:Is K H (.str x) v↔v = .str x:=by unfold Is;rfl
theorem Is.non_iff{K:PySem.W.Frag}{H:Hp}{v:V}:Is K H .non v↔v = .non:=by unfold Is;rfl
theorem Is.tup_iff{K:PySem.W.Frag}{H:Hp}{ds:List D}{v:V}:Is K H (.tup ds) v↔∃a xs,v = .ref a/\SqT K H a xs/\IsAll K H ds xs:=by conv=>lhs;unfold Is
theorem Is.lst_iff{K:PySem.W.Frag}{H:Hp}{ds:List D}{v:V}:Is K H (.lst ds) v↔∃a xs,v = .ref a/\SqL K H a xs/\IsAll K H ds xs:=by conv=>lhs;unfold Is
theorem IsAll.nil_iff{K:PySem.W.Frag}{H:Hp}{xs:List V}:IsAll K H [] xs↔xs=[]:=by unfold IsAll;rfl
theorem IsAll.cons_iff{K:PySem.W.Frag}{H:Hp}{d:D}{ds:List D}{xs:List V}:IsAll K H (d::ds) xs↔∃x r,xs=x::r/\Is K H d x/\IsAll K H ds r:=by conv=>lhs;unfold IsAll
theorem IsAll.nil{K:PySem.W.Frag}{H:Hp}:IsAll K H [] []:=IsAll.nil_iff.mpr rfl
theorem IsAll.cons{K:PySem.W.Frag}{H:Hp}{d:D}{ds:List D}{x:V}{xs:List V}(h:Is K H d x)(t:IsAll K H ds xs):IsAll K H (d::ds) (x::xs):=IsAll.cons_iff.mpr ⟨x,xs,rfl,h,t⟩
theorem IsAll.length{K:PySem.W.Frag}{H:Hp}:∀{ds:List D} {xs:List V},IsAll K H ds xs->ds.length=xs.length
 | [],xs,h=>by rw[IsAll.nil_iff.mp h];rfl
 | d::ds,xs,h=>by
   obtain⟨x,r,rfl,_,t⟩:=IsAll.cons_iff.mp h
   rw[List.length_cons,List.length_cons,IsAll.length t]
theorem IsAll.get{K:PySem.W.Frag}{H:Hp}:∀{ds:List D} {xs:List V} {i:Nat} {d:D},IsAll K H ds xs->ds[i]? = some d->∃x,xs[i]? = some x/\Is K H d x
 | [],_,_,_,_,e=>by simp at e
 | d::ds,xs,0,d',h,e=>by
   obtain⟨x,r,rfl,hx,t⟩:=IsAll.cons_iff.mp h
   simp at e;subst e
   exact⟨x,rfl,hx⟩
 | d::ds,xs,i+1,d',h,e=>by
   obtain⟨x,r,rfl,hx,t⟩:=IsAll.cons_iff.mp h
   obtain⟨y,e1,hy⟩:=IsAll.get (i:=i) t (by simpa using e)
   exact⟨y,by simpa using e1,hy⟩
theorem IsAll.getX{K:PySem.W.Frag}{H:Hp}{ds:List D}{xs:List V}{i:Nat}{x:V}(h:IsAll K H ds xs)(e:xs[i]? = some x):∃d,ds[i]? = some d/\Is K H d x:=by
 have hi:i<xs.length:=(List.getElem?_eq_some_iff.mp e).1
 have hd:i<ds.length:=by rw[h.length];exact hi
 obtain⟨y,e1,hy⟩:=h.get (List.getElem?_eq_getElem hd)
 rw[e] at e1;cases e1
 exact⟨_,List.getElem?_eq_getElem hd,hy⟩
theorem IsAll.append{K:PySem.W.Frag}{H:Hp}:∀{ds es:List D} {xs ys:List V},IsAll K H ds xs->IsAll K H es ys->IsAll K H (ds++es) (xs++ys)
 | [],_,_,_,h,t=>by rw[IsAll.nil_iff.mp h];exact t
 | d::ds,es,xs,ys,h,t=>by
   obtain⟨x,r,rfl,hx,tr⟩:=IsAll.cons_iff.mp h
   exact IsAll.cons hx (IsAll.append tr t)
theorem IsAll.drop{K:PySem.W.Frag}{H:Hp}:∀{ds:List D} {xs:List V} (n:Nat),IsAll K H ds xs->IsAll K H (ds.drop n) (xs.drop n)
 | _,_,0,h=>h
 | [],xs,n+1,h=>by rw[IsAll.nil_iff.mp h];exact IsAll.nil
 | d::ds,xs,n+1,h=>by
   obtain⟨x,r,rfl,hx,tr⟩:=IsAll.cons_iff.mp h
   exact IsAll.drop n tr
theorem IsAll.take{K:PySem.W.Frag}{H:Hp}:∀{ds:List D} {xs:List V} (n:Nat),IsAll K H ds xs->IsAll K H (ds.take n) (xs.take n)
 | _,_,0,_=>by rw[List.take_zero,List.take_zero];exact IsAll.nil
 | [],xs,n+1,h=>by rw[IsAll.nil_iff.mp h];exact IsAll.nil
 | d::ds,xs,n+1,h=>by
   obtain⟨x,r,rfl,hx,tr⟩:=IsAll.cons_iff.mp h
   exact IsAll.cons hx (IsAll.take n tr)
theorem IsAll.set{K:PySem.W.Frag}{H:Hp}{d':D}{x':V}(q:Is K H d' x'):∀{ds:List D} {xs:List V} (n:Nat),IsAll K H ds xs->IsAll K H (ds.set n d') (xs.set n x')
 | [],xs,n,h=>by rw[IsAll.nil_iff.mp h];exact IsAll.nil
 | d::ds,xs,0,h=>by
   obtain⟨x,r,rfl,hx,tr⟩:=IsAll.cons_iff.mp h
   exact IsAll.cons q tr
 | d::ds,xs,n+1,h=>by
   obtain⟨x,r,rfl,hx,tr⟩:=IsAll.cons_iff.mp h
   exact IsAll.cons hx (IsAll.set q n tr)
theorem IsAll.ints{K:PySem.W.Frag}{H:Hp}:∀ns:List Int,IsAll K H (ns.map D.int) (ns.map V.int)
 | []=>IsAll.nil
 | n::ns=>IsAll.cons (Is.int_iff.mpr rfl) (IsAll.ints ns)
theorem IsAll.ints_eq{K:PySem.W.Frag}{H:Hp}:∀{ns:List Int} {xs:List V},IsAll K H (ns.map D.int) xs->xs=ns.map V.int
 | [],xs,h=>IsAll.nil_iff.mp h
 | n::ns,xs,h=>by
   obtain⟨x,r,rfl,hx,tr⟩:=IsAll.cons_iff.mp h
   rw[Is.int_iff.mp hx,IsAll.ints_eq tr];rfl
noncomputable def hid(F:List Addr)(H:Hp):Hp:=fun b=>if b∈F then none else H b
theorem y4e{F:List Addr}{H:Hp}{b:Addr}(h:b∈F):hid F H b=none:=by unfold hid;rw[if_pos h]
theorem z1o{F:List Addr}{H:Hp}{b:Addr}(h:b ∉ F):hid F H b=H b:=by unfold hid;rw[if_neg h]
theorem z2f{F:List Addr}{H:Hp}{b:Addr}{o:HO}(h:hid F H b=some o):b ∉ F/\H b=some o:=by
 unfold hid at h
 by_cases q:b∈F
 ·rw[if_pos q] at h;cases h
 ·rw[if_neg q] at h;exact⟨q,h⟩
noncomputable def FOk(H:Hp)(F:List Addr):Prop:=∀b∈F,∃xs,H b=some (.lst xs)
theorem FOk.same{H H':Hp}{F:List Addr}(h:FOk H F)(e:Same H H'):FOk H' F:=fun b hb=>let ⟨xs,q⟩:=h b hb;⟨xs,e _ _ q⟩
theorem FOk.nil{H:Hp}:FOk H []:=fun b hb=>by simp at hb
theorem FOk.cons{H:Hp}{F:List Addr}{a:Addr}{xs:List V}(h:FOk H F)(e:H a=some (.lst xs)):FOk H (a::F):=fun b hb=>by
 rcases List.mem_cons.mp hb with z | z
 ·subst z;exact⟨xs,e⟩
 ·exact h b z
theorem y9o{H:Hp}{F:List Addr}{a:Addr}:Same (hid (a::F) H) (hid F H):=fun b o h=>by
 obtain⟨h1,h2⟩:=z2f h
 rw[z1o fun z=>h1 (List.mem_cons_of_mem _ z)];exact h2
theorem y7l{H H':Hp}{F:List Addr}{a:Addr}(e:Same H H')(hn:H a=none):Same (hid F H) (hid (a::F) H'):=fun b o h=>by
 obtain⟨h1,h2⟩:=z2f h
 rw[z1o fun z=>(List.mem_cons.mp z).elim (fun q=>by rw[q,hn] at h2;cases h2) h1]
 exact e _ _ h2
theorem z1i{H H':Hp}{F:List Addr}(e:Same H H'):Same (hid F H) (hid F H'):=fun b o h=>by
 obtain⟨h1,h2⟩:=z2f h
 rw[z1o h1];exact e _ _ h2
theorem z1v{H:Hp}{F:List Addr}:Same (hid F H) H:=fun b o h=>(z2f h).2
theorem y5x{K:PySem.W.Frag}{H:Hp}{F:List Addr}{a:Addr}{xs:List V}(fo:FOk H F)(h:SqT K H a xs):SqT K (hid F H) a xs:=by
 rcases h with (h1 | ⟨o,h1⟩) | h1
 ·refine .inl (.inl ?_)
  rw[z1o fun q=>by obtain⟨ys,z⟩:=fo a q;rw[h1] at z;cases z];exact h1
 ·refine .inl (.inr ⟨o,?_⟩)
  rw[z1o fun q=>by obtain⟨ys,z⟩:=fo a q;rw[h1] at z;cases z];exact h1
 ·exact .inr h1
mutual
theorem Is.hid{K:PySem.W.Frag}{H:Hp}{F:List Addr}(fo:FOk H F):∀(d:D) (v:V),d.noL=true->Is K H d v->Is K (hid F H) d v
 | .non,_,_,h=>h
 | .bl _,_,_,h=>h
 | .int _,_,_,h=>h
 | .str _,_,_,h=>h
 | .tup ds,v,n,h=>by
   obtain⟨a,xs,e,h1,h2⟩:=Is.tup_iff.mp h
   exact Is.tup_iff.mpr ⟨a,xs,e,y5x fo h1,IsAll.hid fo ds xs (by simpa [D.noL] using n) h2⟩
 | .lst ds,v,n,h=>by simp[D.noL] at n
 | .dct,v,n,h=>by simp[D.noL] at n
 | .exc c,v,n,h=>by
   unfold Is at h ⊢
   obtain⟨a,oe,C,e,h1,h2⟩:=h
   refine⟨a,oe,C,e,?_,h2⟩
   rw[z1o fun q=>by obtain⟨ys,z⟩:=fo a q;rw[h1] at z;cases z];exact h1
theorem IsAll.hid{K:PySem.W.Frag}{H:Hp}{F:List Addr}(fo:FOk H F):∀(ds:List D) (xs:List V),D.noLs ds=true->IsAll K H ds xs->IsAll K (hid F H) ds xs
 | [],_,_,h=>h
 | d::ds,xs,n,h=>by
   obtain⟨x,r,e,h1,h2⟩:=IsAll.cons_iff.mp h
   have n':d.noL=true/\D.noLs ds=true:=by simpa [D.noLs] using n
   exact IsAll.cons_iff.mpr ⟨x,r,e,Is.hid fo d x n'.1 h1,IsAll.hid fo ds r n'.2 h2⟩
end
structure Rel (K:PySem.W.Frag) (H:Hp) (F:List Addr) (Γ:G) (σ:St):Prop where
 len:Γ.length=σ.length
 ro:∀(i:Nat) d,Γ[i]? = some (.ro d)->∃v,σ[i]? = some (some v)/\Is K (hid F H) d v
 own:∀(i:Nat) ds,Γ[i]? = some (.own ds)->∃a xs,σ[i]? = some (some (.ref a))/\a∈F/\H a=some (.lst xs)/\IsAll K (hid F H) ds xs
 inj:∀(i j:Nat) ds es a,Γ[i]? = some (.own ds)->Γ[j]? = some (.own es)->σ[i]? = some (some (.ref a))->σ[j]? = some (some (.ref a))->i=j
theorem Rel.same{K:PySem.W.Frag}{H H':Hp}{F:List Addr}{Γ:G}{σ:St}(r:Rel K H F Γ σ)(e:Same H H'):Rel K H' F Γ σ :=
 ⟨r.len,fun i d h=>let ⟨v,h1,h2⟩:=r.ro i d h;⟨v,h1,h2.same (z1i e)⟩,fun i ds h=>let ⟨a,xs,h1,h2,h3,h4⟩:=r.own i ds h;⟨a,xs,h1,h2,e _ _ h3,h4.same (z1i e)⟩,r.inj⟩
theorem Rel.look{K:PySem.W.Frag}{H:Hp}{F:List Addr}{Γ:G}{σ:St}(r:Rel K H F Γ σ){i:Nat}{d:D}(h:lk Γ i = .ok d):∃v,σ[i]? = some (some v)/\Is K H d v:=by
 unfold lk at h
 cases e:Γ[i]? with
 | none=>rw[e] at h;cases h
 | some en =>
   rw[e] at h
   cases en with
   | no=>cases h
   | ro d'=>cases h;obtain⟨v,h1,h2⟩:=r.ro i d e;exact⟨v,h1,h2.same z1v⟩
   | own ds =>
     cases h
     obtain⟨a,xs,h1,h2,h3,h4⟩:=r.own i ds e
     exact⟨.ref a,h1,Is.lst_iff.mpr ⟨a,xs,rfl,SqL.of h3,h4.same z1v⟩⟩
theorem Rel.lookr{K:PySem.W.Frag}{H:Hp}{F:List Addr}{Γ:G}{σ:St}(r:Rel K H F Γ σ){i:Nat}{d:D}(h:lkr Γ i = .ok d):∃v,σ[i]? = some (some v)/\Is K (hid F H) d v:=by
 unfold lkr at h
 cases e:Γ[i]? with
 | none=>rw[e] at h;cases h
 | some en =>
   rw[e] at h
   cases en with
   | no=>cases h
   | ro d'=>cases h;exact r.ro i d e
   | own ds=>cases h
structure Ext (H:Hp) (F:List Addr) (H':Hp) (F':List Addr):Prop where
 keep:∀b o,b ∉ F->H b=some o->H' b=some o
 old:∀b,b∈F'->b∈F∨H b=none
theorem Ext.refl{H:Hp}{F:List Addr}:Ext H F H F:=⟨fun _ _ _ h=>h,fun _ h=>.inl h⟩
theorem Ext.of_same{H H':Hp}{F:List Addr}(e:Same H H'):Ext H F H' F:=⟨fun _ _ _ h=>e _ _ h,fun _ h=>.inl h⟩
theorem Ext.trans{H H1 H2:Hp}{F F1 F2:List Addr}(a:Ext H F H1 F1)(b:Ext H1 F1 H2 F2):Ext H F H2 F2 where
 keep:=fun c o hc h=>b.keep c o (fun z=>(a.old c z).elim hc fun n=>by rw[h] at n;cases n) (a.keep c o hc h)
 old:=fun c hc=>by
  rcases b.old c hc with h | h
  ·exact a.old c h
  ·by_cases q:c∈F
   ·exact .inl q
   ·refine .inr ?_
    cases e:H c with
    | none=>rfl
    | some o=>rw[a.keep c o q e] at h;cases h
theorem Ext.same{H H':Hp}{F':List Addr}(e:Ext H [] H' F'):Same H H':=fun b o h=>e.keep b o (by simp) h
theorem Ext.hid{H H':Hp}{F F':List Addr}(e:Ext H F H' F'):Same (hid F H) (hid F' H'):=fun b o h=>by
 obtain⟨h1,h2⟩:=z2f h
 have h3:=e.keep b o h1 h2
 rw[z1o fun z=>(e.old b z).elim h1 fun n=>by rw[h2] at n;cases n]
 exact h3
noncomputable def y2h(X:Cx)(pins:List (Addr×Obj))(σ:St)(H:Hp)(c:Er)(x:Value)(s:Shared):Prop :=
 Inv X pins σ H s/\∃(e C:Addr) (oe:Obj) (vs:Array Value),x = .ref e/\X.mg c.nm=some (.ref C)/\H e=none/\X.s₀.heap.get? e=none/\e≠X.env.locals/\(∀y k,X.env.cells.lookup y=some k->k≠e)/\(∀p∈X.pn++pins,p.1≠e) /\
  s.heap.get? e=some oe/\oe.cls = .ref C/\oe.data = .fields vs/\(∃a0,vs[0]? = some a0) /\
  (vs[1]? = some .none∨∃(T:Addr) (oT:Obj) (ts:Array Value),vs[1]? = some (.ref T)/\H T=none/\X.s₀.heap.get? T=none/\T≠X.env.locals/\(∀y k,X.env.cells.lookup y=some k->k≠T)/\(∀p∈X.pn++pins,p.1≠T)/\T≠e /\
    s.heap.get? T=some oT/\oT.data = .fields ts/\(ts[3]? = some .none∨∃L,X.env.frame=some L/\ts[3]? = some (rawInt L)))
noncomputable def Post(X:Cx)(pins:List (Addr×Obj))(σ:St)(H:Hp)(r:R D)(u:Value)(s':Shared):Prop :=
 ∃d v H',r = .ok d/\Inv X pins σ H' s'/\RelV v u/\Same H H'/\Is X.K H' d v
noncomputable def z1l{α:Type}(X:Cx)(pins:List (Addr×Obj))(σ:St)(H:Hp)(r:R α)(x:Value)(s':Shared):Prop :=
 ∃c H',r = .er c/\Same H H'/\y2h X pins σ H' c x s'
theorem z1l.bind{α β:Type}{X:Cx}{pins:List (Addr×Obj)}{σ:St}{H:Hp}{r:R α}{x:Value}{s':Shared}(h:z1l X pins σ H r x s')(k:α->R β):z1l X pins σ H (r>>=k) x s':=by
 obtain⟨c,H',e,h1,h2⟩:=h
 exact⟨c,H',R.stop e k,h1,h2⟩
theorem z1l.later{α β:Type}{X:Cx}{pins:List (Addr×Obj)}{σ:St}{H H1:Hp}{r:R α}{a:α}{k:α->R β}{x:Value}{s':Shared}(e:r = .ok a)(s:Same H H1)(h:z1l X pins σ H1 (k a) x s'):z1l X pins σ H (r>>=k) x s':=by
 obtain⟨c,H',e1,h1,h2⟩:=h
 exact⟨c,H',(R.step e k).trans e1,s.trans h1,h2⟩
structure PD (X:Cx) (e:Expr) (g:G->R D):Prop where
 run:∀(pins:List (Addr×Obj)) (s:Shared) (σ:St) (H:Hp) (F:List Addr) (Γ:G),Inv X pins σ H s->FOk H F->Rel X.K H F Γ σ->g Γ ≠ .no ->
  wpAny (model X.prog X.w) X.A (eval e X.env) (Post X pins σ H (g Γ)) (z1l X pins σ H (g Γ)) s
structure PDr (X:Cx) (e:Expr) (g:G->R D):Prop where
 run:∀(pins:List (Addr×Obj)) (s:Shared) (σ:St) (H:Hp) (F:List Addr) (Γ:G),Inv X pins σ H s->FOk H F->Rel X.K H F Γ σ->g Γ ≠ .no ->
  wpAny (model X.prog X.w) X.A (eval e X.env) (fun u s'=>∃d v H',g Γ = .ok d/\Inv X pins σ H' s'/\RelV v u/\Same H H'/\Is X.K (hid F H') d v) (z1l X pins σ H (g Γ)) s
structure PF (X:Cx) (e:Expr) (g:G->R (List D)):Prop where
 run:∀(pins:List (Addr×Obj)) (s:Shared) (σ:St) (H:Hp) (F:List Addr) (Γ:G),Inv X pins σ H s->FOk H F->Rel X.K H F Γ σ->g Γ ≠ .no ->
  wpAny (model X.prog X.w) X.A (eval e X.env) (fun u s'=>∃ds a xs H',g Γ = .ok ds/\Inv X pins σ H' s'/\u = .ref a/\Same H H'/\H a=none/\H' a=some (.lst xs)/\IsAll X.K (hid (a::F) H') ds xs) (z1l X pins σ H (g Γ)) s
structure PTD (X:Cx) (e:Expr) (g:G->R Bool):Prop where
 run:∀(pins:List (Addr×Obj)) (s:Shared) (σ:St) (H:Hp) (F:List Addr) (Γ:G),Inv X pins σ H s->FOk H F->Rel X.K H F Γ σ->g Γ ≠ .no ->
  wpAny (model X.prog X.w) X.A (isTrue e X.env (eval e X.env)) (fun b s'=>∃H',g Γ = .ok b/\Inv X pins σ H' s'/\Same H H') (z1l X pins σ H (g Γ)) s
structure PWD (X:Cx) (e:Expr) (g:G->R Bool):Prop where
 run:∀(whole:Sem Value) (pins:List (Addr×Obj)) (s:Shared) (σ:St) (H:Hp) (F:List Addr) (Γ:G),Inv X pins σ H s->FOk H F->Rel X.K H F Γ σ->g Γ ≠ .no ->
  wpAny (model X.prog X.w) X.A (isTrue e X.env whole) (fun b s'=>∃H',g Γ = .ok b/\Inv X pins σ H' s'/\Same H H') (z1l X pins σ H (g Γ)) s
theorem PWD.pt{X:Cx}{e:Expr}{g:G->R Bool}(h:PWD X e g):PTD X e g:=⟨h.run _⟩
structure PAD (X:Cx) (es:List Expr) (g:G->R (List D)):Prop where
 run:∀(pos:Pos) (pins:List (Addr×Obj)) (s:Shared) (σ:St) (H:Hp) (F:List Addr) (Γ:G),Inv X pins σ H s->FOk H F->Rel X.K H F Γ σ->g Γ ≠ .no ->
  wpAny (model X.prog X.w) X.A (spliced (backTo pos (starEach es X.env))) (fun us s'=>∃ds vs H',g Γ = .ok ds/\Inv X pins σ H' s'/\Vals vs us/\Same H H'/\IsAll X.K H' ds vs) (z1l X pins σ H (g Γ)) s
section
variable {X:Cx}{e a b c:Expr}{g ga gb gc:G->R D}{pos:Pos}
theorem PDr.pd(h:PDr X e g):PD X e g:=⟨fun pins s σ H F Γ I fo rl hg =>
 thn (h.run pins s σ H F Γ I fo rl hg) fun _ _ ⟨d,v,H',e1,I',r,S,i⟩=>⟨d,v,H',e1,I',r,S,i.same z1v⟩⟩
theorem PD.ro(h:PD X e g):PDr X e (gNL g):=⟨fun pins s σ H F Γ I fo rl hg =>
 wpAny_mono (h.run pins s σ H F Γ I fo rl (R.left hg)) (fun _ _ ⟨d,v,H',e1,I',r,S,i⟩=>by
  have hgx:=R.next hg e1
  obtain⟨n,e2⟩:=R.guard_ne hgx
  exact⟨d,v,H',(R.step e1 _).trans e2,I',r,S,Is.hid (fo.same S) d v n i⟩) fun _ _ x=>x.bind _⟩
theorem PF.ro{g:G->R (List D)}(h:PF X e g):PDr X e (gL g):=⟨fun pins s σ H F Γ I fo rl hg =>
 wpAny_mono (h.run pins s σ H F Γ I fo rl (R.left hg)) (fun _ _ ⟨ds,p,xs,H',e1,I',eu,S,hn,hp,i⟩=>by
  have hF:p ∉ F:=fun z=>by obtain⟨ys,q⟩:=fo p z;rw[hn] at q;cases q
  exact⟨.lst ds,.ref p,H',(R.step e1 _),I',eu,S,Is.lst_iff.mpr ⟨p,xs,rfl,SqL.of (by rw[z1o hF];exact hp),i.same y9o⟩⟩) fun _ _ x=>x.bind _⟩
theorem PF.pd{g:G->R (List D)}(h:PF X e g):PD X e (gL g):=h.ro.pd
theorem PD.of{t:TE}(h:PE X.nox e t)(hq:∀σ H F Γ,FOk H F->Rel X.K H F Γ σ->g Γ ≠ .no->t σ H fun v H'=>∃d,g Γ = .ok d/\Same H H'/\Is X.K H' d v):PD X e g:=⟨fun pins s σ H F Γ I fo rl hg =>
 wpAny_mono (h pins s σ H _ (I.wish _) (hq σ H F Γ fo rl hg)) (fun _ _ ⟨v,H',I',r,d,e1,S,i⟩=>⟨d,v,H',e1,I'.unwish,r,S,i⟩) fun _ _ z=>False.elim z⟩
theorem z0b(i:Nat){x:Str}(hN:X.N[i]? = some x:=by rfl)(hv:Vis X.env.scope x:=by first | exact Or.inl rfl | exact Or.inr (Or.inl rfl) | exact Or.inr (Or.inr rfl))(hd:(x==("__debug__":Str))=false:=by decide)
 (hcd:(x==("__classdict__":Str))=false:=by decide):PD X (.Name x pos) (gV i) :=
 PD.of (t:=tVar i) (y1d (X:=X.nox) hN hv hd hcd) fun σ H F Γ fo rl hg=>by
  obtain⟨d,e⟩:=x5b hg
  obtain⟨v,h1,h2⟩:=rl.look e
  exact⟨v,h1,d,e,.refl _,h2⟩
theorem z9t(i:Nat){x:Str}(hN:X.N[i]? = some x:=by rfl)(hv:Vis X.env.scope x:=by first | exact Or.inl rfl | exact Or.inr (Or.inl rfl) | exact Or.inr (Or.inr rfl))(hd:(x==("__debug__":Str))=false:=by decide)
 (hcd:(x==("__classdict__":Str))=false:=by decide):PDr X (.Name x pos) (gVr i):=by
 refine⟨fun pins s σ H F Γ I fo rl hg=>?_⟩
 obtain⟨d,e⟩:=x3y hg
 obtain⟨v,h1,h2⟩:=rl.lookr e
 exact wpAny_mono (y1d (X:=X.nox) hN hv hd hcd pins s σ H (fun v' H'=>v'=v/\H'=H) (I.wish _) ⟨v,h1,rfl,rfl⟩) (fun _ _ ⟨v',H',I',r,e1,e2⟩=>by
  subst e1 e2
  exact⟨d,v',H',e,I'.unwish,r,.refl _,h2⟩) fun _ _ z=>False.elim z
theorem z0g{i:Int}{j}:PD X (.Constant (.int i) j pos) (gC (.int i)):=PD.of (t:=tC (.int i)) x3m fun _ _ _ _ _ _ _=>⟨_,rfl,.refl _,Is.int_iff.mpr rfl⟩
theorem y8z{b:Bool}{j}:PD X (.Constant (.bool b) j pos) (gC (.bl b)):=PD.of (t:=tC (.bl b)) x4x fun _ _ _ _ _ _ _=>⟨_,rfl,.refl _,Is.bl_iff.mpr rfl⟩
theorem y1f{j}:PD X (.Constant .none j pos) (gC .non):=PD.of (t:=tC .non) x3l fun _ _ _ _ _ _ _=>⟨_,rfl,.refl _,Is.non_iff.mpr rfl⟩
theorem y1e{x:Str}{j}:PD X (.Constant (.str x) j pos) (gC (.str x)):=PD.of (t:=tC (.str x)) x3k fun _ _ _ _ _ _ _=>⟨_,rfl,.refl _,Is.str_iff.mpr rfl⟩
noncomputable def OpD(X:Cx)(f:Value->Value->Sem Value)(g:D->D->R D):Prop:=∃r:R2,OpR X.nox f r/\∀H x y dx dy,Is X.K H dx x->Is X.K H dy y->g dx dy ≠ .no->r x y H fun z H'=>∃d,g dx dy = .ok d/\Same H H'/\Is X.K H' d z
theorem OpD.run{f:Value->Value->Sem Value}{g:D->D->R D}(h:OpD X f g){pins:List (Addr×Obj)}{s:Shared}{σ:St}{H:Hp}{x y:V}{v u:Value}{dx dy:D}(I:Inv X pins σ H s)(rx:RelV x v)(ry:RelV y u)
 (ix:Is X.K H dx x) (iy:Is X.K H dy y) (hg:g dx dy ≠ .no) {E:Value->Shared->Prop}:wpAny (model X.prog X.w) X.A (f v u) (Post X pins σ H (g dx dy)) E s:=by
 obtain⟨r,ho,hr⟩:=h
 exact wpAny_mono (ho pins s σ H x y v u _ (I.wish _) rx ry (hr H x y dx dy ix iy hg)) (fun _ _ ⟨z,H',I',rz,d,e,S,i⟩=>⟨d,z,H',e,I'.unwish,rz,S,i⟩) fun _ _ z=>False.elim z
theorem Post.bind{pins:List (Addr×Obj)}{σ:St}{H H1:Hp}{α:Type}{r:R α}{k:α->R D}{a:α}{u:Value}{s':Shared}(e:r = .ok a)(S:Same H H1)(h:Post X pins σ H1 (k a) u s'):Post X pins σ H (r>>=k) u s':=by
 obtain⟨d,v,H',e1,I,rv,S1,i⟩:=h
 exact⟨d,v,H',(R.step e k).trans e1,I,rv,S.trans S1,i⟩
theorem binD{g2:D->D->R D}{f:Value->Value->Sem Value}(ho:OpD X f g2)(ha:PD X a ga)(hb:PD X b gb){pins:List (Addr×Obj)}{s:Shared}{σ:St}{H:Hp}{F:List Addr}{Γ:G}(I:Inv X pins σ H s)(fo:FOk H F)(rl:Rel X.K H F Γ σ)(hg:gBin g2 ga gb Γ ≠ .no) :
 wpAny (model X.prog X.w) X.A (eval a X.env) (fun v s₁=>wpAny (model X.prog X.w) X.A (eval b X.env) (fun u s₂=>wpAny (model X.prog X.w) X.A (f v u) (Post X pins σ H (gBin g2 ga gb Γ)) (z1l X pins σ H (gBin g2 ga gb Γ)) s₂) (z1l X pins σ H (gBin g2 ga gb Γ)) s₁) (z1l X pins σ H (gBin g2 ga gb Γ)) s:=by
 refine wpAny_mono (ha.run pins s σ H F Γ I fo rl (R.left hg)) (fun v s1 ⟨dx,x,H1,e1,I1,r1,S1,i1⟩=>?_) fun _ _ x=>x.bind _
 have hg1:=R.next hg e1
 refine wpAny_mono (hb.run pins s1 σ H1 F Γ I1 (fo.same S1) (rl.same S1) (R.left hg1)) (fun u s2 ⟨dy,y,H2,e2,I2,r2,S2,i2⟩=>?_) fun _ _ x=>z1l.later e1 S1 (x.bind _)
 have hg2:=R.next hg1 e2
 exact thn (ho.run I2 r1 r2 (i1.same S2) i2 hg2) fun _ _ q=>Post.bind e1 S1 (Post.bind e2 S2 q)
theorem z0u{op:Operator}{g2:D->D->R D}(ho:OpD X (binaryOp op) g2)(ha:PD X a ga)(hb:PD X b gb):PD X (.BinOp a op b pos) (gBin g2 ga gb):=⟨fun pins s σ H F Γ I fo rl hg=>wpAny_BinOp (binD ho ha hb I fo rl hg)⟩
theorem y3u{op:CmpOp}{g2:D->D->R D}(ho:OpD X (compareOp op) g2)(ha:PD X a ga)(hb:PD X b gb)(hm:behindInMarks op b=false):PD X (.Compare a [op] [b] pos) (gBin g2 ga gb):=⟨fun pins s σ H F Γ I fo rl hg=>wpAny_Compare1 (binD ho ha hb I fo rl hg) hm⟩
theorem y1c{pins:List (Addr×Obj)}{σ:St}{H:Hp}{r:R D}{u:Value}{s':Shared}(h:Post X pins σ H r u s')(hg:(r>>=asB) ≠ .no):∃b H',u = .bool b/\(r>>=asB) = .ok b/\Inv X pins σ H' s'/\Same H H':=by
 obtain⟨d,v,H',e1,I,rv,S,i⟩:=h
 obtain⟨b,rfl,e2⟩:=x4p (R.next hg e1)
 rw[Is.bl_iff.mp i] at rv
 exact⟨b,H',rv,(R.step e1 _).trans e2,I,S⟩
theorem z1n{op:CmpOp}{g2:D->D->R D}(ho:OpD X (compareOp op) g2)(ha:PD X a ga)(hb:PD X b gb)(hm:behindInMarks op b=false):PTD X (.Compare a [op] [b] pos) (gT (gBin g2 ga gb)):=by
 refine⟨fun pins s σ H F Γ I fo rl hg=>?_⟩
 refine wpAny_isTrue_Compare1 (wpAny_mono (binD ho ha hb I fo rl (R.left hg)) (fun v s1 h1=>wpAny_mono h1 (fun u s2 h2=>wpAny_mono h2 (fun z s3 h3=>?_) fun _ _ x=>x.bind _) fun _ _ x=>x.bind _) fun _ _ x=>x.bind _) hm
 obtain⟨b,H',rfl,e,I',S⟩:=y1c h3 hg
 exact wpAny_truthy_bool ⟨H',e,I',S⟩
theorem z5r(ha:PD X a ga)(he:∀whole,isTrue a X.env whole=(do let v <-whole;standAt a.pos;holding [v] (truthy v)):=by intro _;rfl):PTD X a (gT ga):=by
 refine⟨fun pins s σ H F Γ I fo rl hg=>?_⟩
 refine isTrue_plain (wpAny_mono (ha.run pins s σ H F Γ I fo rl (R.left hg)) (fun v s1 h3=>?_) fun _ _ x=>x.bind _) (he _)
 obtain⟨b,H',rfl,e,I',S⟩:=y1c h3 hg
 exact wpAny_truthy_bool ⟨H',e,I',S⟩
variable {gA gB:G->R Bool}{rest:List Expr}
theorem z7x(ha:PTD X a gA):PWD X (.BoolOp .Or [a] pos) gA:=by
 refine⟨fun wh pins s σ H F Γ I fo rl hg=>?_⟩
 refine isTrue_or (thn (ha.run pins s σ H F Γ I fo rl hg) fun c s1 e=>?_)
 cases c with
 | false=>exact isTrue_or_nil e
 | true=>exact e
theorem z8y(ha:PTD X a gA)(hb:PWD X (.BoolOp .Or (b::rest) pos) gB):PWD X (.BoolOp .Or (a::b::rest) pos) (gOr gA gB):=by
 refine⟨fun wh pins s σ H F Γ I fo rl hg=>?_⟩
 refine isTrue_or (wpAny_mono (ha.run pins s σ H F Γ I fo rl (R.left hg)) (fun c s1 ⟨H1,e1,I1,S1⟩=>?_) fun _ _ x=>x.bind _)
 have hg1:=R.next hg e1
 cases c with
 | false=>exact wpAny_mono (hb.run wh pins s1 σ H1 F Γ I1 (fo.same S1) (rl.same S1) hg1) (fun _ _ ⟨H2,e2,I2,S2⟩=>⟨H2,(R.step e1 _).trans e2,I2,S1.trans S2⟩) fun _ _ x=>z1l.later e1 S1 x
 | true=>exact⟨H1,R.step e1 _,I1,S1⟩
theorem z6s(ha:PTD X a gA):PTD X (.UnaryOp .Not a pos) (gNot gA):=⟨fun pins s σ H F Γ I fo rl hg =>
 isTrue_not (wpAny_mono (ha.run pins s σ H F Γ I fo rl (R.left hg)) (fun c s1 ⟨H1,e1,I1,S1⟩=>⟨H1,R.step e1 _,I1,S1⟩) fun _ _ x=>x.bind _)⟩
theorem x0j(ha:PD X a ga):PD X (.UnaryOp .USub a pos) (gNeg ga):=by
 refine⟨fun pins s σ H F Γ I fo rl hg=>?_⟩
 refine UnaryOp_ (wpAny_mono (ha.run pins s σ H F Γ I fo rl (R.left hg)) (fun v s1 ⟨d,x,H1,e1,I1,r1,S1,i1⟩=>?_) fun _ _ x=>x.bind _)
 have hg1:=R.next hg e1
 cases d with
 | int i =>
   rw[Is.int_iff.mp i1] at r1
   obtain⟨t,rfl⟩:=r1
   exact neg_int (Post.bind e1 S1 ⟨.int (-i),.int (-i),H1,rfl,I1.tok _,⟨_,rfl⟩,.refl _,Is.int_iff.mpr rfl⟩)
 | _=>exact absurd rfl hg1
theorem x4y(hc:PTD X c gA)(ha:PD X a ga)(hb:PD X b gb):PD X (.IfExp c a b pos) (gIf gA ga gb):=by
 refine⟨fun pins s σ H F Γ I fo rl hg=>?_⟩
 refine wpAny_IfExp (wpAny_mono (hc.run pins s σ H F Γ I fo rl (R.left hg)) (fun k s1 ⟨H1,e1,I1,S1⟩=>?_) fun _ _ x=>x.bind _)
 have hg1:=R.next hg e1
 cases k with
 | true=>exact wpAny_mono (ha.run pins s1 σ H1 F Γ I1 (fo.same S1) (rl.same S1) hg1) (fun _ _ q=>Post.bind e1 S1 q) fun _ _ q=>z1l.later e1 S1 q
 | false=>exact wpAny_mono (hb.run pins s1 σ H1 F Γ I1 (fo.same S1) (rl.same S1) hg1) (fun _ _ q=>Post.bind e1 S1 q) fun _ _ q=>z1l.later e1 S1 q
variable {es:List Expr}{gs:G->R (List D)}
theorem z0c:PAD X [] gNil:=⟨fun pos pins s σ H F Γ I fo rl hg=>Calls.spliced_nil ⟨[],[],H,rfl,I,.nil,.refl _,IsAll.nil⟩⟩
theorem z0a(ha:PD X e g)(hr:PAD X es gs)(hs:starEach (e::es) X.env=(false,eval e X.env)::starEach es X.env:=by rfl):PAD X (e::es) (gCons g gs):=by
 refine⟨fun pos pins s σ H F Γ I fo rl hg=>?_⟩
 rw[hs]
 show wpAny _ _ (spliced ((false,eval e X.env)::backTo pos (starEach es X.env))) _ _ s
 refine Calls.spliced_cons (wpAny_mono (ha.run pins s σ H F Γ I fo rl (R.left hg)) (fun u s1 ⟨d,x,H1,e1,I1,r1,S1,i1⟩=>?_) fun _ _ x=>x.bind _)
 have hg1:=R.next hg e1
 refine wpAny_mono (hr.run pos pins s1 σ H1 F Γ I1 (fo.same S1) (rl.same S1) (R.left hg1)) (fun us s2 ⟨ds,vs,H2,e2,I2,r2,S2,i2⟩=>?_) fun _ _ x=>z1l.later e1 S1 (x.bind _)
 exact⟨d::ds,x::vs,H2,(R.step e1 _).trans (R.step e2 _),I2,.cons r1 r2,S1.trans S2,IsAll.cons (i1.same S2) i2⟩
theorem z4a{n:Nat}(h:n<=1000):n<=sizeLine:=Nat.le_of_lt (y5z h)
theorem z1e{H:Hp}{p:Addr}(h:H p=none)(o:HO):Same H (upd H p o):=fun b u q=>by rw[z0l (z0k q h)];exact q
theorem z7z{x1}(h:PAD X es gs):PD X (.Tuple es x1 pos) (gTup gs):=by
 refine⟨fun pins s σ H F Γ I fo rl hg=>?_⟩
 refine wpAny_Tuple_spliced (wpAny_mono (h.run pos pins s σ H F Γ I fo rl (R.left hg)) (fun us s1 ⟨ds,vs,H1,e1,I1,r1,S1,i1⟩=>?_) fun _ _ x=>x.bind _)
 have hgx:=R.next hg e1
 obtain⟨hl,e2⟩:=R.guard_ne hgx
 have hz:vs.length<=sizeLine:=by rw[<-i1.length];exact z4a hl
 refine⟨by rw[<-r1.length];exact hz,?_⟩
 have hf:H1 s1.heap.objs.size=none:=I1.hok.fresh (Nat.le_refl _)
 have S2:=z1e hf (.tup vs)
 refine Post.bind e1 S1 ⟨.tup ds,.ref s1.heap.objs.size,upd H1 s1.heap.objs.size (.tup vs),e2,I1.laid (t':=s1.toks) (fun b u e=>Heap.get?_push_of_some _ e) (Nat.le_refl _) ?_,rfl,S2,Is.tup_iff.mpr ⟨_,vs,rfl,SqT.of z0n,i1.same S2⟩⟩
 exact⟨hz,us,r1,⟨_,Heap.get?_push_size _ rfl,rfl,_,rfl⟩⟩
theorem z5c(h:PAD X es gs):PF X (.List es pos) (gLst gs):=by
 refine⟨fun pins s σ H F Γ I fo rl hg=>?_⟩
 refine wpAny_List_spliced (wpAny_mono (h.run pos pins s σ H F Γ I fo rl (R.left hg)) (fun us s1 ⟨ds,vs,H1,e1,I1,r1,S1,i1⟩=>?_) fun _ _ x=>x.bind _)
 have hgx:=R.next hg e1
 obtain⟨⟨hl,hn⟩,e2⟩:=R.guard_ne hgx
 have hz:vs.length<=sizeLine:=by rw[<-i1.length];exact z4a hl
 refine⟨by rw[<-r1.length];exact hz,?_⟩
 have hf:H1 s1.heap.objs.size=none:=I1.hok.fresh (Nat.le_refl _)
 have S2:=z1e hf (.lst vs)
 have hH:H s1.heap.objs.size=none:=S1.free hf
 refine⟨ds,s1.heap.objs.size,vs,upd H1 s1.heap.objs.size (.lst vs),(R.step e1 _).trans e2,I1.laid (t':=s1.toks) (fun b u e=>Heap.get?_push_of_some _ e) (Nat.le_refl _) ?_,rfl,S1.trans S2,hH,z0n,?_⟩
 ·exact⟨hz,us,0,r1,Heap.get?_push_size _ rfl⟩
 ·exact IsAll.hid (((fo.same S1).same S2).cons z0n) ds vs hn (i1.same S2)
end
section
variable {X:Cx}{e a b c:Expr}{g ga gb gc:G->R D}{pos:Pos}
theorem od_I{f:Value->Value->Sem Value}{C:Int->Int->Prop}[∀i j,Decidable (C i j)]{v:Int->Int->V}{d:Int->Int->D}(hd:∀K H i j,Is K H (d i j) (v i j))(ho:OpR X.nox f (rI C v)) :
 OpD X f (fun x y=>match x,y with | .int i,.int j=>R.guard (C i j) (.ok (d i j)) | _,_=>.no):=by
 refine⟨_,ho,fun H x y dx dy ix iy hg=>?_⟩
 cases dx with
 | int i =>
   cases dy with
   | int j =>
     obtain⟨hc,e⟩:=R.guard_ne (show R.guard (C i j) (.ok (d i j)) ≠ .no from hg)
     exact⟨i,j,Is.int_iff.mp ix,Is.int_iff.mp iy,hc,d i j,e,.refl _,hd _ _ _ _⟩
   | _=>exact absurd rfl hg
 | _=>exact absurd rfl hg
theorem x1v{f:Value->Value->Sem Value}{v:Int->Int->V}{d:Int->Int->D}(hd:∀K H i j,Is K H (d i j) (v i j))(ho:OpR X.nox f (rI0 v)) :
 OpD X f (fun x y=>match x,y with | .int i,.int j=>.ok (d i j) | _,_=>.no):=by
 refine⟨_,ho,fun H x y dx dy ix iy hg=>?_⟩
 cases dx with
 | int i =>
   cases dy with
   | int j=>exact⟨i,j,Is.int_iff.mp ix,Is.int_iff.mp iy,d i j,rfl,.refl _,hd _ _ _ _⟩
   | _=>exact absurd rfl hg
 | _=>exact absurd rfl hg
theorem y1g:OpD X (binaryOp .Sub) dSub:=x1v (d:=fun i j=>.int (i-j)) (fun _ _ _ _=>Is.int_iff.mpr rfl) x3o
theorem y1h:OpD X (binaryOp .FloorDiv) dDiv:=od_I (d:=fun i j=>.int (i/j)) (fun _ _ _ _=>Is.int_iff.mpr rfl) (C:=fun i j=>0<j/\j<1073741824) x1q
theorem z3i:OpD X (binaryOp .Mod) dMod:=od_I (d:=fun i j=>.int (i%j)) (fun _ _ _ _=>Is.int_iff.mpr rfl) (C:=fun i j=>0<j) x3s
theorem x3v:OpD X (binaryOp .Pow) dPow:=od_I (d:=fun i j=>.int (i^j.toNat)) (fun _ _ _ _=>Is.int_iff.mpr rfl) (C:=fun i j=>0<=j/\j<=1000000/\i.natAbs<18446744073709551616) x3q
theorem x3w:OpD X (compareOp .Lt) dLt:=x1v (d:=fun i j=>.bl (decide (i<j))) (fun _ _ _ _=>Is.bl_iff.mpr rfl) x4z
theorem x1u:OpD X (compareOp .Gt) dGt:=x1v (d:=fun i j=>.bl (decide (j<i))) (fun _ _ _ _=>Is.bl_iff.mpr rfl) x5a
noncomputable def x4v(K:PySem.W.Frag):R2:=fun x y H Q=>∃a b xs ys,x = .ref a/\y = .ref b/\SqT K H a xs/\SqT K H b ys/\xs.length+ys.length<=sizeLine /\
 (xs=[]->Q (.ref b) H)/\(xs≠[]->ys=[]->Q (.ref a) H)/\(xs≠[]->ys≠[]->∀p,H p=none->Q (.ref p) (upd H p (.tup (xs++ys))))
theorem x1t:OpR X (binaryOp .Add) (x4v X.K):=by
 intro pins s σ H x y v u Q I rx ry h
 obtain⟨a,b,xs,ys,rfl,rfl,ha,hb,hz,q0,q1,q2⟩:=h
 by_cases hx:xs=[]
 ·cases rx
  cases ry
  obtain⟨its,r1,p1,_⟩:=I.tuple ha
  obtain⟨its2,r2,p2,_⟩:=I.tuple hb
  have hi:its=[]:=r1.nil_iff.mpr hx
  obtain⟨⟨cls,dd,data,sl⟩,ho,hc,n,hd⟩:=id p1
  obtain⟨⟨cls2,dd2,data2,sl2⟩,ho2,hc2,n2,hd2⟩:=id p2
  simp only at hc hd hc2 hd2
  subst hc hd hc2 hd2
  exact concat_meets ⟨_,ho,rfl⟩ ⟨_,ho2,rfl⟩ noFill_tuple_add seq_tuple_add PySem.F.slot_tuple_add PySem.F.entry_tuple_add (PySem.F.args_tuple_add_2 _ _)
   (tuple_addW0 a b its.toArray its2.toArray n n2 dd dd2 sl sl2 (by rw[hi];rfl)) ⟨ho,ho2,⟨.ref b,H,I,rfl,q0 hx⟩⟩
 ·exact x1r pins s σ H _ _ v u Q I rx ry ⟨a,b,xs,ys,rfl,rfl,ha,hb,hx,hz,q1 hx,q2 hx⟩
theorem z5d:OpD X (binaryOp .Add) dAdd:=by
 refine⟨_,OpR.or (x3u (X:=X.nox)) (x1t (X:=X.nox)),fun H x y dx dy ix iy hg=>?_⟩
 cases dx with
 | int i =>
   cases dy with
   | int j=>exact .inl ⟨i,j,Is.int_iff.mp ix,Is.int_iff.mp iy,.int (i+j),rfl,.refl _,Is.int_iff.mpr rfl⟩
   | _=>exact absurd rfl hg
 | tup ds =>
   cases dy with
   | tup es =>
     obtain⟨hc,e⟩:=R.guard_ne (show R.guard (ds.length+es.length<=1000) (R.ok (D.tup (ds++es)))≠R.no from hg)
     obtain⟨a,xs,rfl,h1,h2⟩:=Is.tup_iff.mp ix
     obtain⟨b,ys,rfl,h3,h4⟩:=Is.tup_iff.mp iy
     refine .inr ⟨a,b,xs,ys,rfl,rfl,h1,h3,by rw[<-h2.length,<-h4.length];exact z4a hc,fun z=>?_,fun z z'=>?_,fun z z' p hp=>?_⟩
     ·refine⟨.tup (ds++es),e,.refl _,Is.tup_iff.mpr ⟨b,ys,rfl,h3,?_⟩⟩
      have:ds=[]:=List.length_eq_zero_iff.mp (by rw[h2.length,z];rfl)
      rw[this];exact h4
     ·refine⟨.tup (ds++es),e,.refl _,Is.tup_iff.mpr ⟨a,xs,rfl,h1,?_⟩⟩
      have:es=[]:=List.length_eq_zero_iff.mp (by rw[h4.length,z'];rfl)
      rw[this,List.append_nil];exact h2
     ·have S:=z1e hp (.tup (xs++ys))
      exact⟨.tup (ds++es),e,S,Is.tup_iff.mpr ⟨p,xs++ys,rfl,SqT.of z0n,(h2.append h4).same S⟩⟩
   | _=>exact absurd rfl hg
 | _=>exact absurd rfl hg
theorem y4t(l:Addr)(items:Array Value)(n:Nat)(dd:Option Addr)(sl:Array (Option Value))(k:Int)(u:Tok)(h1:(decide (k < -(2^63))||decide (k≥2^63))=false)(hc:(items.isEmpty||k==1)=true) :
 Meets (Builtin.«tuple.__mul__» ⟨[.ref l,.int k u],[]⟩) (fun _ Q s=>s.heap.get? l=some { cls:=.type "tuple",dict:=dd,data:=.seq items n,slots:=sl }/\Q (.ok (.ret (Value.ref l))) s) :=
 .of_wp fun prog w A Q s h=>by obtain⟨hp,g,d,tk,os⟩:=s;obtain⟨hl,h⟩:=h;have f1:=AutoSeq1.idx_int;wp_walk using wpAny_loadPart' hl;refine wpAny_ite_false (by rw[h1];rfl) ?_;wp_walk using wpAny_loadPart' hl;exact⟨_,rfl,h⟩
theorem y4v(l:Addr)(items:Array Value)(n:Nat)(dd:Option Addr)(sl:Array (Option Value))(k:Int)(u:Tok)(h1:(decide (k < -(2^63))||decide (k≥2^63))=false)(hc:(items.isEmpty||k==1)=false)(hc2:(decide (k<=0)||items.isEmpty)=true) :
 Meets (Builtin.«tuple.__mul__» ⟨[.ref l,.int k u],[]⟩) (fun _ Q s=>s.heap.get? l=some { cls:=.type "tuple",dict:=dd,data:=.seq items n,slots:=sl }/\Q (.ok (.ret (Value.ref s.heap.objs.size))) { s with heap:=s.heap.push { cls:=.type "tuple",data:=.seq #[] } }) :=
 .of_wp fun prog w A Q s h=>by obtain⟨hp,g,d,tk,os⟩:=s;obtain⟨hl,h⟩:=h;have f1:=AutoSeq1.idx_int;wp_walk using wpAny_loadPart' hl;refine wpAny_ite_false (by rw[h1];rfl) ?_;wp_walk using wpAny_loadPart' hl;exact⟨_,rfl,h⟩
theorem y4u(l:Addr)(items:Array Value)(n:Nat)(dd:Option Addr)(sl:Array (Option Value))(k:Int)(u:Tok)(h1:(decide (k < -(2^63))||decide (k≥2^63))=false)(hc:(items.isEmpty||k==1)=false)(hc2:(decide (k<=0)||items.isEmpty)=false)(hc3:¬((items.size:Int)*k>(2^63-1)/8))(hc4:Builtin.Tuple.tupleTooMany ((items.size:Int)*k)=false)(hc5:¬((List.replicate k.toNat items).foldl (fun x1 x2=>x1++x2) #[]).size>sizeLine) :
 Meets (Builtin.«tuple.__mul__» ⟨[.ref l,.int k u],[]⟩) (fun _ Q s=>s.heap.get? l=some { cls:=.type "tuple",dict:=dd,data:=.seq items n,slots:=sl }/\Q (.ok (.ret (Value.ref s.heap.objs.size))) { s with heap:=s.heap.push { cls:=.type "tuple",data:=.seq ((List.replicate k.toNat items).foldl (·++·) #[]) } }) :=
 .of_wp fun prog w A Q s h=>by obtain⟨hp,g,d,tk,os⟩:=s;obtain⟨hl,h⟩:=h;have f1:=AutoSeq1.idx_int;wp_walk using wpAny_loadPart' hl;refine wpAny_ite_false (by rw[h1];rfl) ?_;wp_walk using wpAny_loadPart' hl;refine wpAny_ite_false (decide_eq_false hc3) ?_;wp_walk using wpAny_loadPart' hl;exact⟨_,rfl,h⟩
theorem z7h:fillsNumberSlot (.type "tuple") "mul"=pure false :=
 PySem.fillsNumberSlot_seq (id:="tuple.__mul__") (r:=some (.builtin "tuple.__rmul__")) F.slot_tuple_mul.lookup (by decide +kernel) F.slot_tuple_rmul.lookup (by decide +kernel)
theorem y0x:seqRepeat? (.type "tuple")=pure (some (.builtin "tuple.__mul__")):=by
 unfold seqRepeat?
 rw[PySem.seqSlot_of (T:="tuple") (name:="__mul__") (id:="tuple.__mul__") F.slot_tuple_mul.lookup (by decide +kernel),PySem.seqSlot_of (T:="tuple") (name:="__rmul__") (id:="tuple.__rmul__") F.slot_tuple_rmul.lookup (by decide +kernel)]
 rfl
theorem z8r(a:Int)(t:Tok)(l:Addr)(items:Array Value)(n:Nat)(dd:Option Addr)(sl:Array (Option Value)) :
 Meets (Builtin.«int.__rmul__» ⟨[.int a t,.ref l],[]⟩) (fun _ Q s=>s.heap.get? l=some { cls:=.type "tuple",dict:=dd,data:=.seq items n,slots:=sl }/\Q (.ok (.ret Value.notImplemented)) s) :=
 .of_wp fun prog w A Q s h=>by obtain⟨hp,g,d,tk,os⟩:=s;obtain⟨hl,h⟩:=h;wp_walk;exact⟨_,rfl,h⟩
noncomputable def x4s(K:PySem.W.Frag):R2:=fun x y H Q=>∃l k xs,x = .ref l/\y = .int k/\SqT K H l xs/\0<=k/\k<1000000/\xs.length*k.toNat<=1000 /\
 ((xs=[]∨k=1)->Q (.ref l) H)/\(xs≠[]->k≠1->∀p,H p=none->Q (.ref p) (upd H p (.tup (List.replicate k.toNat xs).flatten)))
theorem x1o:OpR X (binaryOp .Mult) (x4s X.K):=by
 intro pins s σ H x y v u Q I rx ry h
 obtain⟨l,k,xs,rfl,rfl,hH,h1,h2,hz,q0,q1⟩:=h
 cases rx
 obtain⟨t,rfl⟩:=ry
 obtain⟨its,r,p1,hz2⟩:=I.tuple hH
 have hl:its.length=xs.length:=r.length.symm
 obtain⟨⟨cls,dd,data,sl⟩,ho,hc,n,hd⟩:=id p1
 simp only at hc hd
 subst hc hd
 have hb:(decide (k < -(2^63))||decide (k≥2^63))=false:=by
  rw[decide_eq_false (by omega),decide_eq_false (by omega)];rfl
 refine wpAny_binaryOp_repeat_ref (T:="tuple") (U:="int") (by decide) ⟨_,ho,rfl⟩ (fun s'=>typeIs_int s' k t) z7h F.fills_int_mul F.slot_int_rmul y0x F.slot_int_index.lookup
  (call_meets F.slot_int_rmul (typeIs_int s k t) F.entry_int_rmul (F.args_int_rmul_2 _ _) (z8r k t l its.toArray n dd sl) ⟨ho,rfl,⟨_,ho,rfl⟩,?_⟩)
 by_cases c1:xs=[]∨k=1
 ·have hc1:(its.toArray.isEmpty||k==1)=true:=by
   rcases c1 with c | c
   ·have:its=[]:=List.length_eq_zero_iff.mp (by rw[hl,c];rfl)
    rw[this];rfl
   ·rw[c];simp
  exact call_meets F.slot_tuple_mul ⟨_,ho,rfl⟩ F.entry_tuple_mul (F.args_tuple_mul_2 _ _) (y4t l its.toArray n dd sl k t hb hc1) ⟨ho,⟨.ref l,H,I,rfl,q0 c1⟩⟩
 ·have hx:xs≠[]:=fun e=>c1 (.inl e)
  have hk1:k≠1:=fun e=>c1 (.inr e)
  have hne:its≠[]:=fun e=>hx (List.length_eq_zero_iff.mp (by rw[<-hl,e];rfl))
  have he:its.toArray.isEmpty=false:=by cases its with | nil=>exact absurd rfl hne | cons a b=>rfl
  have hc1:(its.toArray.isEmpty||k==1)=false:=by rw[he];simpa using hk1
  by_cases c2:k<=0
  ·have hk0:k=0:=by omega
   refine call_meets F.slot_tuple_mul ⟨_,ho,rfl⟩ F.entry_tuple_mul (F.args_tuple_mul_2 _ _) (y4v l its.toArray n dd sl k t hb hc1 (by rw[decide_eq_true c2];rfl)) ⟨ho,?_⟩
   have e0:(List.replicate k.toNat xs).flatten=[]:=by rw[hk0];rfl
   refine⟨.ref s.heap.objs.size,_,I.laid (t':=s.toks) (o:=.tup (List.replicate k.toNat xs).flatten) (fun b ob q=>Heap.get?_push_of_some _ q) (Nat.le_refl _) ?_,rfl,q1 hx hk1 _ (I.hok.fresh (Nat.le_refl _))⟩
   rw[e0]
   exact⟨by decide,[],.nil,⟨_,Heap.get?_push_size _ rfl,rfl,_,rfl⟩⟩
  ·have f0:∀m:Nat,List.foldl (fun x1 x2=>x1++x2) #[] (List.replicate m its.toArray)=(List.replicate m its).flatten.toArray:=fun m=>by
    have:=z8i its m []
    rw[List.nil_append] at this
    exact this
   have hlr:(List.replicate k.toNat its).flatten.length<=1000:=by rw[y2v,hl,Nat.mul_comm];exact hz
   have hsz:(its.toArray.size:Int)*k<=1000:=by
    rw[List.size_toArray,hl,show k=((k.toNat:Nat):Int) by omega]
    exact_mod_cast hz
   refine call_meets F.slot_tuple_mul ⟨_,ho,rfl⟩ F.entry_tuple_mul (F.args_tuple_mul_2 _ _) (y4u l its.toArray n dd sl k t hb hc1 (by rw[decide_eq_false c2,he];rfl) (by omega) ?_ ?_) ⟨ho,?_⟩
   ·unfold Builtin.Tuple.tupleTooMany
    have:(1000:Int)<=(sizeLine:Int):=by decide
    exact decide_eq_false (by omega)
   ·rw[f0,List.size_toArray]
    have:=z4a hlr
    omega
   ·rw[f0]
    refine⟨.ref s.heap.objs.size,_,I.laid (t':=s.toks) (o:=.tup (List.replicate k.toNat xs).flatten) (fun b ob q=>Heap.get?_push_of_some _ q) (Nat.le_refl _) ?_,rfl,q1 hx hk1 _ (I.hok.fresh (Nat.le_refl _))⟩
    exact⟨by rw[y2v,Nat.mul_comm];exact z4a hz,_,r.rep k.toNat,⟨_,Heap.get?_push_size _ rfl,rfl,_,rfl⟩⟩
theorem IsAll.rep{K:PySem.W.Frag}{H:Hp}{ds:List D}{xs:List V}(h:IsAll K H ds xs):∀n:Nat,IsAll K H (List.replicate n ds).flatten (List.replicate n xs).flatten
 | 0=>IsAll.nil
 | n+1=>by rw[List.replicate_succ,List.flatten_cons,List.replicate_succ,List.flatten_cons];exact h.append (IsAll.rep h n)
theorem z3e:OpD X (binaryOp .Mult) dMul:=by
 refine⟨_,OpR.or (x3r (X:=X.nox)) (x1o (X:=X.nox)),fun H x y dx dy ix iy hg=>?_⟩
 cases dx with
 | int i =>
   cases dy with
   | int j =>
     obtain⟨hc,e⟩:=R.guard_ne (show R.guard (z5v i j) (R.ok (D.int (i*j)))≠R.no from hg)
     refine .inl ⟨i,j,Is.int_iff.mp ix,Is.int_iff.mp iy,?_,.int (i*j),e,.refl _,Is.int_iff.mpr rfl⟩
     unfold z5v z4v at hc
     show(-(2^64)<i/\i<2^64)∨(-(2^64)<j/\j<2^64)
     omega
   | _=>exact absurd rfl hg
 | tup ds =>
   cases dy with
   | int j =>
     obtain⟨⟨hc1,hc2⟩,e⟩:=R.guard_ne (show R.guard (0<=j/\j<1000000/\ds.length*j.toNat<=1000) (R.ok (D.tup (List.replicate j.toNat ds).flatten))≠R.no from hg)
     obtain⟨a,xs,rfl,h1,h2⟩:=Is.tup_iff.mp ix
     have hxl:=h2.length
     refine .inr ⟨a,j,xs,rfl,Is.int_iff.mp iy,h1,hc1,hc2.1,by rw[<-hxl];exact hc2.2,fun c=>?_,fun z z' p hp=>?_⟩
     ·refine⟨_,e,.refl _,Is.tup_iff.mpr ⟨a,xs,rfl,h1,?_⟩⟩
      rcases c with c | c
      ·have:ds=[]:=List.length_eq_zero_iff.mp (by rw[hxl,c];rfl)
       rw[this,c]
       have e2:∀m:Nat,(List.replicate m ([]:List D)).flatten=[]:=fun m=>by simp
       rw[e2];exact IsAll.nil
      ·subst c
       show IsAll X.K H (List.replicate 1 ds).flatten xs
       rw[show(List.replicate 1 ds).flatten=ds by simp];exact h2
     ·have S:=z1e hp (.tup (List.replicate j.toNat xs).flatten)
      exact⟨_,e,S,Is.tup_iff.mpr ⟨p,_,rfl,SqT.of z0n,(h2.rep _).same S⟩⟩
   | _=>exact absurd rfl hg
 | _=>exact absurd rfl hg
mutual
noncomputable def D.py:D->PyData
 | .non=>.none
 | .bl b=>.bool b
 | .int i=>.int i
 | .str x=>.str x
 | .tup ds=>.tuple (D.pys ds)
 | .lst ds=>.list (D.pys ds)
 | .dct=>.dict []
 | .exc _=>.dict []
noncomputable def D.pys:List D->List PyData
 | []=>[]
 | d::ds=>d.py::D.pys ds
end
mutual
theorem y1m:∀(n:Nat) (d:D),D.lay n d=true->d.py.canLay0=true/\d.py.depth<=n
 | n,.non,_=>by simp[D.py,PyData.canLay0,PyData.depth]
 | n,.bl _,_=>by simp[D.py,PyData.canLay0,PyData.depth]
 | n,.int _,_=>by simp[D.py,PyData.canLay0,PyData.depth]
 | n,.str x,h=>by
   have h':PyData.strOk x=true:=by have:=h;rw[y2z] at this;exact this
   simp[D.py,PyData.canLay0,PyData.depth,h']
 | 0,.tup ds,h=>by simp[D.lay] at h
 | 0,.lst ds,h=>by simp[D.lay] at h
 | n+1,.tup ds,h=>by
   have q:=lays_py n ds (by simpa [D.lay] using h)
   constructor
   ·simpa [D.py,PyData.canLay0] using q.1
   ·have:=q.2
    simp only[D.py,PyData.depth];omega
 | n+1,.lst ds,h=>by
   have q:=lays_py n ds (by simpa [D.lay] using h)
   constructor
   ·simpa [D.py,PyData.canLay0] using q.1
   ·have:=q.2
    simp only[D.py,PyData.depth];omega
 | n,.dct,h=>by cases n<;>simp[D.lay] at h
 | n,.exc _,h=>by cases n<;>simp[D.lay] at h
theorem lays_py:∀(n:Nat) (ds:List D),D.lays n ds=true->PyData.canLayAll0 (D.pys ds)=true/\PyData.depthAll (D.pys ds)<=n
 | n,[],_=>by simp[D.pys,PyData.canLayAll0,PyData.depthAll]
 | n,d::ds,h=>by
   have h':D.lay n d=true/\D.lays n ds=true:=by simpa [D.lays] using h
   have q1:=y1m n d h'.1
   have q2:=lays_py n ds h'.2
   constructor
   ·simp[D.pys,PyData.canLayAll0,q1.1,q2.1]
   ·have:=q1.2;have:=q2.2
    simp only[D.pys,PyData.depthAll];omega
end
mutual
theorem z6f{pins:List (Addr×Obj)}{σ:St}{H:Hp}{s:Shared}(I:Inv X pins σ H s):∀(n:Nat) (d:D) (v:V) (u:Value),D.lay n d=true->Is X.K H d v->RelV v u->∃as,Reads s.heap u d.py as
 | _,.non,v,u,_,i,r=>by
   rw[Is.non_iff.mp i] at r;cases (show u=Value.none from r)
   exact⟨_,.none⟩
 | _,.bl b,v,u,_,i,r=>by
   rw[Is.bl_iff.mp i] at r;cases (show u=Value.bool b from r)
   exact⟨_,.bool b⟩
 | _,.int k,v,u,_,i,r=>by
   rw[Is.int_iff.mp i] at r
   obtain⟨t,rfl⟩:=(show ∃t,u=Value.int k t from r)
   exact⟨_,.int k t⟩
 | _,.str x,v,u,_,i,r=>by
   rw[Is.str_iff.mp i] at r
   obtain⟨t,rfl⟩:=(show ∃t,u=Value.str x t from r)
   exact⟨_,.str x t⟩
 | 0,.tup ds,v,u,h,_,_=>by simp[D.lay] at h
 | 0,.lst ds,v,u,h,_,_=>by simp[D.lay] at h
 | n+1,.tup ds,v,u,h,i,r=>by
   obtain⟨a,xs,rfl,h1,h2⟩:=Is.tup_iff.mp i
   cases (show u=Value.ref a from r)
   obtain⟨its,rv,⟨o,ho,hc,m,hd⟩,_⟩:=I.tuple h1
   obtain⟨as,ra⟩:=readsAll_of I n ds xs its (by simpa [D.lay] using h) h2 rv
   exact⟨as,by unfold D.py;exact .tuple ho hc hd (by simpa using ra)⟩
 | n+1,.lst ds,v,u,h,i,r=>by
   obtain⟨a,xs,rfl,h1,h2⟩:=Is.lst_iff.mp i
   cases (show u=Value.ref a from r)
   obtain⟨its,rv,⟨o,m,ho,hc,_,hd⟩,_⟩:=I.list h1
   obtain⟨as,ra⟩:=readsAll_of I n ds xs its (by simpa [D.lay] using h) h2 rv
   exact⟨a::as,by unfold D.py;exact .list ho hc hd (by simpa using ra)⟩
 | n,.dct,v,u,h,_,_=>by cases n<;>simp[D.lay] at h
 | n,.exc _,v,u,h,_,_=>by cases n<;>simp[D.lay] at h
theorem readsAll_of{pins:List (Addr×Obj)}{σ:St}{H:Hp}{s:Shared}(I:Inv X pins σ H s):∀(n:Nat) (ds:List D) (xs:List V) (us:List Value),D.lays n ds=true->IsAll X.K H ds xs->Vals xs us->∃as,ReadsAll s.heap us (D.pys ds) as
 | n,[],xs,us,_,i,r=>by
   rw[IsAll.nil_iff.mp i] at r
   cases r
   exact⟨_,by unfold D.pys;exact .nil⟩
 | n,d::ds,xs,us,h,i,r=>by
   obtain⟨x,r',rfl,h1,h2⟩:=IsAll.cons_iff.mp i
   have h':D.lay n d=true/\D.lays n ds=true:=by simpa [D.lays] using h
   cases r with
   | cons q1 q2 =>
     obtain⟨as,ra⟩:=z6f I n d x _ h'.1 h1 q1
     obtain⟨bs,rb⟩:=readsAll_of I n ds r' _ h'.2 h2 q2
     exact⟨as++bs,by unfold D.pys;exact .cons ra rb⟩
end
mutual
theorem y7x:∀x y:D,eqD x y=PyData.eqv x.py y.py
 | .non,y=>by cases y<;>simp[eqD,D.py,PyData.eqv]
 | .bl _,y=>by cases y<;>simp[eqD,D.py,PyData.eqv]
 | .int _,y=>by cases y<;>simp[eqD,D.py,PyData.eqv]
 | .str _,y=>by cases y<;>simp[eqD,D.py,PyData.eqv]
 | .dct,y=>by cases y<;>simp[eqD,D.py,PyData.eqv]
 | .exc _,y=>by cases y<;>simp[eqD,D.py,PyData.eqv]
 | .tup xs,y=>by
   cases y with
   | tup ys=>rw[eqD,D.py,D.py,PyData.eqv,eqDs_py xs ys]
   | _=>simp[eqD,D.py,PyData.eqv]
 | .lst xs,y=>by
   cases y with
   | lst ys=>rw[eqD,D.py,D.py,PyData.eqv,eqDs_py xs ys]
   | _=>simp[eqD,D.py,PyData.eqv]
theorem eqDs_py:∀xs ys:List D,eqDs xs ys=PyData.eqvAll (D.pys xs) (D.pys ys)
 | [],[]=>by simp[eqDs,D.pys,PyData.eqvAll]
 | [],_::_=>by simp[eqDs,D.pys,PyData.eqvAll]
 | _::_,[]=>by simp[eqDs,D.pys,PyData.eqvAll]
 | x::xs,y::ys=>by rw[eqDs,D.pys,D.pys,PyData.eqvAll,y7x x y,eqDs_py xs ys]
end
theorem z9x(hu:X.A.units+64<cLine):OpD X (compareOp .Eq) dEq:=by
 refine⟨fun x y H Q=>∃dx dy,Is X.K H dx x/\Is X.K H dy y/\D.lay 40 dx=true/\D.lay 40 dy=true/\Q (.bl (eqD dx dy)) H,?_,fun H x y dx dy ix iy hg=>?_⟩
 ·intro pins s σ H x y v u Q I rx ry h
  obtain⟨dx,dy,ix,iy,l1,l2,q⟩:=h
  obtain⟨as,ra⟩:=z6f I 40 dx x v l1 ix rx
  obtain⟨bs,rb⟩:=z6f I 40 dy y u l2 iy ry
  have p1:=y1m 40 dx l1
  have p2:=y1m 40 dy l2
  have hu':X.A.units+64<cLine:=hu
  refine PySem.SeqAt.compareEq_reads ra rb p1.1 p2.1 (show X.A.units+min dx.py.depth dy.py.depth<cLine by omega) ⟨.bl (eqD dx dy),H,I,by rw[y7x];rfl,q⟩
 ·obtain⟨⟨l1,l2⟩,e⟩:=R.guard_ne hg
  exact⟨dx,dy,ix,iy,l1,l2,.bl (eqD dx dy),e,.refl _,Is.bl_iff.mpr rfl⟩
theorem z9w(hu:X.A.units+64<cLine):OpD X (compareOp .NotEq) dNe:=by
 refine⟨fun x y H Q=>∃dx dy,Is X.K H dx x/\Is X.K H dy y/\D.lay 40 dx=true/\D.lay 40 dy=true/\Q (.bl (!eqD dx dy)) H,?_,fun H x y dx dy ix iy hg=>?_⟩
 ·intro pins s σ H x y v u Q I rx ry h
  obtain⟨dx,dy,ix,iy,l1,l2,q⟩:=h
  obtain⟨as,ra⟩:=z6f I 40 dx x v l1 ix rx
  obtain⟨bs,rb⟩:=z6f I 40 dy y u l2 iy ry
  have p1:=y1m 40 dx l1
  have p2:=y1m 40 dy l2
  have hu':X.A.units+64<cLine:=hu
  refine PySem.SeqAt.compareNe_reads ra rb p1.1 p2.1 (show X.A.units+min dx.py.depth dy.py.depth<cLine by omega) ⟨.bl (!eqD dx dy),H,I,by rw[y7x];rfl,q⟩
 ·obtain⟨⟨l1,l2⟩,e⟩:=R.guard_ne hg
  exact⟨dx,dy,ix,iy,l1,l2,.bl (!eqD dx dy),e,.refl _,Is.bl_iff.mpr rfl⟩
theorem IsAll.atI{K:PySem.W.Frag}{H:Hp}{ds:List D}{xs:List V}{i:Int}{d:D}(h:IsAll K H ds xs)(e:atI ds i=some d):∃x,L2.atI xs i=some x/\Is K H d x:=by
 unfold L2.atI
 unfold L3.atI at e
 rw[<-h.length]
 show ∃x,((L3.ixN ds.length i).bind fun j=>xs[j]?)=some x/\Is K H d x
 cases q:L3.ixN ds.length i with
 | none=>rw[q] at e;cases e
 | some j =>
   rw[q] at e
   exact h.get (by simpa using e)
theorem z3l(ha:PD X a ga)(hb:PD X b gb)(hs:y8o b:=by intro _ _;rfl):PD X (.Subscript a b pos) (gBin dIx ga gb):=by
 refine⟨fun pins s σ H F Γ I fo rl hg=>?_⟩
 refine Subscript_ (wpAny_mono (ha.run pins s σ H F Γ I fo rl (R.left hg)) (fun v s1 ⟨dx,x,H1,e1,I1,r1,S1,i1⟩=>?_) fun _ _ x=>x.bind _)
 have hg1:=R.next hg e1
 refine wpAny_mono (hb.run pins s1 σ H1 F Γ I1 (fo.same S1) (rl.same S1) (R.left hg1)) (fun u s2 ⟨dy,y,H2,e2,I2,r2,S2,i2⟩=>?_) fun _ _ x=>z1l.later e1 S1 (x.bind _)
 have hg2:=R.next hg1 e2
 have i1':=i1.same S2
 have fin:∀(d:D) (z:V),dIx dx dy = .ok d->Is X.K H2 d z->∀(w':Value) (s':Shared),EP X.nox pins σ (fun z' H'=>z'=z/\H'=H2) w' s'->Post X pins σ H (gBin dIx ga gb Γ) w' s':=fun d z ed iz w' s' ⟨z',H',I',rz,ez,eH⟩=>by
  subst ez eH
  exact Post.bind e1 S1 (Post.bind e2 S2 ⟨d,z',H',ed,I'.unwish,rz,.refl _,iz⟩)
 cases dx with
 | tup ds =>
   cases dy with
   | int i =>
     obtain⟨p,xs,rfl,h1,h2⟩:=Is.tup_iff.mp i1'
     cases q:atI ds i with
     | none=>exact absurd (show dIx (.tup ds) (.int i) = .no by simp only[dIx,q]) hg2
     | some d =>
       obtain⟨z,ez,iz⟩:=h2.atI q
       exact wpAny_mono (x0q (X:=X.nox) a b pins s2 σ H2 _ y v u _ (I2.wish _) r1 r2 ⟨p,xs,i,z,rfl,Is.int_iff.mp i2,h1,ez,rfl,rfl⟩ (hs _ _)) (fun w' s' h=>fin d z (by show dIx (.tup ds) (.int i) = .ok d;simp only[dIx,q]) iz w' s' h) fun _ _ z=>False.elim z
   | _=>exact absurd rfl hg2
 | lst ds =>
   cases dy with
   | int i =>
     obtain⟨p,xs,rfl,h1,h2⟩:=Is.lst_iff.mp i1'
     cases q:atI ds i with
     | none=>exact absurd (show dIx (.lst ds) (.int i) = .no by simp only[dIx,q]) hg2
     | some d =>
       obtain⟨z,ez,iz⟩:=h2.atI q
       exact wpAny_mono (y7h (X:=X.nox) a b pins s2 σ H2 _ y v u _ (I2.wish _) r1 r2 ⟨p,xs,i,z,rfl,Is.int_iff.mp i2,h1,ez,rfl,rfl⟩ (hs _ _)) (fun w' s' h=>fin d z (by show dIx (.lst ds) (.int i) = .ok d;simp only[dIx,q]) iz w' s' h) fun _ _ z=>False.elim z
   | _=>exact absurd rfl hg2
 | _=>exact absurd rfl hg2
variable {x:Str}{p:Pos}{es:List Expr}{gs:G->R (List D)}{bid T:String}
noncomputable def z8q(X:Cx)(f:Value)(g:List D->R D):Prop:=∃r:List V->Hp->VK->Prop,z6y X.nox f r/\∀H xs ds,IsAll X.K H ds xs->g ds ≠ .no->r xs H fun z H'=>∃d,g ds = .ok d/\Same H H'/\Is X.K H' d z
theorem z8q.run{f:Value}{g:List D->R D}(h:z8q X f g){pins:List (Addr×Obj)}{s:Shared}{σ:St}{H:Hp}{xs:List V}{us:List Value}{ds:List D}(I:Inv X pins σ H s)(r:Vals xs us)(i:IsAll X.K H ds xs)(hg:g ds ≠ .no){E:Value->Shared->Prop} :
 wpAny (model X.prog X.w) X.A (call f us) (Post X pins σ H (g ds)) E s:=by
 obtain⟨r',ho,hr⟩:=h
 exact wpAny_mono (ho pins s σ H xs us _ (I.wish _) r (hr H xs ds i hg)) (fun _ _ ⟨z,H',I',rz,d,e,S,i⟩=>⟨d,z,H',e,I'.unwish,rz,S,i⟩) fun _ _ z=>False.elim z
theorem z0r{g:List D->R D}(hc:z8q X (.builtin bid) g)(hm:X.mg x=none)(hv:bootBuiltins x=some (.builtin bid))(ha:PAD X (e::es) gs)(hg:Gl X x:=by rfl)(hn:x≠"__name__":=by decide)(hdb:(x==("__debug__":Str))=false:=by decide)
 (he:starEach (e::es) X.env=(false,eval e X.env)::starEach es X.env:=by rfl) (hpl:(backTo pos (starEach es X.env)).any (·.1)=false:=by rfl):PD X (.Call (.Name x p) (e::es) [] pos) (z0i g gs):=by
 refine⟨fun pins s σ H F Γ I fo rl hgg=>?_⟩
 refine wpAny_Call_Name_kw (z4j I hg hm hv ?_ hn hdb)
 refine PyProof.Rows.callWith_builtin1 (wpAny_mono (ha.run pos pins s σ H F Γ I fo rl (R.left hgg)) (fun us s1 ⟨ds,vs,H1,e1,I1,r1,S1,i1⟩=>?_) fun _ _ x=>x.bind _) he hpl
 exact thn (hc.run I1 r1 i1 (R.next hgg e1)) fun _ _ q=>Post.bind e1 S1 q
theorem z2c{g:List D->R D}(hc:z8q X (.type T) g)(hm:X.mg x=none)(hv:bootBuiltins x=some (.type T))(ha:PAD X (e::es) gs)(hg:Gl X x:=by rfl)(hn:x≠"__name__":=by decide)(hdb:(x==("__debug__":Str))=false:=by decide)
 (he:starEach (e::es) X.env=(false,eval e X.env)::starEach es X.env:=by rfl) (hpl:(backTo pos (starEach es X.env)).any (·.1)=false:=by rfl):PD X (.Call (.Name x p) (e::es) [] pos) (z0i g gs):=by
 refine⟨fun pins s σ H F Γ I fo rl hgg=>?_⟩
 refine wpAny_Call_Name_kw (z4j I hg hm hv ?_ hn hdb)
 refine PyProof.Rows.callWith_type1 (wpAny_mono (ha.run pos pins s σ H F Γ I fo rl (R.left hgg)) (fun us s1 ⟨ds,vs,H1,e1,I1,r1,S1,i1⟩=>?_) fun _ _ x=>x.bind _) he hpl
 exact thn (hc.run I1 r1 i1 (R.next hgg e1)) fun _ _ q=>Post.bind e1 S1 q
theorem z5e{K:PySem.W.Frag}{H:Hp}{d:D}{xs:List V}(h:IsAll K H [d] xs):∃v,xs=[v]/\Is K H d v:=by
 obtain⟨x,r,rfl,h1,h2⟩:=IsAll.cons_iff.mp h
 rw[IsAll.nil_iff.mp h2]
 exact⟨x,rfl,h1⟩
theorem z2x:z8q X (.builtin "len") dLen:=by
 refine⟨_,y2b (X:=X.nox),fun H xs ds i hg=>?_⟩
 unfold dLen at hg
 split at hg
 ·rename_i ys
  obtain⟨v,rfl,h⟩:=z5e i
  obtain⟨a,zs,rfl,h1,h2⟩:=Is.tup_iff.mp h
  exact⟨a,zs,rfl,.inr h1,.int ys.length,rfl,.refl _,Is.int_iff.mpr (by rw[h2.length])⟩
 ·rename_i ys
  obtain⟨v,rfl,h⟩:=z5e i
  obtain⟨a,zs,rfl,h1,h2⟩:=Is.lst_iff.mp h
  exact⟨a,zs,rfl,.inl h1,.int ys.length,rfl,.refl _,Is.int_iff.mpr (by rw[h2.length])⟩
 ·exact absurd rfl hg
theorem z3n:z8q X (.type "tuple") z3f:=by
 refine⟨_,y0l (X:=X.nox),fun H xs ds i hg=>?_⟩
 unfold z3f at hg
 split at hg
 ·rename_i ys
  obtain⟨v,rfl,h⟩:=z5e i
  obtain⟨a,zs,rfl,h1,h2⟩:=Is.tup_iff.mp h
  exact⟨a,zs,rfl,.inr ⟨h1,.tup ys,rfl,.refl _,h⟩⟩
 ·rename_i ys
  obtain⟨v,rfl,h⟩:=z5e i
  obtain⟨a,zs,rfl,h1,h2⟩:=Is.lst_iff.mp h
  refine⟨a,zs,rfl,.inl ⟨h1,fun l hl=>?_⟩⟩
  have S:=z1e hl (.tup zs)
  exact⟨.tup ys,rfl,S,Is.tup_iff.mpr ⟨l,zs,rfl,SqT.of z0n,h2.same S⟩⟩
 ·exact absurd rfl hg
theorem y8r(hc:X.calm=true):z6y X (.builtin "sum") (fun xs H Q=>∃(a:Addr) (ns:List Int),xs=[.ref a]/\SqL X.K H a (ns.map V.int)/\Q (.int ns.sum) H):=by
 intro pins s σ H xs us Q I r h
 obtain⟨a,ns,rfl,hq,q⟩:=h
 obtain⟨u,rfl,ru⟩:=z9l r
 cases ru
 obtain⟨its,rv,pl,_⟩:=I.list hq
 have hi:IntsAre its ns:=y5e rv
 obtain⟨ys,hy⟩:=hi.allInts.items
 have hl:=pl.isList
 rw[hy] at hl
 refine sum_intListG (I.ok.hd hc) hl fun h' tk t' hk=>⟨.int ns.sum,H,I.kept hk,⟨t',?_⟩,q⟩
 have hn:numsOf its.toArray.toList=ns:=by rw[show its.toArray.toList=its from rfl,hi.numsOf]
 rw[hy,nums_intItems] at hn
 rw[preSum_eq,List.take_of_length_le (by simp),hn]
theorem x0u(hc:X.calm=true):z8q X (.builtin "sum") dSum:=by
 refine⟨_,y8r (X:=X.nox) hc,fun H xs ds i hg=>?_⟩
 unfold dSum at hg
 split at hg
 ·rename_i ys
  obtain⟨v,rfl,h⟩:=z5e i
  obtain⟨a,zs,rfl,h1,h2⟩:=Is.lst_iff.mp h
  cases q:ints? ys with
  | none=>rw[q] at hg;exact absurd rfl hg
  | some ns =>
    have:=ints?_some q
    subst this
    rw[h2.ints_eq] at h1
    exact⟨a,ns,rfl,h1,.int ns.sum,by show dSum [.lst (ns.map D.int)]=_;simp only[dSum,q],.refl _,Is.int_iff.mpr rfl⟩
 ·exact absurd rfl hg
theorem IsAll.bools_eq{K:PySem.W.Frag}{H:Hp}:∀{ns:List Bool} {xs:List V},IsAll K H (ns.map D.bl) xs->xs=ns.map V.bl
 | [],xs,h=>IsAll.nil_iff.mp h
 | n::ns,xs,h=>by
   obtain⟨x,r,rfl,hx,tr⟩:=IsAll.cons_iff.mp h
   rw[Is.bl_iff.mp hx,IsAll.bools_eq tr];rfl
theorem y2c:∀{bs:List Bool} {us:List Value} {i:Nat} {v:Value},Vals (bs.map V.bl) us->us[i]? = some v->∃b,bs[i]? = some b/\v = .bool b
 | [],us,i,v,r,e=>by cases r;simp at e
 | b::bs,us,0,v,r,e=>by
   cases r with
   | cons r1 r2=>simp at e;subst e;exact⟨b,rfl,r1⟩
 | b::bs,us,i+1,v,r,e=>by
   cases r with
   | cons r1 r2 =>
     obtain⟨b',e1,e2⟩:=y2c (i:=i) r2 (by simpa using e)
     exact⟨b',by simpa using e1,e2⟩
theorem z8p:∀bs:List Bool,((List.range bs.length).any fun i=>(bs[i]?).getD false)=bs.any (fun b=>b)
 | []=>rfl
 | b::bs=>by
   rw[List.length_cons,List.range_succ_eq_map,List.any_cons,List.any_map,List.any_cons,<-z8p bs]
   rfl
theorem y8n(hc:X.calm=true):z6y X (.builtin "any") (fun xs H Q=>∃(a:Addr) (bs:List Bool),xs=[.ref a]/\SqL X.K H a (bs.map V.bl)/\Q (.bl (bs.any (fun b=>b))) H):=by
 intro pins s σ H xs us Q I r h
 obtain⟨a,bs,rfl,hq,q⟩:=h
 obtain⟨u,rfl,ru⟩:=z9l r
 cases ru
 obtain⟨its,rv,pl,_⟩:=I.list hq
 have hl:=pl.isList
 have hlt:a<s.heap.objs.size:=by obtain⟨_,e,_⟩:=hl;exact Heap.lt_size e
 have hlen:its.length=bs.length:=by rw[<-rv.length,List.length_map]
 refine call_any_walk (wpAny_pyIter_list hl ?_)
 refine⟨s.heap.objs.size,[s.heap.objs.size,a],[s.heap.objs.size],its.toArray.size,_,_,fun i=>(bs[i]?).getD false,rfl,Walks.list (A:=X.A.in1) (I.ok.hd hc) _ a (Nat.ne_of_lt hlt) its.toArray,
  ⟨⟨_,Heap.get?_push_size _ rfl,rfl,rfl⟩,hl.push _⟩,fun i v s' Q' E' hP hQ=>?_,fun h' tk hk=>?_⟩
 ·obtain⟨b,e,rfl⟩:=y2c rv (i:=i) (v:=v) (by simpa using hP)
  simp only[e,Option.getD_some] at hQ
  exact wpAny_truthy_bool hQ
 ·have e:((List.range its.toArray.size).any fun i=>(bs[i]?).getD false)=bs.any (fun b=>b):=by
   rw[List.size_toArray,hlen];exact z8p bs
  refine⟨.bl (bs.any (fun b=>b)),H,I.kept (fun b x ex=>hk b x (fun hm=>by rw[List.mem_singleton.mp hm] at ex;exact Nat.lt_irrefl _ (Heap.lt_size ex)) (Heap.get?_push_of_some _ ex)),by rw[e];rfl,q⟩
theorem x4l(hc:X.calm=true):z8q X (.builtin "any") dAny:=by
 refine⟨_,y8n (X:=X.nox) hc,fun H xs ds i hg=>?_⟩
 unfold dAny at hg
 split at hg
 ·rename_i ys
  obtain⟨v,rfl,h⟩:=z5e i
  obtain⟨a,zs,rfl,h1,h2⟩:=Is.lst_iff.mp h
  cases q:bools? ys with
  | none=>rw[q] at hg;exact absurd rfl hg
  | some ns =>
    have:=bools?_some q
    subst this
    rw[h2.bools_eq] at h1
    exact⟨a,ns,rfl,h1,.bl (ns.any (fun b=>b)),by show dAny [.lst (ns.map D.bl)]=_;simp only[dAny,q],.refl _,Is.bl_iff.mpr rfl⟩
 ·exact absurd rfl hg
end
noncomputable def CXE(P:Program)(w:World):CXT:=fun outer H s E x s'=>∃(e C T:Addr) (oe oT:Obj) (vs ts:Array Value) (H':Hp),x = .ref e/\s'.os=s.os/\AllBare s'.gens/\Un (frs outer) [] H H' s.heap s'.heap/\HOk P w H' s'.heap /\
 H' e=none/\s.heap.get? e=none/\s'.heap.get? e=some oe/\oe.cls = .ref C/\oe.data = .fields vs/\(∃a0,vs[0]? = some a0)/\vs[1]? = some (.ref T)/\H' T=none/\s.heap.get? T=none/\T≠e/\s'.heap.get? T=some oT/\oT.data = .fields ts/\ts[3]? = some .none/\E (.ref C) none H'
noncomputable def spD(K:PySem.W.Frag)(mg:Str->Option Value)(φ:List D->R D):Sp:=fun vs H Q E=>∃ds,IsAll K H ds vs/\φ ds ≠ .no/\(∀d v H',φ ds = .ok d->Same H H'->Is K H' d v->Q v H')/\(∀c C H',φ ds = .er c->mg c.nm=some (.ref C)->Same H H'->E (.ref C) none H')
noncomputable def spF(K:PySem.W.Frag)(mg:Str->Option Value)(φ:List D->R (List D)):Sp:=fun vs H Q E=>∃ds,IsAll K H ds vs/\φ ds ≠ .no/\(∀es a xs H',φ ds = .ok es->Same H H'->H a=none->H' a=some (.lst xs)->IsAll K H' es xs->Q (.ref a) H')/\(∀c C H',φ ds = .er c->mg c.nm=some (.ref C)->Same H H'->E (.ref C) none H')
structure FnD (P:Program) (w:World) (K:PySem.W.Frag) (mg:Str->Option Value) (base:Heap) (k:Nat) (f:Addr) (fd:FuncData) (ps:List Str) (φ:List D->R D):Prop where
 ok:FnOk P w K mg base (CXE P w) k f fd ps (spD K mg φ)
 binds:z2t K fd ps []
 kp:PySem.W.keepIn K (.ref f)=true
structure FnF (P:Program) (w:World) (K:PySem.W.Frag) (mg:Str->Option Value) (base:Heap) (k:Nat) (f:Addr) (fd:FuncData) (ps:List Str) (φ:List D->R (List D)):Prop where
 ok:FnOk P w K mg base (CXE P w) k f fd ps (spF K mg φ)
 binds:z2t K fd ps []
 kp:PySem.W.keepIn K (.ref f)=true
theorem FnD.mono{P:Program}{w:World}{K:PySem.W.Frag}{mg:Str->Option Value}{base:Heap}{j k:Nat}{f:Addr}{fd:FuncData}{ps:List Str}{φ:List D->R D}(F:FnD P w K mg base j f fd ps φ)(h:j<=k):FnD P w K mg base k f fd ps φ:=⟨F.ok.mono h,F.binds,F.kp⟩
section
variable {X:Cx}{e a b c:Expr}{g ga gb gc:G->R D}{pos p:Pos}{x:Str}{es:List Expr}{gs:G->R (List D)}
theorem _root_.L2.Inv.gone{pins:List (Addr×Obj)}{σ:St}{H:Hp}{s:Shared}{q:Addr}(I:Inv X pins σ H s)(hex:X.ex=[])(hq:s.heap.get? q=none):X.s₀.heap.get? q=none/\q≠X.env.locals/\(∀y k,X.env.cells.lookup y=some k->k≠q)/\(∀p∈X.pn++pins,p.1≠q):=by
 refine⟨?_,fun z=>?_,fun y k ek z=>?_,fun p hp z=>?_⟩
 ·cases e0:X.s₀.heap.get? q with
  | none=>rfl
  | some o =>
    obtain⟨o',e1⟩:=I.base.there q o e0 (by rw[hex];simp)
    rw[hq] at e1;cases e1
 ·obtain⟨m,⟨o,_,_,ho,_⟩,_⟩:=I.loc
  rw[<-z,hq] at ho;cases ho
 ·obtain⟨v,o,ho,_⟩:=I.cell y k ek
  rw[z,hq] at ho;cases ho
 ·have ho:=(I.pin p hp).1
  rw[z,hq] at ho;cases ho
theorem z7e{pins:List (Addr×Obj)}{σ:St}{H:Hp}{s s':Shared}{u:Value}{r:R D}{E:XK}(hex:X.ex=[]∨∀C H',¬E (.ref C) none H')(I:Inv X pins σ H s)(h:CXE X.prog X.w X.stack H s E u s')
 (hE:∀C H',E (.ref C) none H'->∃c,r = .er c/\X.mg c.nm=some (.ref C)/\Same H H'):z1l X pins σ H r u s':=by
 obtain⟨e,C,T,oe,oT,vs,ts,H',rfl,os,bare,un,hok,he0,he1,he2,he3,he4,he5,hv,hT0,hT1,hT2,hT3,hT4,hT5,hE'⟩:=h
 have hex:X.ex=[]:=hex.resolve_right fun z=>z C H' hE'
 obtain⟨c,er,hm,S⟩:=hE C H' hE'
 obtain⟨hh,gg,dd,tt,os'⟩:=s'
 obtain rfl:os'=s.os:=os
 have I':Inv X pins σ H' { s with heap:=hh,gens:=gg,drawn:=dd,toks:=tt }:=I.call (h':=hh) (g':=gg) (d':=dd) (t':=tt) (ch:=[]) un hok bare (fun b z=>absurd z (by simp))
 have fr:∀q:Addr,s.heap.get? q=none->X.s₀.heap.get? q=none/\q≠X.env.locals/\(∀y k,X.env.cells.lookup y=some k->k≠q)/\(∀p∈X.pn++pins,p.1≠q):=fun q hq=>I.gone hex hq
 obtain⟨f1,f2,f3,f4⟩:=fr e he1
 obtain⟨g1,g2,g3,g4⟩:=fr T hT1
 exact⟨c,H',er,S,I',e,C,oe,vs,rfl,hm,he0,f1,f2,f3,f4,he2,he3,he4,he5,.inr ⟨T,oT,ts,hv,hT0,g1,g2,g3,g4,hT2,hT3,hT4,.inl hT5⟩⟩
theorem runD{k:Nat}{f:Addr}{fd:FuncData}{ps:List Str}{φ:List D->R D}(Fn:FnD X.prog X.w X.K X.mg X.base k f fd ps φ)(hr:Room k X.A){pins:List (Addr×Obj)}{σ:St}{H:Hp}{s:Shared}{us:List Value}{vs:List V}{ds:List D}
 (I:Inv X pins σ H s) (r:Vals vs us) (i:IsAll X.K H ds vs) (hg:φ ds ≠ .no) (hx:X.ex=[]∨∀c,φ ds ≠ .er c):wpAny (model X.prog X.w) X.A (call (.ref f) us) (Post X pins σ H (φ ds)) (z1l X pins σ H (φ ds)) s:=by
 have hsp:spD X.K X.mg φ vs H (fun v H'=>∃d,φ ds = .ok d/\Same H H'/\Is X.K H' d v) (fun C' _ H'=>∃c C,C' = .ref C/\φ ds = .er c/\X.mg c.nm=some (.ref C)/\Same H H') :=
  ⟨ds,i,hg,fun d v H' e S iv=>⟨d,e,S,iv⟩,fun c C H' e hm S=>⟨c,C,rfl,e,hm,S⟩⟩
 have hl:us.length=ps.length:=by rw[<-r.length];exact Fn.ok.len _ _ _ _ hsp
 have hb:=Fn.binds s us I.kIn (by rw[List.append_nil];exact hl)
 rw[List.append_nil] at hb
 refine wpAny_call (codeAny_mono (Fn.ok.run X.A X.stack s H ⟨us,[]⟩ us vs _ _ hr I.env0 hb r hsp) fun r' s' hq=>?_)
 cases r' with
 | error u =>
   refine z7e (E:=fun C' _ H'=>∃c C,C' = .ref C/\φ ds = .er c/\X.mg c.nm=some (.ref C)/\Same H H') (hx.imp_right fun z C H' ⟨c,_,_,q,_⟩=>z c q) I hq fun C H' hE=>?_
   obtain⟨c,C',e,h1,h2,h3⟩:=hE
   cases e
   exact⟨c,h1,h2,h3⟩
 | ok fl =>
   cases fl with
   | ret u =>
     obtain⟨v,H',I',rv,d,e,S,iv⟩:=I.after hq
     exact⟨d,v,H',e,I',rv,S,iv⟩
   | next=>exact False.elim hq
   | brk=>exact False.elim hq
   | cont=>exact False.elim hq
theorem z1c{k:Nat}{f:Addr}{fd:FuncData}{ps:List Str}{φ:List D->R D}(Fn:FnD X.prog X.w X.K X.mg X.base k f fd ps φ)(hr:Room k X.A)(hm:X.mg x=some (.ref f))(ha:PAD X (e::es) gs)(hex:X.ex=[]:=by rfl)(hg:Gl X x:=by rfl)(hdb:(x==("__debug__":Str))=false:=by decide)
 (he:starEach (e::es) X.env=(false,eval e X.env)::starEach es X.env:=by rfl) (hpl:(backTo pos (starEach es X.env)).any (·.1)=false:=by rfl):PD X (.Call (.Name x p) (e::es) [] pos) (z0i φ gs):=by
 refine⟨fun pins s σ H F Γ I fo rl hgg=>?_⟩
 refine wpAny_Call_Name_kw (y0c I hg hm ?_ hdb)
 refine PySem.W.callWith_K (h₀:=X.base) I.ok.mod.kin Fn.kp (wpAny_mono (ha.run pos pins s σ H F Γ I fo rl (R.left hgg)) (fun us s1 ⟨ds,vs,H1,e1,I1,r1,S1,i1⟩=>⟨I1.kIn,?_⟩) fun _ _ x=>x.bind _) he hpl
 exact wpAny_mono (runD Fn hr I1 r1 i1 (R.next hgg e1) (.inl hex)) (fun _ _ q=>Post.bind e1 S1 q) fun _ _ q=>z1l.later e1 S1 q
theorem FnD.noEr{P:Program}{w:World}{K:PySem.W.Frag}{mg:Str->Option Value}{base:Heap}{k:Nat}{f:Addr}{fd:FuncData}{ps:List Str}{φ:List D->R D}(F:FnD P w K mg base k f fd ps φ):FnD P w K mg base k f fd ps (L3.noEr φ):=by
 refine⟨F.ok.imp fun vs H Q E h=>?_,F.binds,F.kp⟩
 obtain⟨ds,i,hne,hok,her⟩:=h
 obtain⟨d,e1,e2⟩:=y6v hne
 exact⟨ds,i,(by rw[e1];exact fun z=>nomatch z),fun d' v H' e S iv=>hok d' v H' (e2.trans (e1.symm.trans e)) S iv,fun c C H' e=>by rw[e1] at e;cases e⟩
theorem z3z{k:Nat}{f:Addr}{fd:FuncData}{ps:List Str}{φ:List D->R D}(Fn:FnD X.prog X.w X.K X.mg X.base k f fd ps φ)(hr:Room k X.A)(hm:X.mg x=some (.ref f))(ha:PAD X (e::es) gs)(hg:Gl X x:=by rfl)(hdb:(x==("__debug__":Str))=false:=by decide)
 (he:starEach (e::es) X.env=(false,eval e X.env)::starEach es X.env:=by rfl) (hpl:(backTo pos (starEach es X.env)).any (·.1)=false:=by rfl):PD X (.Call (.Name x p) (e::es) [] pos) (z0i (L3.noEr φ) gs):=by
 refine⟨fun pins s σ H F Γ I fo rl hgg=>?_⟩
 refine wpAny_Call_Name_kw (y0c I hg hm ?_ hdb)
 refine PySem.W.callWith_K (h₀:=X.base) I.ok.mod.kin Fn.kp (wpAny_mono (ha.run pos pins s σ H F Γ I fo rl (R.left hgg)) (fun us s1 ⟨ds,vs,H1,e1,I1,r1,S1,i1⟩=>⟨I1.kIn,?_⟩) fun _ _ x=>x.bind _) he hpl
 have hg1:=R.next hgg e1
 obtain⟨d,_,e3⟩:=y6v hg1
 exact wpAny_mono (runD Fn.noEr hr I1 r1 i1 hg1 (.inr fun c z=>by rw[e3] at z;cases z)) (fun _ _ q=>Post.bind e1 S1 q) fun _ _ q=>z1l.later e1 S1 q
theorem runF{k:Nat}{f:Addr}{fd:FuncData}{ps:List Str}{φ:List D->R (List D)}(Fn:FnF X.prog X.w X.K X.mg X.base k f fd ps φ)(hr:Room k X.A){pins:List (Addr×Obj)}{σ:St}{H:Hp}{s:Shared}{us:List Value}{vs:List V}{ds:List D}
 (I:Inv X pins σ H s) (r:Vals vs us) (i:IsAll X.K H ds vs) (hg:φ ds ≠ .no) (hx:X.ex=[]∨∀c,φ ds ≠ .er c):wpAny (model X.prog X.w) X.A (call (.ref f) us) (fun u s'=>∃es a xs H',φ ds = .ok es/\Inv X pins σ H' s'/\u = .ref a/\Same H H'/\H a=none/\H' a=some (.lst xs)/\IsAll X.K H' es xs) (z1l X pins σ H (φ ds)) s:=by
 have hsp:spF X.K X.mg φ vs H (fun v H'=>∃es a xs,v = .ref a/\φ ds = .ok es/\Same H H'/\H a=none/\H' a=some (.lst xs)/\IsAll X.K H' es xs) (fun C' _ H'=>∃c C,C' = .ref C/\φ ds = .er c/\X.mg c.nm=some (.ref C)/\Same H H') :=
  ⟨ds,i,hg,fun es a xs H' e S h1 h2 h3=>⟨es,a,xs,rfl,e,S,h1,h2,h3⟩,fun c C H' e hm S=>⟨c,C,rfl,e,hm,S⟩⟩
 have hl:us.length=ps.length:=by rw[<-r.length];exact Fn.ok.len _ _ _ _ hsp
 have hb:=Fn.binds s us I.kIn (by rw[List.append_nil];exact hl)
 rw[List.append_nil] at hb
 refine wpAny_call (codeAny_mono (Fn.ok.run X.A X.stack s H ⟨us,[]⟩ us vs _ _ hr I.env0 hb r hsp) fun r' s' hq=>?_)
 cases r' with
 | error u =>
   obtain⟨c,H',e1,S,fl⟩:=z7e (r:=φ ds>>=fun _=>.ok D.non) (E:=fun C' _ H'=>∃c C,C' = .ref C/\φ ds = .er c/\X.mg c.nm=some (.ref C)/\Same H H') (hx.imp_right fun z C H' ⟨c,_,_,q,_⟩=>z c q) I hq fun C H' hE=>by
    obtain⟨c,C',e,h1,h2,h3⟩:=hE
    cases e
    exact⟨c,R.stop h1 _,h2,h3⟩
   refine⟨c,H',?_,S,fl⟩
   cases q:φ ds with
   | no=>exact absurd q hg
   | ok _=>rw[q] at e1;cases e1
   | er c'=>rw[q] at e1;cases e1;rfl
 | ok fl =>
   cases fl with
   | ret u =>
     obtain⟨v,H',I',rv,es,a,xs,rfl,e,S,h1,h2,h3⟩:=I.after hq
     exact⟨es,a,xs,H',e,I',rv,S,h1,h2,h3⟩
   | next=>exact False.elim hq
   | brk=>exact False.elim hq
   | cont=>exact False.elim hq
theorem z4r{k:Nat}{f:Addr}{fd:FuncData}{ps:List Str}{φ:List D->R (List D)}(Fn:FnF X.prog X.w X.K X.mg X.base k f fd ps φ)(hr:Room k X.A)(hm:X.mg x=some (.ref f))(ha:PAD X (e::es) gs)(hex:X.ex=[]:=by rfl)(hg:Gl X x:=by rfl)(hdb:(x==("__debug__":Str))=false:=by decide)
 (he:starEach (e::es) X.env=(false,eval e X.env)::starEach es X.env:=by rfl) (hpl:(backTo pos (starEach es X.env)).any (·.1)=false:=by rfl):PF X (.Call (.Name x p) (e::es) [] pos) (z3x φ gs):=by
 refine⟨fun pins s σ H F Γ I fo rl hgg=>?_⟩
 refine wpAny_Call_Name_kw (y0c I hg hm ?_ hdb)
 refine PySem.W.callWith_K (h₀:=X.base) I.ok.mod.kin Fn.kp (wpAny_mono (ha.run pos pins s σ H F Γ I fo rl (R.left hgg)) (fun us s1 ⟨ds,vs,H1,e1,I1,r1,S1,i1⟩=>⟨I1.kIn,?_⟩) fun _ _ x=>x.bind _) he hpl
 have hg1:=R.next hgg e1
 refine wpAny_mono (runF Fn hr I1 r1 i1 (R.left hg1) (.inl hex)) (fun u s' ⟨es',a,xs,H',e2,I2,eu,S2,h1,h2,h3⟩=>?_) fun _ _ q=>z1l.later e1 S1 (q.bind _)
 have hgx:=R.next hg1 e2
 obtain⟨n,e3⟩:=R.guard_ne hgx
 exact⟨es',a,xs,H',(R.step e1 _).trans ((R.step e2 _).trans e3),I2,eu,S1.trans S2,S1.free h1,h2,IsAll.hid (((fo.same S1).same S2).cons h2) es' xs n h3⟩
theorem z7y{x:Str}(ha:PD X a ga)(hm:X.mg x=none)(hv:bootBuiltins x=some (.type "list"))(hg:Gl X x:=by rfl)(hn:x≠"__name__":=by decide)(hdb:(x==("__debug__":Str))=false:=by decide)
 (he:starEach [a] X.env=(false,eval a X.env)::starEach [] X.env:=by rfl) (hpl:(backTo pos (starEach [] X.env)).any (·.1)=false:=by rfl):PF X (.Call (.Name x p) [a] [] pos) (z5h ga):=by
 refine⟨fun pins s σ H F Γ I fo rl hgg=>?_⟩
 refine wpAny_Call_Name_kw (z4j I hg hm hv ?_ hn hdb)
 refine PyProof.Rows.callWith_type1 (wpAny_mono ((z0a ha z0c he).run pos pins s σ H F Γ I fo rl (fun z=>?_)) (fun us s1 ⟨ds,vs,H1,e1,I1,r1,S1,i1⟩=>?_) fun _ _ q=>?_) he hpl
 ·unfold gCons at z
  cases q:ga Γ with
  | no=>exact absurd (show z5h ga Γ = .no by unfold z5h;rw[q];rfl) hgg
  | ok d=>rw[q] at z;cases z
  | er c=>rw[q] at z;cases z
 ·have e0:∃d,ga Γ = .ok d/\ds=[d]:=by
   unfold gCons at e1
   cases q:ga Γ with
   | no=>rw[q] at e1;cases e1
   | ok d=>rw[q] at e1;cases e1;exact⟨d,rfl,rfl⟩
   | er c=>rw[q] at e1;cases e1
  obtain⟨d,ed,rfl⟩:=e0
  obtain⟨v,rfl,iv⟩:=z5e i1
  have hg1:=R.next hgg ed
  have fin:∀(p':Addr) (ys:List V) (es':List D),v = .ref p'->(SqL X.K H1 p' ys∨SqT X.K H1 p' ys)->IsAll X.K H1 es' ys->D.noLs es'=true->z5h ga Γ = .ok es' ->
   wpAny (model X.prog X.w) X.A (call (.type "list") us) (fun u s'=>∃ds a xs H',z5h ga Γ = .ok ds/\Inv X pins σ H' s'/\u = .ref a/\Same H H'/\H a=none/\H' a=some (.lst xs)/\IsAll X.K (hid (a::F) H') ds xs) (z1l X pins σ H (z5h ga Γ)) s1:=fun p' ys es' ev hq ie hn' eg=>by
   subst ev
   refine wpAny_mono (y2a (X:=X.nox) pins s1 σ H1 _ us (fun z H'=>∃l,z = .ref l/\H1 l=none/\H'=upd H1 l (.lst ys)) (I1.wish _) r1 ⟨p',ys,rfl,hq,fun l hl=>⟨l,rfl,hl,rfl⟩⟩) (fun u s' ⟨z,H',I',rz,l,ez,hl,eH⟩=>?_) fun _ _ z=>False.elim z
   subst ez eH
   have S2:=z1e hl (.lst ys)
   exact⟨es',l,ys,_,eg,I'.unwish,rz,S1.trans S2,S1.free hl,z0n,IsAll.hid (((fo.same S1).same S2).cons z0n) es' ys hn' (ie.same S2)⟩
  cases d with
  | tup es' =>
    obtain⟨n,e2⟩:=R.guard_ne (show R.guard (D.noLs es'=true) (.ok es') ≠ .no from hg1)
    obtain⟨p',ys,ev,h1,h2⟩:=Is.tup_iff.mp iv
    exact fin p' ys es' ev (.inr h1) h2 n ((R.step ed _).trans e2)
  | lst es' =>
    obtain⟨n,e2⟩:=R.guard_ne (show R.guard (D.noLs es'=true) (.ok es') ≠ .no from hg1)
    obtain⟨p',ys,ev,h1,h2⟩:=Is.lst_iff.mp iv
    exact fin p' ys es' ev (.inl h1) h2 n ((R.step ed _).trans e2)
  | _=>exact absurd rfl hg1
 ·obtain⟨c',H',e1,S,fl⟩:=q
  refine⟨c',H',?_,S,fl⟩
  unfold gCons at e1
  cases q:ga Γ with
  | no=>rw[q] at e1;cases e1
  | ok d=>rw[q] at e1;cases e1
  | er c=>rw[q] at e1;cases e1;unfold z5h;rw[q];rfl
theorem y6o{ga gb:G->R (List D)}(ha:PF X a ga)(hb:PF X b gb):PF X (.BinOp a .Add b pos) (gCat ga gb):=by
 refine⟨fun pins s σ H F Γ I fo rl hg=>?_⟩
 refine wpAny_BinOp (wpAny_mono (ha.run pins s σ H F Γ I fo rl (R.left hg)) (fun v s1 ⟨dx,a1,xs,H1,e1,I1,r1,S1,n1,h1,i1⟩=>?_) fun _ _ x=>x.bind _)
 have hg1:=R.next hg e1
 refine wpAny_mono (hb.run pins s1 σ H1 F Γ I1 (fo.same S1) (rl.same S1) (R.left hg1)) (fun u s2 ⟨dy,a2,ys,H2,e2,I2,r2,S2,n2,h2,i2⟩=>?_) fun _ _ x=>z1l.later e1 S1 (x.bind _)
 have hgx:=R.next hg1 e2
 obtain⟨hc,e3⟩:=R.guard_ne hgx
 subst r1 r2
 have hz:xs.length+ys.length<=sizeLine:=by rw[<-i1.length,<-i2.length];exact z4a hc
 refine wpAny_mono (x3t (X:=X.nox) pins s2 σ H2 (.ref a1) (.ref a2) _ _ (fun z H'=>∃l,z = .ref l/\H2 l=none/\H'=upd H2 l (.lst (xs++ys))) (I2.wish _) rfl rfl ⟨a1,a2,xs,ys,rfl,rfl,S2 _ _ h1,h2,hz,fun l hl=>⟨l,rfl,hl,rfl⟩⟩) (fun u s' ⟨z,H',I',rz,l,ez,hl,eH⟩=>?_) fun _ _ z=>False.elim z
 subst ez eH
 have S3:=z1e hl (.lst (xs++ys))
 have up:∀{q:Addr} {Hq:Hp} {zs:List V} {ds:List D},Same Hq H2->Hq q≠none->IsAll X.K (hid (q::F) Hq) ds zs->IsAll X.K (hid (l::F) (upd H2 l (.lst (xs++ys)))) ds zs:=fun {q Hq zs ds} Sq hq i=>by
  refine i.same fun b o hb=>?_
  obtain⟨z1,z2⟩:=z2f hb
  have z3:=Sq _ _ z2
  have hbl:b≠l:=z0k z3 hl
  rw[z1o fun z=>(List.mem_cons.mp z).elim hbl fun z'=>z1 (List.mem_cons_of_mem _ z'),z0l hbl]
  exact z3
 exact⟨dx++dy,l,xs++ys,_,(R.step e1 _).trans ((R.step e2 _).trans e3),I'.unwish,rz,(S1.trans S2).trans S3,S1.free (S2.free hl),z0n,(up S2 (by rw[h1];simp) i1).append (up (.refl _) (by rw[h2];simp) i2)⟩
end
noncomputable def JD(K:PySem.W.Frag)(H:Hp)(F:List Addr)(J:It)(ds:List D):Prop:=∀H1,(∀b o,b ∉ F->H b=some o->H1 b=some o) ->
 (∀i:Nat,i<ds.length->J.go i H1/\∀x H2,J.yld i H1 x H2->H2=H1/\∃d,ds[i]? = some d/\∀F',(∀b,b∈F'->b∈F∨H b=none)->Is K (hid F' H1) d x)/\J.stop ds.length H1
noncomputable def JC(K:PySem.W.Frag)(H:Hp)(F:List Addr)(J:It)(ds:List D):Prop:=∀H1,Same H H1 ->
 (∀i:Nat,i<ds.length->J.go i H1/\∀x H2,J.yld i H1 x H2->H2=H1/\∃d,ds[i]? = some d/\Is K (hid F H1) d x)/\J.stop ds.length H1
theorem JD.jc{K:PySem.W.Frag}{H:Hp}{F:List Addr}{J:It}{ds:List D}(h:JD K H F J ds):JC K H F J ds:=fun H1 S=>by
 obtain⟨h1,h2⟩:=h H1 fun b o _ q=>S b o q
 refine⟨fun i hi=>⟨(h1 i hi).1,fun x H2 y=>?_⟩,h2⟩
 obtain⟨e,d,ed,iv⟩:=(h1 i hi).2 x H2 y
 exact⟨e,d,ed,iv F fun b hb=>.inl hb⟩
structure PIx (Jx:PySem.W.Frag->Hp->List Addr->It->List D->Prop) (X:Cx) (tg iter:Expr) (g:G->R (List D)):Prop where
 run:∀(pins:List (Addr×Obj)) (s:Shared) (σ:St) (H:Hp) (F:List Addr) (Γ:G),Inv X pins σ H s->FOk H F->Rel X.K H F Γ σ->g Γ ≠ .no ->
  wpAny (model X.prog X.w) X.A (eval iter X.env) (fun v s1=>wpAny (model X.prog X.w) X.A (pyIter v) (fun itv s2=>∃(ds:List D) (it:Addr) (fp:List Addr) (tn:Nat->Heap->Prop) (J:It) (H':Hp),g Γ = .ok ds/\itv = .ref it/\Inv X pins σ H' s2/\Same H H' /\
   Turn X.prog X.w X.K tg J fp it tn/\tn 0 s2.heap/\(∀b∈fp,FpOk X pins H' b)/\Jx X.K H' F J ds) (z1l X pins σ H (g Γ)) s1) (z1l X pins σ H (g Γ)) s
noncomputable abbrev PIF:=PIx JD
noncomputable abbrev PIC:=PIx JC
theorem PIx.pic{X:Cx}{tg iter:Expr}{g:G->R (List D)}(h:PIF X tg iter g):PIC X tg iter g:=⟨fun pins s σ H F Γ I fo rl hg =>
 thn (h.run pins s σ H F Γ I fo rl hg) fun v s1 h1=>thn h1 fun itv s2 ⟨ds,it,fp,tn,J,H',e,ei,I',S,T,t0,fk,j⟩=>⟨ds,it,fp,tn,J,H',e,ei,I',S,T,t0,fk,j.jc⟩⟩
section
variable {X:Cx}{tg a b:Expr}{ga gb:G->R D}
theorem x2f{K:PySem.W.Frag}{H:Hp}{F:List Addr}{p:Addr}{xs:List V}{ds:List D}(h:SqL K H p xs)(i:IsAll K (hid F H) ds xs):JC K H F (Itl K p) ds:=fun H1 S=>by
 have h1:=S.seq h
 have il:=i.length
 refine⟨fun j hj=>⟨⟨xs,xs[j]'(by omega),h1,List.getElem?_eq_getElem (by omega)⟩,fun x H2 y=>⟨y.1,?_⟩⟩,⟨xs,h1,by omega⟩⟩
 exact(i.same (z1i S)).getX (y.2 xs h1)
theorem y1o{H H1:Hp}{F F':List Addr}(S:∀b o,b ∉ F->H b=some o->H1 b=some o)(o:∀b,b∈F'->b∈F∨H b=none):Same (hid F H) (hid F' H1):=Ext.hid ⟨S,o⟩
theorem x0p{K:PySem.W.Frag}{H:Hp}{F:List Addr}{p:Addr}{xs:List V}{ds:List D}(h:SqT K (hid F H) p xs)(i:IsAll K (hid F H) ds xs):JD K H F (Itt K p) ds:=fun H1 S=>by
 have h1:SqT K H1 p xs:=z4h (z1v (F:=F)) (z4h (y1o S fun b hb=>.inl hb) h)
 have il:=i.length
 refine⟨fun j hj=>⟨⟨xs,xs[j]'(by omega),h1,List.getElem?_eq_getElem (by omega)⟩,fun x H2 y=>⟨y.1,?_⟩⟩,⟨xs,h1,by omega⟩⟩
 obtain⟨d,ed,iv⟩:=i.getX (y.2 xs h1)
 exact⟨d,ed,fun F' hF=>iv.same (y1o S hF)⟩
theorem x2d{K:PySem.W.Frag}{H:Hp}{F:List Addr}{p:Addr}{xs:List V}{ds:List D}(h:SqL K (hid F H) p xs)(i:IsAll K (hid F H) ds xs):JD K H F (Itl K p) ds:=fun H1 S=>by
 have h1:SqL K H1 p xs:=(z1v (F:=F)).seq ((y1o S fun b hb=>.inl hb).seq h)
 have il:=i.length
 refine⟨fun j hj=>⟨⟨xs,xs[j]'(by omega),h1,List.getElem?_eq_getElem (by omega)⟩,fun x H2 y=>⟨y.1,?_⟩⟩,⟨xs,h1,by omega⟩⟩
 obtain⟨d,ed,iv⟩:=i.getX (y.2 xs h1)
 exact⟨d,ed,fun F' hF=>iv.same (y1o S hF)⟩
theorem y7i{pins:List (Addr×Obj)}{σ:St}{H:Hp}{s:Shared}{p:Addr}{xs:List V}{E:Value->Shared->Prop}{Q:Value->Shared->Prop}(I:Inv X pins σ H s)(h:SqL X.K H p xs)
 (q:∀it s2,Inv X pins σ H s2->Turn X.prog X.w X.K tg (Itl X.K p) [it] it (fun i h=>h.IsListIter it p i)->s2.heap.IsListIter it p 0->(∀b∈[it],FpOk X pins H b)->Q (.ref it) s2):wpAny (model X.prog X.w) X.A (pyIter (.ref p)) Q E s:=by
 obtain⟨its,rv,pl,hz⟩:=I.list h
 refine wpAny_pyIter_list pl.isList (q s.heap.objs.size _ (I.kept (t':=s.toks) fun b o e=>Heap.get?_push_of_some _ e) (y5t p _) ⟨_,Heap.get?_push_size _ rfl,rfl,rfl⟩ fun b hb=>?_)
 have e:b=s.heap.objs.size:=by simpa using hb
 subst e
 exact I.fpOk (Nat.le_refl _) (I.hok.fresh (Nat.le_refl _))
theorem x0r{pins:List (Addr×Obj)}{σ:St}{H:Hp}{s:Shared}{p:Addr}{xs:List V}{E:Value->Shared->Prop}{Q:Value->Shared->Prop}(I:Inv X pins σ H s)(h:SqT X.K H p xs)
 (q:∀it s2,Inv X pins σ H s2->Turn X.prog X.w X.K tg (Itt X.K p) [it] it (fun i h=>h.IsTupleIter it p i)->s2.heap.IsTupleIter it p 0->(∀b∈[it],FpOk X pins H b)->Q (.ref it) s2):wpAny (model X.prog X.w) X.A (pyIter (.ref p)) Q E s:=by
 obtain⟨its,rv,pl,hz⟩:=I.tuple h
 refine wpAny_pyIter_tuple (show s.heap.IsTuple p its.toArray from pl) (q s.heap.objs.size _ (I.kept (t':=s.toks) fun b o e=>Heap.get?_push_of_some _ e) (y4r p _) ⟨_,Heap.get?_push_size _ rfl,rfl,rfl⟩ fun b hb=>?_)
 have e:b=s.heap.objs.size:=by simpa using hb
 subst e
 exact I.fpOk (Nat.le_refl _) (I.hok.fresh (Nat.le_refl _))
theorem y2o(ha:PDr X a ga):PIF X tg a (gSeq ga):=by
 refine⟨fun pins s σ H F Γ I fo rl hg=>?_⟩
 refine wpAny_mono (ha.run pins s σ H F Γ I fo rl (R.left hg)) (fun v s1 ⟨d,x,H1,e1,I1,r1,S1,i1⟩=>?_) fun _ _ x=>x.bind _
 have hg1:=R.next hg e1
 cases d with
 | tup ds =>
   obtain⟨p,xs,rfl,h1,h2⟩:=Is.tup_iff.mp i1
   cases (show v=Value.ref p from r1)
   exact x0r (tg:=tg) I1 (z4h (z1v (F:=F)) h1) fun it s2 I2 T t0 fk=>⟨ds,it,_,_,_,H1,R.step e1 _,rfl,I2,S1,T,t0,fk,x0p h1 h2⟩
 | lst ds =>
   obtain⟨p,xs,rfl,h1,h2⟩:=Is.lst_iff.mp i1
   cases (show v=Value.ref p from r1)
   exact y7i (tg:=tg) I1 ((z1v (F:=F)).seq h1) fun it s2 I2 T t0 fk=>⟨ds,it,_,_,_,H1,R.step e1 _,rfl,I2,S1,T,t0,fk,x2d h1 h2⟩
 | _=>exact absurd rfl hg1
theorem z3t(ha:PD X a ga):PIC X tg a (z5g ga):=by
 refine⟨fun pins s σ H F Γ I fo rl hg=>?_⟩
 refine wpAny_mono (ha.run pins s σ H F Γ I fo rl (R.left hg)) (fun v s1 ⟨d,x,H1,e1,I1,r1,S1,i1⟩=>?_) fun _ _ x=>x.bind _
 have hg1:=R.next hg e1
 cases d with
 | tup ds =>
   obtain⟨n,e2⟩:=R.guard_ne (show R.guard (D.noLs ds=true) (.ok ds) ≠ .no from hg1)
   obtain⟨p,xs,rfl,h1,h2⟩:=Is.tup_iff.mp i1
   cases (show v=Value.ref p from r1)
   exact x0r (tg:=tg) I1 h1 fun it s2 I2 T t0 fk=>⟨ds,it,_,_,_,H1,(R.step e1 _).trans e2,rfl,I2,S1,T,t0,fk,(x0p (y5x (fo.same S1) h1) (IsAll.hid (fo.same S1) ds xs n h2)).jc⟩
 | lst ds =>
   obtain⟨n,e2⟩:=R.guard_ne (show R.guard (D.noLs ds=true) (.ok ds) ≠ .no from hg1)
   obtain⟨p,xs,rfl,h1,h2⟩:=Is.lst_iff.mp i1
   cases (show v=Value.ref p from r1)
   exact y7i (tg:=tg) I1 h1 fun it s2 I2 T t0 fk=>⟨ds,it,_,_,_,H1,(R.step e1 _).trans e2,rfl,I2,S1,T,t0,fk,x2f h1 (IsAll.hid (fo.same S1) ds xs n h2)⟩
 | _=>exact absurd rfl hg1
theorem y4c{K:PySem.W.Frag}{H:Hp}{F:List Addr}(lo:Int)(n:Nat):JD K H F (Itr lo n) (z2n lo n):=fun H1 S=>by
 rw[z0y]
 refine⟨fun j hj=>⟨hj,fun x H2 y=>⟨y.1,.int (lo+(j:Int)),z6r lo n j hj,fun F' _=>?_⟩⟩,Nat.le_refl _⟩
 exact Is.int_iff.mpr y.2
theorem z2o{p pos:Pos}(ha:PD X a ga)(hm:X.mg "range"=none)(hg:Gl X "range":=by rfl)(hs:starEach [a] X.env=[(false,eval a X.env)]:=by rfl):PIF X tg (.Call (.Name "range" p) [a] [] pos) (z6m ga):=by
 refine⟨fun pins s σ H F Γ I fo rl hgg=>?_⟩
 refine Call_ (z4j I hg hm boot_range (PyProof.Rows.callWith_type1 ?_ hs rfl))
 rw[hs]
 show wpAny _ _ (spliced ((false,eval a X.env)::backTo pos [])) _ _ s
 refine Calls.spliced_cons (wpAny_mono (ha.run pins s σ H F Γ I fo rl (R.left hgg)) (fun u s1 ⟨d,v,H1,e1,I1,r1,S1,i1⟩=>Calls.spliced_nil ?_) fun _ _ x=>x.bind _)
 have hg1:=R.next hgg e1
 cases d with
 | int j =>
   obtain⟨⟨h1,h2⟩,e2⟩:=R.guard_ne (show R.guard (-(2^62)<=j/\j<2^62) (.ok (z2n 0 j.toNat)) ≠ .no from hg1)
   rw[Is.int_iff.mp i1] at r1
   obtain⟨t,rfl⟩:=(show ∃t,u=Value.int j t from r1)
   refine call_range_1 (thn (y3r (tg:=tg) (R:=fun J H'=>J=Itr 0 (j-0).toNat/\H'=H1) I1 (by omega) (by omega) h1 h2 ⟨rfl,rfl⟩) fun itv s2 ⟨it,fp,tn,J,H',ei,I2,T,t0,fk,eJ,eH⟩=>?_)
   subst eJ eH
   rw[Int.sub_zero] at T
   exact⟨_,it,fp,tn,_,H',(R.step e1 _).trans e2,ei,I2,S1,T,t0,fk,y4c 0 j.toNat⟩
 | _=>exact absurd rfl hg1
theorem y5a{p pos:Pos}(ha:PD X a ga)(hb:PD X b gb)(hm:X.mg "range"=none)(hg:Gl X "range":=by rfl)(hs:starEach [a,b] X.env=[(false,eval a X.env),(false,eval b X.env)]:=by rfl)(hs2:starEach [b] X.env=[(false,eval b X.env)]:=by rfl) :
 PIF X tg (.Call (.Name "range" p) [a,b] [] pos) (y1p ga gb):=by
 refine⟨fun pins s σ H F Γ I fo rl hgg=>?_⟩
 refine Call_ (z4j I hg hm boot_range (PyProof.Rows.callWith_type1 ?_ (by rw[hs,hs2]) (by rw[hs2];rfl)))
 rw[hs]
 show wpAny _ _ (spliced ((false,eval a X.env)::backTo pos [(false,eval b X.env)])) _ _ s
 refine Calls.spliced_cons (wpAny_mono (ha.run pins s σ H F Γ I fo rl (R.left hgg)) (fun u s1 ⟨d,v,H1,e1,I1,r1,S1,i1⟩=>?_) fun _ _ x=>x.bind _)
 have hg1:=R.next hgg e1
 show wpAny _ _ (spliced ((false,eval b X.env)::backTo pos [])) _ _ s1
 refine Calls.spliced_cons (wpAny_mono (hb.run pins s1 σ H1 F Γ I1 (fo.same S1) (rl.same S1) (R.left hg1)) (fun u2 s2 ⟨d2,v2,H2,e2,I2,r2,S2,i2⟩=>Calls.spliced_nil ?_) fun _ _ x=>z1l.later e1 S1 (x.bind _))
 have hg2:=R.next hg1 e2
 cases d with
 | int i =>
   cases d2 with
   | int j =>
     obtain⟨⟨⟨h1,h2⟩,h3,h4⟩,e3⟩:=R.guard_ne (show R.guard ((-(2^62)<=i/\i<2^62) /\ -(2^62)<=j/\j<2^62) (.ok (z2n i (j-i).toNat)) ≠ .no from hg2)
     rw[Is.int_iff.mp i1] at r1
     rw[Is.int_iff.mp i2] at r2
     obtain⟨t,rfl⟩:=(show ∃t,u=Value.int i t from r1)
     obtain⟨t',rfl⟩:=(show ∃t,u2=Value.int j t from r2)
     refine call_range_2 (thn (y3r (tg:=tg) (R:=fun J H'=>J=Itr i (j-i).toNat/\H'=H2) I2 h1 h2 h3 h4 ⟨rfl,rfl⟩) fun itv s3 ⟨it,fp,tn,J,H',ei,I3,T,t0,fk,eJ,eH⟩=>?_)
     subst eJ eH
     exact⟨_,it,fp,tn,_,H',(R.step e1 _).trans ((R.step e2 _).trans e3),ei,I3,S1.trans S2,T,t0,fk,y4c i (j-i).toNat⟩
   | _=>exact absurd rfl hg2
 | _=>exact absurd rfl hg2
end
theorem y5d{k:NameKind}(h:(k==NameKind.free)=true):k = .free:=by cases k<;>first | rfl | (exact absurd h (by decide))
noncomputable def capt(env:Env):List (Str×NameKind)->List (Str×Addr)->List (Str×Addr)
 | [],cs=>cs
 | (n,k)::r,cs=>if (k == .free)=true then (match env.cells.lookup n with | some a=>capt env r ((n,a)::cs) | none=>capt env r cs) else capt env r cs
theorem z2k{env:Env}{x:Str}{c:Addr}:∀(names:List (Str×NameKind)) (cs:List (Str×Addr)),(x,c)∈capt env names cs->(x,c)∈cs∨env.cells.lookup x=some c
 | [],cs,h=>.inl h
 | (n,k)::r,cs,h=>by
   unfold capt at h
   split at h
   ·split at h
    ·rename_i a e
     rcases z2k r _ h with q | q
     ·rcases List.mem_cons.mp q with z | z
      ·cases z;exact .inr e
      ·exact .inl z
     ·exact .inr q
    ·exact z2k r _ h
   ·exact z2k r _ h
theorem z7s{env:Env}{p:Str×Addr}:∀(names:List (Str×NameKind)) (cs:List (Str×Addr)),p∈cs->p∈capt env names cs
 | [],cs,h=>h
 | (n,k)::r,cs,h=>by
   unfold capt
   split
   ·split
    ·exact z7s r _ (List.mem_cons_of_mem _ h)
    ·exact z7s r _ h
   ·exact z7s r _ h
theorem z3o{env:Env}{x:Str}{c:Addr}(e:env.cells.lookup x=some c):∀(names:List (Str×NameKind)) (cs:List (Str×Addr)),(x,NameKind.free)∈names->(x,c)∈capt env names cs
 | [],cs,h=>by simp at h
 | (n,k)::r,cs,h=>by
   unfold capt
   rcases List.mem_cons.mp h with z | z
   ·cases z
    rw[if_pos (show(NameKind.free==NameKind.free)=true by decide),e]
    exact z7s r _ List.mem_cons_self
   ·split
    ·split
     ·exact z3o e r _ z
     ·exact z3o e r _ z
    ·exact z3o e r _ z
theorem z1a{α:Type}:∀{l:List (Str×α)} {x:Str} {c:α},(x,c)∈l->∃c',l.lookup x=some c'/\(x,c')∈l
 | [],_,_,h=>by simp at h
 | (n,a)::r,x,c,h=>by
   by_cases e:x=n
   ·subst e;exact⟨a,by simp[List.lookup],List.mem_cons_self⟩
   ·rcases List.mem_cons.mp h with z | z
    ·cases z;exact absurd rfl e
    ·obtain⟨c',h1,h2⟩:=z1a z
     exact⟨c',by rw[List.lookup_cons,beq_eq_false_iff_ne.mpr e];exact h1,List.mem_cons_of_mem _ h2⟩
noncomputable def y0k(N:List Str)(env:Env)(y:Str)(scope:Scope):Bool :=
 decide (scope.kind = .function)&&scope.names.all (fun p=>decide (p.2 ≠ .cell)&&(decide (p.2 ≠ .local)||decide (scope.names.lookup p.1=some .local))&&(decide (p.2 ≠ .free)||((env.cells.lookup p.1).isSome&&(decide (env.scope.names.lookup p.1=some .cell)||decide (env.scope.names.lookup p.1=some .free)))))
  && decide (scope.names.lookup y=some .local)&&decide (scope.names.lookup (("":Str))=none)&&N.all (fun z=>decide (scope.names.lookup z≠some .local)||decide (z=y))&&N.all (fun z=>decide (z≠("":Str)))
structure CompOk (N:List Str) (env:Env) (y:Str) (scope:Scope):Prop where
 kind:scope.kind = .function
 nocell:∀p∈scope.names,p.2 ≠ .cell
 names:∀p∈scope.names,p.2 = .local->scope.names.lookup p.1=some .local
 free:∀p∈scope.names,p.2 = .free->(∃c,env.cells.lookup p.1=some c)/\(env.scope.names.lookup p.1=some .cell∨env.scope.names.lookup p.1=some .free)
 loc:scope.names.lookup y=some .local
 nil:scope.names.lookup (("":Str))=none
 only:∀z∈N,scope.names.lookup z=some .local->z=y
 none:∀z∈N,z≠("":Str)
theorem y1x{N:List Str}{env:Env}{y:Str}{scope:Scope}(h:y0k N env y scope=true):CompOk N env y scope:=by
 unfold y0k at h
 simp only[Bool.and_eq_true,List.all_eq_true,Bool.or_eq_true,decide_eq_true_eq] at h
 obtain⟨⟨⟨⟨⟨h1,h2⟩,h3⟩,h4⟩,h5⟩,h6⟩:=h
 refine⟨h1,fun p hp=>(h2 p hp).1.1,fun p hp e=>((h2 p hp).1.2).resolve_left fun z=>z e,fun p hp e=>?_,h3,h4,fun z hz e=>(h5 z hz).resolve_left fun q=>q e,h6⟩
 have q:=((h2 p hp).2).resolve_left fun z=>z e
 exact⟨Option.isSome_iff_exists.mp q.1,q.2⟩
noncomputable def z1p(X:Cx)(y:Str)(scope:Scope)(C:Addr)(s₂:Shared)(H₂:Hp)(fp:List Addr)(pn:List (Addr×Obj)):Cx :=
 { X with N:=y::X.N.map (fun z=>if z=y then ("":Str) else z),s₀:=s₂,H₀:=H₂,env:=compEnvC scope (capt X.env scope.names []) C X.env,outer:=X.stack,ex:=fp,fn:=fun _=>false,pn:=pn,xe:=fun _ _=>False }
theorem y0z{α β:Type}{M:Model}{A:Around}{E E':Value->Shared->Prop}{s:Shared}{a:α}{t:Sem β}{P:α->Shared->Prop}{Q:β->Shared->Prop}(h:wpAny M A (pure a) P E s)(k:P a s->wpAny M A t Q E' s):wpAny M A t Q E' s:=fun Γ p hΓ=>k (h Γ p hΓ) Γ p hΓ
theorem y0d{P:Program}{w:World}{H:Hp}{h:Heap}{a:Addr}{o:HO}(x:HOk P w H h)(hn:H a=none)(new:z5q P w (upd H a o) h a o):HOk P w (upd H a o) h:=fun b u e=>by
 by_cases hb:b=a
 ·subst hb;rw[z0n] at e;cases e;exact new
 ·rw[z0l hb] at e
  exact(x b u e).stay (fun c v _ q=>q) (fun c q=>by rw[z0l (z0k q hn)];exact q) fun c xs q=>by rw[z0l (z0k q hn)];exact q
theorem y8e{X:Cx}{y:Str}{scope:Scope}{C Dd:Addr}{fp:List Addr}{pins pl:List (Addr×Obj)}{σ σ':St}{H₂ H':Hp}{s₂ s1:Shared}{xs:List V}{its:List Value}{n:Nat}(I:Inv X pins σ H₂ s₂)
 (J:Inv (z1p X y scope C s₂ H₂ fp (X.pn++pins)) pl σ' H' s1) (hD:s₂.heap.objs.size<=Dd) (hn:H' Dd=none) (hd:s1.heap.get? Dd=some { cls:=.type "list",data:=.seq its.toArray n }) (rv:Vals xs its) (hz:xs.length<=sizeLine) (hf:∀b∈fp,FpOk X pins H₂ b) :
 Inv X pins σ (upd H' Dd (.lst xs)) s1:=by
 have os:s1.os=s₂.os:=J.os
 have un:Un (frs X.stack) fp H₂ H' s₂.heap s1.heap:=J.base
 have hok:HOk X.prog X.w H' s1.heap:=J.hok
 have bare:AllBare s1.gens:=J.bare
 clear J
 obtain⟨hh,gg,dd,tt,os'⟩:=s1
 obtain rfl:os'=s₂.os:=os
 have neD:∀b o,s₂.heap.get? b=some o->b≠Dd:=fun b o e=>Nat.ne_of_lt (Nat.lt_of_lt_of_le (Heap.lt_size e) hD)
 refine I.call (h':=hh) (g':=gg) (d':=dd) (t':=tt) (ch:=fp) ⟨un.keep,un.slot,fun b o e n' hx=>?_,un.there,fun b ys e=>?_,fun b o u e=>?_,fun b ps e=>?_⟩ (y0d hok hn ⟨hz,its,n,rv,hd⟩) bare fun b hb=>?_
 ·rw[z0l (neD b o e)];exact un.free b o e n' hx
 ·have q:=un.tups b ys e
  rw[z0l (z0k q hn)];exact q
 ·have q:=un.frzs b o u e
  rw[z0l (z0k q hn)];exact q
 ·obtain⟨more,q⟩:=un.tbls b ps e
  exact⟨more,by rw[z0l (z0k q hn)];exact q⟩
 ·obtain⟨f0,f1,f2,f3,f4,f5⟩:=hf b hb
  exact⟨f3.imp_right fun z=>Heap.get?_none_of_le z,f1,f4,f5⟩
theorem x2p{X:Cx}{y:Str}{scope:Scope}{C:Addr}{fp:List Addr}{pins:List (Addr×Obj)}{σ:St}{H₂:Hp}{s₂:Shared}(I:Inv X pins σ H₂ s₂)(c:CompOk X.N X.env y scope)(hC:s₂.heap.objs.size<=C)(hf:∀b∈fp,FpOk X pins H₂ b)(ho:∀b∈fp,b<s₂.heap.objs.size) :
 (z1p X y scope C s₂ H₂ fp (X.pn++pins)).Ok:=by
 have cells:∀x k,(capt X.env scope.names []).lookup x=some k->X.env.cells.lookup x=some k:=fun x k e=>by
  rcases z2k scope.names [] (PySem.mem_of_lookup e) with q | q
  ·simp at q
  ·exact q
 refine⟨I.ok.mod,c.kind,I.ok.glob,I.ok.blt,hC,fun x z k h1 h2=>I.ok.inj x z k (cells x k h1) (cells z k h2),fun x hx=>?_,fun x k h _=>absurd h (by simp[z1p]),I.ok.hd,I.ok.frames,.inl rfl,fun b hb=>?_,I.bs,Nat.le_trans I.ok.bsz I.sz,fun b o e hb=>?_,fun b hb z=>?_,I.stack,I.stkFree⟩
 ·have hx':(relabel scope X.env).names.lookup x=some .cell∨(relabel scope X.env).names.lookup x=some .free:=hx
  have hm:∃k,(x,k)∈scope.names/\(k = .free∨k = .cell):=by
   rcases hx' with q | q <;>
   ·have m:=PySem.mem_of_lookup q
    unfold relabel at m
    simp only[List.mem_map] at m
    obtain⟨⟨n,k⟩,hm,e⟩:=m
    by_cases hc:(k==NameKind.free&&X.env.scope.kind == .function&&X.env.kindOf n==some .cell)=true
    ·rw[if_pos hc] at e
     have e1:n=x:=congrArg Prod.fst e
     subst e1
     rw[Bool.and_eq_true,Bool.and_eq_true] at hc
     exact⟨k,hm,.inl (y5d hc.1.1)⟩
    ·rw[if_neg hc] at e
     have e1:n=x:=congrArg Prod.fst e
     have e2:=congrArg Prod.snd e
     dsimp only at e2
     subst e1 e2
     exact⟨_,hm,by first | exact .inr rfl | exact .inl rfl⟩
  obtain⟨k,hm,hk⟩:=hm
  rcases hk with rfl | rfl
  ·obtain⟨⟨a,ea⟩,_⟩:=c.free _ hm rfl
   obtain⟨c',h1,_⟩:=z1a (z3o ea scope.names [] hm)
   exact⟨c',h1⟩
  ·exact absurd rfl (c.nocell _ hm)
 ·refine⟨Nat.ne_of_lt (Nat.lt_of_lt_of_le (ho b hb) hC),fun x k e=>(hf b hb).2.2.2.2.1 x k (cells x k e)⟩
 ·rcases(hf b hb).2.2.2.1 with z | z
  ·exact I.ok.noex b o e z
  ·exact absurd (Nat.lt_of_lt_of_le (Nat.lt_of_lt_of_le (Heap.lt_size e) I.ok.bsz) z) (Nat.lt_irrefl _)
 ·rcases List.mem_cons.mp (I.stkSub b z) with q | q
  ·exact(hf b hb).2.1 q
  ·exact(hf b hb).2.2.1 q
section
variable {X:Cx}{y:Str}{scope:Scope}
theorem y5j{C Dd:Addr}{fp:List Addr}{pins:List (Addr×Obj)}{σ:St}{H₂:Hp}{s₂:Shared}{h₁:Heap}{tk:Nat}{oD:Obj}{m:Str->Option Value}(I:Inv X pins σ H₂ s₂)(c:CompOk X.N X.env y scope)(hC:s₂.heap.objs.size<=C)(hD:s₂.heap.objs.size<=Dd)(hDC:Dd≠C)(hf:∀b∈fp,FpOk X pins H₂ b)(ho:∀b∈fp,b<s₂.heap.objs.size)
 (old:∀b o,s₂.heap.get? b=some o->h₁.get? b=some o) (hns:h₁.Ns C m) (hd:h₁.get? Dd=some oD) (hdd:∀v,oD.data ≠ .cell v) :
 Inv (z1p X y scope C s₂ H₂ fp (X.pn++pins)) [(Dd,oD)] (none::σ) H₂ { s₂ with heap:=h₁,toks:=tk }:=by
 have cells:∀x k,(capt X.env scope.names []).lookup x=some k->X.env.cells.lookup x=some k:=fun x k e=>by
  rcases z2k scope.names [] (PySem.mem_of_lookup e) with q | q
  ·simp at q
  ·exact q
 have nstk:∀b,s₂.heap.objs.size<=b->b ∉ frs X.stack:=fun b hb z=>by
  rcases List.mem_cons.mp (I.stkSub b z) with q | q
  ·exact absurd (Nat.lt_of_lt_of_le I.lt (by rw[<-q];exact hb)) (Nat.lt_irrefl _)
  ·exact I.nofs hb q
 refine⟨x2p I c hC hf ho,rfl,I.bare,Un.kept old,⟨m,hns,fun i x v e1 e2 e3=>?_⟩,fun x k e=>?_,I.hok.fresh hC,fun x k e=>I.freeC x k (cells x k e),fun p hp=>?_,I.hok.kept old,?_⟩
 ·cases i with
  | zero=>simp at e2
  | succ i =>
    have e2':σ[i]? = some (some v):=by simpa using e2
    have e1':(X.N.map (fun z=>if z=y then ("":Str) else z))[i]? = some x:=by simpa [z1p] using e1
    rw[List.getElem?_map] at e1'
    cases hz:X.N[i]? with
    | none=>rw[hz] at e1';cases e1'
    | some z =>
      rw[hz] at e1'
      simp only[Option.map_some,Option.some.injEq] at e1'
      have e3':Vis (relabel scope X.env) x:=e3
      have look0:∀{k:NameKind},(relabel scope X.env).names.lookup x=some k->∃k',(x,k')∈scope.names/\(k'=k∨(k' = .free/\k = .cell)):=fun {k} q=>by
       have m':=PySem.mem_of_lookup q
       unfold relabel at m'
       simp only[List.mem_map] at m'
       obtain⟨⟨n,k0⟩,hm,e⟩:=m'
       by_cases hc:(k0==NameKind.free&&X.env.scope.kind == .function&&X.env.kindOf n==some .cell)=true
       ·rw[if_pos hc] at e
        have e1:n=x:=congrArg Prod.fst e
        have e2:=congrArg Prod.snd e
        dsimp only at e2
        subst e1 e2
        rw[Bool.and_eq_true,Bool.and_eq_true] at hc
        exact⟨k0,hm,.inr ⟨y5d hc.1.1,rfl⟩⟩
       ·rw[if_neg hc] at e
        have e1:n=x:=congrArg Prod.fst e
        have e2:=congrArg Prod.snd e
        dsimp only at e2
        subst e1 e2
        exact⟨_,hm,.inl rfl⟩
      have inames:∀k',(x,k')∈scope.names->x≠("":Str):=fun k' hm z=>by
       subst z
       obtain⟨c',h1,_⟩:=z1a hm
       rw[c.nil] at h1;cases h1
      have ne:x≠("":Str):=by
       rcases e3' with q | q | q<;>(obtain⟨k',hm,_⟩:=look0 q;exact inames k' hm)
      by_cases hzy:z=y
      ·rw[if_pos hzy] at e1';exact absurd e1'.symm ne
      ·rw[if_neg hzy] at e1'
       subst e1'
       have fr:(z,NameKind.free)∈scope.names:=by
        rcases e3' with q | q | q
        ·obtain⟨k',hm,hk⟩:=look0 q
         rcases hk with rfl | ⟨_,hk⟩
         ·exact absurd (c.only z (List.mem_of_getElem? hz) (c.names _ hm rfl)) hzy
         ·cases hk
        ·obtain⟨k',hm,hk⟩:=look0 q
         rcases hk with rfl | ⟨rfl,_⟩
         ·exact absurd rfl (c.nocell _ hm)
         ·exact hm
        ·obtain⟨k',hm,hk⟩:=look0 q
         rcases hk with rfl | ⟨_,hk⟩
         ·exact hm
         ·cases hk
       obtain⟨⟨ca,eca⟩,hv⟩:=c.free _ fr rfl
       obtain⟨m0,hn0,hl0⟩:=I.loc
       obtain⟨u,ru,lk⟩:=hl0 i z v hz e2' (.inr hv)
       refine⟨u,ru,?_⟩
       rcases lk with ⟨q,_⟩ | ⟨_,k,ek,hk⟩
       ·exfalso
        have q':X.env.scope.names.lookup z=some .local:=q
        rcases hv with w | w<;>(rw[q'] at w;cases w)
       ·obtain⟨c',h1,_⟩:=z1a (z3o ek scope.names [] fr)
        have h2:=cells z c' h1
        rw[ek] at h2;cases h2
        refine .inr ⟨?_,k,h1,?_⟩
        ·rcases e3' with q | q | q
         ·exfalso
          obtain⟨k',hm,hk'⟩:=look0 q
          rcases hk' with rfl | ⟨_,hk'⟩
          ·exact hzy (c.only z (List.mem_of_getElem? hz) (c.names _ hm rfl))
          ·cases hk'
         ·exact .inl q
         ·exact .inr q
        ·obtain⟨o,ho',hd'⟩:=hk
         exact⟨o,old _ _ ho',hd'⟩
 ·obtain⟨v,o,ho',hd'⟩:=I.cell x k (cells x k e)
  exact⟨v,o,old _ _ ho',hd'⟩
 ·rcases List.mem_append.mp hp with q | q
  ·obtain⟨h1,h2,h3,h4,h5⟩:=I.pin p q
   refine⟨old _ _ h1,h2,Nat.ne_of_lt (Nat.lt_of_lt_of_le (Heap.lt_size h1) hC),fun z=>?_,h5⟩
   rcases List.mem_cons.mp (I.stkSub p.1 z) with q' | q'
   ·exact h3 q'
   ·exact h4 q'
  ·have e:p=(Dd,oD):=by simpa using q
   subst e
   exact⟨hd,I.hok.fresh hD,hDC,nstk Dd hD,hdd⟩
 ·show σ.length+1=(y::X.N.map _).length
  rw[List.length_cons,List.length_map,I.len]
structure PC1 (X:Cx) (y:Str) (scope:Scope) (ifs:List Expr) (elt:Expr) (f:D->G->R (Option D)):Prop where
 run:∀(C:Addr) (s₂:Shared) (H₂:Hp) (fp:List Addr) (pn:List (Addr×Obj)) (pins:List (Addr×Obj)) (s:Shared) (σ:St) (H:Hp) (F:List Addr) (Γ:G) (d:D),Inv (z1p X y scope C s₂ H₂ fp pn) pins σ H s->FOk H F->Rel X.K H F (.ro d::Γ) σ->(∃o,f d Γ = .ok o) ->
  wpAny (model X.prog X.w) X.A (forIn ifs true fun c r=>if r=true then do let ok <-isTrue c (compEnvC scope (capt X.env scope.names []) C X.env) (eval c (compEnvC scope (capt X.env scope.names []) C X.env));pure (ForInStep.yield ok) else pure (ForInStep.yield r)) (fun ok s₃ =>
   if ok=true then wpAny (model X.prog X.w) X.A (eval elt (compEnvC scope (capt X.env scope.names []) C X.env)) (fun u s₄=>∃e v H',f d Γ = .ok (some e)/\Inv (z1p X y scope C s₂ H₂ fp pn) pins σ H' s₄/\RelV v u/\Same H H'/\Is X.K (hid F H') e v) (fun _ _=>False) s₃
   else f d Γ = .ok none/\∃H',Inv (z1p X y scope C s₂ H₂ fp pn) pins σ H' s₃/\Same H H') (fun _ _=>False) s
theorem z5a{elt:Expr}{ge:G->R D}(he:∀C s₂ H₂ fp pn,PDr (z1p X y scope C s₂ H₂ fp pn) elt ge):PC1 X y scope [] elt (fElt ge):=by
 refine⟨fun C s₂ H₂ fp pn pins s σ H F Γ d I fo rl ⟨o,eo⟩=>?_⟩
 refine wpAny_tests_nil ?_
 rw[if_pos rfl]
 have hne:ge (.ro d::Γ) ≠ .no:=fun z=>by unfold fElt at eo;rw[z] at eo;cases eo
 refine wpAny_mono ((he C s₂ H₂ fp pn).run pins s σ H F (.ro d::Γ) I fo rl hne) (fun u s4 ⟨e,v,H',e1,I',rv,S,iv⟩=>⟨e,v,H',R.step e1 _,I',rv,S,iv⟩) fun x s' ⟨c,H',e1,_⟩=>?_
 unfold fElt at eo;rw[e1] at eo;cases eo
theorem z9u{elt c:Expr}{gc:G->R Bool}{ge:G->R D}(hc:∀C s₂ H₂ fp pn,PTD (z1p X y scope C s₂ H₂ fp pn) c gc)(he:∀C s₂ H₂ fp pn,PDr (z1p X y scope C s₂ H₂ fp pn) elt ge):PC1 X y scope [c] elt (z5x gc ge):=by
 refine⟨fun C s₂ H₂ fp pn pins s σ H F Γ d I fo rl ⟨o,eo⟩=>?_⟩
 have hne:gc (.ro d::Γ) ≠ .no:=fun z=>by unfold z5x at eo;rw[z] at eo;cases eo
 refine wpAny_tests_one (wpAny_mono ((hc C s₂ H₂ fp pn).run pins s σ H F (.ro d::Γ) I fo rl hne) (fun k s3 ⟨H1,e1,I1,S1⟩=>?_) fun x s' ⟨c',H',e1,_⟩=>?_)
 ·have eo':(if k=true then ge (.ro d::Γ)>>=fun e=>R.ok (some e) else .ok none) = .ok o:=by
   unfold z5x at eo;rw[e1] at eo;exact eo
  cases k with
  | false =>
    rw[if_neg Bool.false_ne_true]
    exact⟨R.step e1 _,H1,I1,S1⟩
  | true =>
    rw[if_pos rfl] at eo' ⊢
    have hne2:ge (.ro d::Γ) ≠ .no:=fun z=>by rw[z] at eo';cases eo'
    refine wpAny_mono ((he C s₂ H₂ fp pn).run pins s3 σ H1 F (.ro d::Γ) I1 (fo.same S1) (rl.same S1) hne2) (fun u s4 ⟨e,v,H',e2,I',rv,S,iv⟩=>⟨e,v,H',(R.step e1 _).trans (R.step e2 _),I',rv,S1.trans S,iv⟩) fun x s' ⟨c',H',e2,_⟩=>?_
    rw[e2] at eo';cases eo'
 ·unfold z5x at eo;rw[e1] at eo;cases eo
theorem z7k{K:PySem.W.Frag}{H:Hp}{F:List Addr}{Γ:G}{σ:St}{d:D}{v:V}(r:Rel K H F Γ σ)(i:Is K (hid F H) d v):Rel K H F (.ro d::Γ) (some v::σ) where
 len:=by rw[List.length_cons,List.length_cons,r.len]
 ro:=fun j d' h=>by
  cases j with
  | zero=>simp at h;cases h;exact⟨v,rfl,i⟩
  | succ j=>exact r.ro j d' (by simpa using h)
 own:=fun j ds h=>by
  cases j with
  | zero=>simp at h
  | succ j=>exact r.own j ds (by simpa using h)
 inj:=fun j k ds es a h1 h2 h3 h4=>by
  cases j with
  | zero=>simp at h1
  | succ j =>
    cases k with
    | zero=>simp at h2
    | succ k=>rw[r.inj j k ds es a (by simpa using h1) (by simpa using h2) (by simpa using h3) (by simpa using h4)]
theorem sb1{n a i:Nat}(e:n=a-i)(h:i<a):a-(i+1)<n:=by omega
theorem sb2{a c d:Nat}(h:c=d+1)(e:a=d):(d≠c/\a<=c/\a<=d)/\∀b,b<a->b≠c/\b≠d:=⟨⟨by omega,by omega,by omega⟩,fun b hb=>⟨by omega,by omega⟩⟩
theorem sb3{a c d k:Nat}(h:c=d+1)(e:a=d)(g:c+1=k):(a<=k/\k≠d)/\∀b,b<a->b≠k:=⟨⟨by omega,by omega⟩,fun b hb=>by omega⟩
theorem y1w{elt iter:Expr}{px pos:Pos}{ifs:List Expr}{f:D->G->R (Option D)}{pins:List (Addr×Obj)}{σ:St}{H₂:Hp}{s₂:Shared}{F:List Addr}{Γ:G}{items:List D}{it:Addr}{fp:List Addr}{tn:Nat->Heap->Prop}{J:It}{E:Value->Shared->Prop}{total:List D}
 (hp:PC1 X y scope ifs elt f) (c:CompOk X.N X.env y scope) (hN:X.N.Nodup) (hcalm:X.calm=true) (I:Inv X pins σ H₂ s₂) (fo:FOk H₂ F) (rl:Rel X.K H₂ F Γ σ) (T:Turn X.prog X.w X.K (.Name y px) J fp it tn) (t0:tn 0 s₂.heap) (hf:∀b∈fp,FpOk X pins H₂ b) (hj:JC X.K H₂ F J items)
 (ht:z0p (fun d=>f d Γ) items [] = .ok total) (hl:items.length<=100000) {RR:Value->Addr->Result->Shared->Prop}
 (hR:∀(Dd C:Addr) (xs:List V) (H':Hp) (m:Str->Option Value) (s':Shared),s₂.heap.objs.size<=C->Dd≠C->H₂ Dd=none->H' Dd=none->H' C=none->s₂.heap.objs.size<=Dd->Same H₂ H'->IsAll X.K (hid F H') total xs->Inv X pins σ (upd H' Dd (.lst xs)) s'->s'.heap.Ns C m->RR (.ref Dd) C (.ok .next) s') :
 wpAny (model X.prog X.w) X.A (newList []) (fun acc s₃=>wpAny (model X.prog X.w) X.A (newFunctionEnv scope X.env.globals (capt X.env scope.names []) [] X.env.qual none .none (some X.env)) (fun cenv s₄ =>
  codeAny (model X.prog X.w) X.A (.compStart (.ListComp elt [⟨.Name y px,iter,ifs,0⟩] scope pos) 0 (.ref it) acc { cenv with scope:=relabel scope X.env }) (RR acc cenv.locals) s₄) E s₃) E s₂:=by
 have ho:∀b∈fp,b<s₂.heap.objs.size:=fun b hb=>by obtain⟨o,e,_⟩:=T.obj _ _ t0 b hb;exact Heap.lt_size e
 refine wpAny_newObj_type (wpAny_newFunctionEnv c.nocell (by intro y hy;simp at hy) (fun h₁ hns₁ hsb₁=>?_) c.kind)
 dsimp only at hns₁ hsb₁ ⊢
 generalize hH2:s₂.heap.push { cls:=.type "list",dict:=none,data:=.seq ([]:List Value).toArray }=H2 at hns₁ hsb₁ ⊢
 have hCs:H2.objs.size=s₂.heap.objs.size+1:=by rw[<-hH2,Heap.size_push]
 generalize hCC:H2.objs.size=C at hns₁ hsb₁ hCs ⊢
 generalize hDD:s₂.heap.objs.size=Dd at hCs ⊢
 obtain⟨⟨hDC,hC,hD⟩,below⟩:=sb2 hCs hDD
 have old:∀b o,s₂.heap.get? b=some o->h₁.get? b=some o:=fun b o e=>by
  refine hsb₁.extBut b o (below b (Heap.lt_size e)).1 ?_
  exact Heap.get?_push_of_some _ (hH2 ▸ Heap.get?_push_of_some _ e)
 have hacc:h₁.get? Dd=some { cls:=.type "list",dict:=none,data:=.seq ([]:List Value).toArray }:=by
  refine hsb₁.extBut _ _ hDC ?_
  refine Heap.get?_push_of_some _ ?_
  rw[<-hH2,<-hDD]
  exact Heap.get?_push_size _ rfl
 have J0:∀tk,Inv (z1p X y scope C s₂ H₂ fp (X.pn++pins)) [(Dd,{ cls:=.type "list",dict:=none,data:=.seq ([]:List Value).toArray })] (none::σ) H₂ { s₂ with heap:=h₁,toks:=tk }:=fun tk =>
  y5j I c hC hD hDC hf ho old hns₁ hacc (fun v z=>nomatch z)
 have t1:tn 0 h₁:=T.keep _ _ _ t0 fun b hb o e=>old b o e
 have fpY:∀{H':Hp} {o:Obj},(∀b∈fp,H' b=none)->∀b∈fp,FpOk (z1p X y scope C s₂ H₂ fp (X.pn++pins)) [(Dd,o)] H' b:=fun {H' o} hn b hb=>by
  obtain⟨f0,f1,f2,f3,f4,f5⟩:=hf b hb
  have lt:=ho b hb
  refine⟨hn b hb,(below b lt).1,fun z=>?_,.inl hb,fun x k e=>?_,fun p hp'=>?_⟩
  ·rcases List.mem_cons.mp (I.stkSub b z) with q | q
   ·exact f1 q
   ·exact f2 q
  ·rcases z2k scope.names [] (PySem.mem_of_lookup e) with q | q
   ·simp at q
   ·exact f4 x k q
  ·rcases List.mem_append.mp hp' with q | q
   ·exact f5 p q
   ·have e:p=(Dd,o):=by simpa using q
    subst e
    exact Ne.symm (below b lt).2
 have NdY:(z1p X y scope C s₂ H₂ fp (X.pn++pins)).N.Nodup:=by
  show(y::X.N.map (fun z=>if z=y then ("":Str) else z)).Nodup
  refine List.nodup_cons.mpr ⟨fun z=>?_,?_⟩
  ·obtain⟨z',hz,e⟩:=List.mem_map.mp z
   by_cases q:z'=y
   ·rw[if_pos q] at e
    subst e
    have:=c.loc;rw[c.nil] at this;cases this
   ·rw[if_neg q] at e;exact q e
  ·have inj:∀a∈X.N,∀b∈X.N,(if a=y then ("":Str) else a)=(if b=y then ("":Str) else b)->a=b:=fun a ha b hb e=>by
    by_cases qa:a=y
    ·by_cases qb:b=y
     ·rw[qa,qb]
     ·rw[if_pos qa,if_neg qb] at e;exact absurd e.symm (c.none b hb)
    ·by_cases qb:b=y
     ·rw[if_neg qa,if_pos qb] at e;exact absurd e (c.none a ha)
     ·rw[if_neg qa,if_neg qb] at e;exact e
   have gen:∀l:List Str,(∀a∈l,a∈X.N)->l.Nodup->(l.map (fun z=>if z=y then ("":Str) else z)).Nodup:=by
    intro l
    induction l with
    | nil=>intro _ _;exact List.nodup_nil
    | cons a l ih =>
      intro hs nd
      obtain⟨n1,n2⟩:=List.nodup_cons.mp nd
      rw[List.map_cons]
      refine List.nodup_cons.mpr ⟨fun z=>?_,ih (fun b hb=>hs b (List.mem_cons_of_mem _ hb)) n2⟩
      obtain⟨b,hb,e⟩:=List.mem_map.mp z
      exact n1 (inj b (hs b (List.mem_cons_of_mem _ hb)) a (hs a List.mem_cons_self) e ▸ hb)
   exact gen X.N (fun _ h=>h) hN
 let L:Nat->Shared->Prop:=fun n s'=>∃(i:Nat) (H':Hp) (o:Option V) (xs:List V) (its:List Value) (acc:List D) (k:Nat),n=items.length-i/\i<=items.length/\Inv (z1p X y scope C s₂ H₂ fp (X.pn++pins)) [(Dd,{ cls:=.type "list",dict:=none,data:=.seq its.toArray k })] (o::σ) H' s' /\
  Same H₂ H'/\(∀b∈fp,H' b=none)/\tn i s'.heap/\Vals xs its/\acc.length<=i/\IsAll X.K (hid F H') acc xs/\z0p (fun d=>f d Γ) (items.drop i) acc = .ok total
 have loop:∀s₄:Shared,L items.length s₄->codeAny (model X.prog X.w) X.A (.compLoop (.ListComp elt [⟨.Name y px,iter,ifs,0⟩] scope pos) 0 (.ref it) (.ref Dd) (compEnvC scope (capt X.env scope.names []) C X.env)) (RR (.ref Dd) C) s₄:=fun s₄ h4=>by
  refine codeAny_compLoop_tests L (fun n s' hL=>wpAny_mono (E:=fun _ _=>False) ?_ (fun _ _ q=>q) fun _ _ z=>z.elim) items.length h4
  obtain⟨i,H',o,xs,its,acc,k,en,hi,J',S',fr',tn',rv,hal,ia,eg⟩:=hL
  obtain⟨jgo,jstop⟩:=hj H' S'
  have hpD:=J'.pin (Dd,{ cls:=.type "list",dict:=none,data:=.seq its.toArray k }) (List.mem_append_right _ (by simp))
  have hxl:xs.length<=100000:=by rw[<-ia.length];exact Nat.le_trans hal (Nat.le_trans hi hl)
  have hsl:(100000:Nat)<=sizeLine:=by rw[sizeLine_eq];decide
  by_cases hlt:i<items.length
  ·obtain⟨go,yl⟩:=jgo i hlt
   refine thn (T.item (z1p X y scope C s₂ H₂ fp (X.pn++pins)) rfl rfl rfl hcalm i _ s' _ H' (fun _ _=>False) J' (fpY fr') tn' go) fun r s2 ⟨u,hr,h1⟩=>?_
   subst hr
   refine y0z (a:=()) h1 fun⟨x,H5,J5,r5,y5,st5,fr5⟩=>?_
   obtain⟨e5,d,ed,iv⟩:=yl x H5 y5
   subst e5
   have J5':=J5.pinned (fpY fr5) (T.obj _ _ st5)
   have hdrop:items.drop i=d::items.drop (i+1):=by
    rw[List.drop_eq_getElem_cons hlt]
    have:items[i]=d:=by
     have:=List.getElem?_eq_getElem hlt
     rw[ed] at this;exact(Option.some.inj this).symm
    rw[this]
   rw[hdrop] at eg
   have hfo:∃od,f d Γ = .ok od/\(match od with | some e=>z0p (fun d=>f d Γ) (items.drop (i+1)) (acc++[e]) | none=>z0p (fun d=>f d Γ) (items.drop (i+1)) acc) = .ok total:=by
    unfold z0p at eg
    cases q:f d Γ with
    | no=>simp only[q] at eg;cases eg
    | er c'=>simp only[q] at eg;cases eg
    | ok od =>
      refine⟨od,rfl,?_⟩
      cases od with
      | none=>simp only[q] at eg;exact eg
      | some e=>simp only[q] at eg;exact eg
   obtain⟨od,eod,etot⟩:=hfo
   have hpg:PG (z1p X y scope C s₂ H₂ fp (X.pn++pins)).nox (.Name y px) (y1q 0):=z5t (X:=(z1p X y scope C s₂ H₂ fp (X.pn++pins)).nox) NdY rfl (.inl (lookup_relabel_local c.loc)) (.inr (lookup_relabel_local c.loc))
   refine wpAny_mono (hpg _ s2 (o::σ) H5 x u (fun σ' H'=>σ'=some x::σ/\H'=H5) (J5'.wish _) r5 ⟨rfl,rfl⟩) (fun _ s3 ⟨σ6,H6,J6,e6,e6'⟩=>?_) fun _ _ z=>z.elim
   subst e6 e6'
   have J6':=J6.unwish
   have fo6:=fo.same S'
   refine wpAny_mono (hp.run C s₂ H₂ fp (X.pn++pins) _ s3 _ H6 F Γ d J6' fo6 (z7k (rl.same S') iv) ⟨od,eod⟩) (fun ok s4 h4=>?_) fun _ _ z=>z.elim
   have back:∀{s5:Shared} {H7:Hp} {σ7:St},Inv (z1p X y scope C s₂ H₂ fp (X.pn++pins)) ([(Dd,{ cls:=.type "list",dict:=none,data:=.seq its.toArray k })]++z7b fp s2.heap) σ7 H7 s5->tn (i+1) s5.heap/\(∀b∈fp,H7 b=none):=fun {s5 H7 σ7} J7=>by
    refine⟨T.keep _ _ _ st5 fun b hb o' e=>(J7.pin (b,o') (List.mem_append_right _ (List.mem_append_right _ (z2a hb e)))).1,fun b hb=>?_⟩
    obtain⟨o',e,dd⟩:=T.obj _ _ st5 b hb
    exact(J7.pin (b,o') (List.mem_append_right _ (List.mem_append_right _ (z2a hb e)))).2.1
   cases ok with
   | false =>
     rw[if_neg Bool.false_ne_true] at h4 ⊢
     obtain⟨ef,H7,J7,S7⟩:=h4
     rw[eod] at ef;cases ef
     obtain⟨tn7,fr7⟩:=back J7
     exact⟨items.length-(i+1),sb1 en hlt,i+1,H7,some x,xs,its,acc,k,rfl,hlt,J7.unpinned,S'.trans S7,fr7,tn7,rv,Nat.le_succ_of_le hal,ia.same (z1i S7),etot⟩
   | true =>
     rw[if_pos rfl] at h4 ⊢
     refine wpAny_mono h4 (fun u7 s5 ⟨e,v7,H7,ef,J7,r7,S7,iv7⟩=>?_) fun _ _ z=>z.elim
     rw[eod] at ef;cases ef
     obtain⟨tn7,fr7⟩:=back J7
     have J8:=J7.unpinned
     have hpD7:=J8.pin (Dd,{ cls:=.type "list",dict:=none,data:=.seq its.toArray k }) (List.mem_append_right _ (by simp))
     have hlen:its.length=acc.length:=by rw[<-rv.length,<-ia.length]
     refine wpAny_list_append_plain (l:=Dd) (items:=its.toArray) (x:=u7) ⟨k,hpD7.1⟩ (fun h' hl' hs'=>?_) (by rw[List.size_toArray,<-rv.length];exact Nat.le_trans hxl hsl)
     obtain⟨k',hk'⟩:=hl'
     have epush:its.toArray.push u7=(its++[u7]).toArray:=by simp
     rw[epush] at hk'
     have J9:Inv (z1p X y scope C s₂ H₂ fp (X.pn++pins)) [] (some x::σ) H7 s5:=J8.pins_of fun p hp'=>by simp at hp'
     have J10:Inv (z1p X y scope C s₂ H₂ fp (X.pn++pins)) [] (some x::σ) H7 { s5 with heap:=h' }:=J9.turned (t':=s5.toks) (it:=Dd) (fun b o' hb e'=>(hs'.2 b hb).trans e') hpD7.2.1 hDC (.inr hD) (fun x' k'' e' z=>by
      rcases z2k scope.names [] (PySem.mem_of_lookup e') with q | q
      ·simp at q
      ·obtain⟨v',o',ho',_⟩:=I.cell x' k'' q
       exact(below k'' (Heap.lt_size ho')).2 z) (fun p hp' z=>by
      rcases List.mem_append.mp hp' with q | q
      ·obtain⟨h1',_⟩:=I.pin p q
       exact(below p.1 (Heap.lt_size h1')).2 z
      ·simp at q)
     have J11:Inv (z1p X y scope C s₂ H₂ fp (X.pn++pins)) [(Dd,{ cls:=.type "list",dict:=none,data:=.seq (its++[u7]).toArray k' })] (some x::σ) H7 { s5 with heap:=h' }:=J10.pins_of fun p hp'=>by
      have e':p=(Dd,{ cls:=.type "list",dict:=none,data:=.seq (its++[u7]).toArray k' }):=by simpa using hp'
      subst e'
      exact⟨hk',hpD7.2.1,hDC,hpD7.2.2.2.1,fun v z=>nomatch z⟩
     refine⟨items.length-(i+1),sb1 en hlt,i+1,H7,some x,xs++[v7],its++[u7],acc++[e],k',rfl,hlt,J11,S'.trans S7,fr7,T.keep _ _ _ tn7 fun b hb o' e'=>(hs'.2 b (below b (ho b hb)).2).trans e',rv.append (.cons r7 .nil),by rw[List.length_append,List.length_singleton];exact Nat.succ_le_succ hal,(ia.same (z1i S7)).append (IsAll.cons iv7 IsAll.nil),etot⟩
  ·have hi':i=items.length:=Nat.le_antisymm hi (Nat.le_of_not_lt hlt)
   subst hi'
   refine thn (T.done (z1p X y scope C s₂ H₂ fp (X.pn++pins)) rfl rfl rfl hcalm _ _ s' _ H' (fun _ _=>False) J' (fpY fr') tn' jstop) fun r s1 ⟨hr,J1⟩=>?_
   subst hr
   have hpD1:=J1.pin (Dd,{ cls:=.type "list",dict:=none,data:=.seq its.toArray k }) (List.mem_append_right _ (by simp))
   rw[List.drop_length] at eg
   have:acc=total:=by unfold z0p at eg;cases eg;rfl
   subst this
   obtain⟨mC,hnC,_⟩:=J1.loc
   exact hR Dd C xs H' mC s1 hC hDC (I.hok.fresh hD) hpD1.2.1 J1.free hD S' ia (y8e I J1 hD hpD1.2.1 hpD1.1 rv (Nat.le_trans hxl hsl) hf) hnC
 have L0:∀tk,L items.length { s₂ with heap:=h₁,toks:=tk }:=fun tk=>⟨0,H₂,none,[],[],[],_,rfl,Nat.zero_le _,J0 tk,.refl _,fun b hb=>(hf b hb).1,t1,.nil,Nat.le_refl _,IsAll.nil,by rw[List.drop_zero];exact ht⟩
 exact codeAny_compStart_list (loop _ (L0 _)) (T.self _ 0 _ _ _ t1 (loop _ (L0 _)))
theorem z4q{elt iter:Expr}{px pos:Pos}{ifs:List Expr}{f:D->G->R (Option D)}{gi:G->R (List D)}(hi:PIC X (.Name y px) iter gi)(hp:PC1 X y scope ifs elt f)(hN:X.N.Nodup)(hcalm:X.calm=true)
 (chk:y0k X.N X.env y scope=true:=by rfl) (hclos:closureFor scope X.env=pure (capt X.env scope.names []):=by rfl) (hs:∀x,foldedSetIterable iter X.env x=pure x:=by intro _;rfl) :
 PF X (.ListComp elt [⟨.Name y px,iter,ifs,0⟩] scope pos) (z2j gi f):=by
 refine⟨fun pins s σ H F Γ I fo rl hg=>?_⟩
 have c:=y1x chk
 rw[eval_ListComp]
 refine wpAny_comprehension_free (use:=none) rfl hs hclos c.kind c.names (wpAny_mono (hi.run pins s σ H F Γ I fo rl (R.left hg)) (fun xv s₁ h₁=>wpAny_mono h₁ (fun itv s₂ h₂=>?_) fun _ _ x=>x.bind _) fun _ _ x=>x.bind _)
 obtain⟨items,it,fp,tn,J,H₂,e1,rfl,I2,S2,T,t0,fk,jc⟩:=h₂
 have hgx:=R.next hg e1
 obtain⟨hl,e2⟩:=R.guard_ne hgx
 have hne:z0p (fun d=>f d Γ) items [] ≠ .no:=by
  have:=R.next hg e1
  rw[e2] at this;exact this
 obtain⟨total,et⟩:=z3y hne
 refine y1w (RR:=fun acc C=>compPost (model X.prog X.w) X.A _ none _ acc C) hp c hN hcalm I2 (fo.same S2) (rl.same S2) T t0 fk jc et hl ?_
 intro Dd C xs H' m s' hC hDC hn hn' hnC hD S' ia I' hnsC
 refine⟨m,hnsC,fun h'' hs''=>?_⟩
 have nlt:∀{b:Addr} {o:Obj},s₂.heap.get? b=some o->b≠C:=fun e=>Nat.ne_of_lt (Nat.lt_of_lt_of_le (Heap.lt_size e) hC)
 have I'':Inv X pins σ (upd H' Dd (.lst xs)) { s' with heap:=h'' }:=I'.turned (t':=s'.toks) (it:=C) (fun b o hb e=>hs''.extBut b o hb e) (by rw[z0l (Ne.symm hDC)];exact hnC) (Nat.ne_of_gt (Nat.lt_of_lt_of_le I2.lt hC)) (.inr (Nat.le_trans I2.sz hC))
  (fun x k e=>by obtain⟨v,o,ho,_⟩:=I2.cell x k e;exact nlt ho) (fun p hp'=>nlt (I2.pin p hp').1)
 have S3:=z1e hn' (.lst xs)
 refine⟨total,Dd,xs,_,(R.step e1 _).trans (e2.trans et),I'',rfl,(S2.trans S').trans S3,S2.free hn,z0n,ia.same fun b o hb=>?_⟩
 obtain⟨z1,z2⟩:=z2f hb
 have hbl:b≠Dd:=z0k z2 hn'
 rw[z1o fun z=>(List.mem_cons.mp z).elim hbl z1,z0l hbl]
 exact z2
end
noncomputable def NxP(X:Cx)(pins:List (Addr×Obj))(H:Hp)(F:List Addr)(Γ:G)(s':Shared):Prop:=∃σ' H' F',Inv X pins σ' H' s'/\FOk H' F'/\Rel X.K H' F' Γ σ'/\Ext H F H' F'
noncomputable def RtP(X:Cx)(pins:List (Addr×Obj))(H:Hp)(F:List Addr)(r:R Fl)(u:Value)(s':Shared):Prop:=∃v σ' H' F',Inv X pins σ' H' s'/\RelV v u/\Ext H F H' F' /\
 ((∃d,r = .ok (.rt d)/\Is X.K H' d v)∨∃ds a xs,r = .ok (.rtF ds)/\v = .ref a/\(a∈F∨H a=none)/\H' a=some (.lst xs)/\IsAll X.K H' ds xs)
theorem RtP.map{X:Cx}{pins pins':List (Addr×Obj)}{H H1:Hp}{F F1:List Addr}{r r':R Fl}{u:Value}{s':Shared}(h:RtP X pins H1 F1 r u s')(E:Ext H F H1 F1)(hI:∀σ' H',Inv X pins σ' H' s'->Inv X pins' σ' H' s')
 (h1:∀d,r = .ok (.rt d)->r' = .ok (.rt d)) (h2:∀ds,r = .ok (.rtF ds)->r' = .ok (.rtF ds)):RtP X pins' H F r' u s':=by
 obtain⟨v,σ',H',F',I,rv,E',q⟩:=h
 refine⟨v,σ',H',F',hI _ _ I,rv,E.trans E',?_⟩
 rcases q with ⟨d,e,i⟩ | ⟨ds,a,xs,e,ev,hn,ha,i⟩
 ·exact .inl ⟨d,h1 d e,i⟩
 ·refine .inr ⟨ds,a,xs,h2 ds e,ev,?_,ha,i⟩
  rcases hn with z | z
  ·exact E.old a z
  ·by_cases c:a∈F
   ·exact .inl c
   ·refine .inr ?_
    cases q:H a with
    | none=>rfl
    | some o=>rw[E.keep a o c q] at z;cases z
noncomputable def FlP(X:Cx)(pins:List (Addr×Obj))(H:Hp)(F:List Addr)(r:R Fl)(fl:Flow)(s':Shared):Prop:=match fl with
 | .next=>∃Γ',r = .ok (.nx Γ')/\NxP X pins H F Γ' s'
 | .brk=>∃Γ',r = .ok (.bk Γ')/\NxP X pins H F Γ' s'
 | .cont=>∃Γ',r = .ok (.ct Γ')/\NxP X pins H F Γ' s'
 | .ret u=>RtP X pins H F r u s'
noncomputable def FlX(X:Cx)(pins:List (Addr×Obj))(H:Hp)(F:List Addr)(r:R Fl)(x:Value)(s':Shared):Prop:=∃c Γ' σ' H' F',r = .ok (.ex c Γ')/\y2h X pins σ' H' c x s'/\FOk H' F'/\Rel X.K H' F' Γ' σ'/\Ext H F H' F'
structure PQ (X:Cx) (st:Stmt) (g:G->R Fl):Prop where
 run:∀(pins:List (Addr×Obj)) (s:Shared) (σ:St) (H:Hp) (F:List Addr) (Γ:G),Inv X pins σ H s->FOk H F->Rel X.K H F Γ σ->g Γ ≠ .no ->
  wpAny (model X.prog X.w) X.A (exec st X.env) (FlP X pins H F (g Γ)) (FlX X pins H F (g Γ)) s
structure PQs (X:Cx) (st:List Stmt) (g:G->R Fl):Prop where
 run:∀(pins:List (Addr×Obj)) (s:Shared) (σ:St) (H:Hp) (F:List Addr) (Γ:G),Inv X pins σ H s->FOk H F->Rel X.K H F Γ σ->g Γ ≠ .no ->
  wpAny (model X.prog X.w) X.A (execs st X.env) (FlP X pins H F (g Γ)) (FlX X pins H F (g Γ)) s
theorem FlP.later{X:Cx}{pins:List (Addr×Obj)}{H H1:Hp}{F F1:List Addr}{r:R Fl}{fl:Flow}{s':Shared}(E:Ext H F H1 F1)(h:FlP X pins H1 F1 r fl s'):FlP X pins H F r fl s':=by
 cases fl with
 | next=>obtain⟨Γ',e,σ',H',F',h1,h2,h3,h4⟩:=h;exact⟨Γ',e,σ',H',F',h1,h2,h3,E.trans h4⟩
 | brk=>obtain⟨Γ',e,σ',H',F',h1,h2,h3,h4⟩:=h;exact⟨Γ',e,σ',H',F',h1,h2,h3,E.trans h4⟩
 | cont=>obtain⟨Γ',e,σ',H',F',h1,h2,h3,h4⟩:=h;exact⟨Γ',e,σ',H',F',h1,h2,h3,E.trans h4⟩
 | ret u=>exact RtP.map h E (fun _ _ I=>I) (fun _ e=>e) fun _ e=>e
theorem FlX.later{X:Cx}{pins:List (Addr×Obj)}{H H1:Hp}{F F1:List Addr}{r:R Fl}{x:Value}{s':Shared}(E:Ext H F H1 F1)(h:FlX X pins H1 F1 r x s'):FlX X pins H F r x s':=by
 obtain⟨c,Γ',σ',H',F',e,h1,h2,h3,h4⟩:=h
 exact⟨c,Γ',σ',H',F',e,h1,h2,h3,E.trans h4⟩
theorem z1l.lift{α:Type}{X:Cx}{pins:List (Addr×Obj)}{σ:St}{H:Hp}{F:List Addr}{Γ:G}{r:R α}{x:Value}{s':Shared}(fo:FOk H F)(rl:Rel X.K H F Γ σ)(h:z1l X pins σ H r x s')(k:α->R Fl):FlX X pins H F (lift r Γ k) x s':=by
 obtain⟨c,H',e,S,fl⟩:=h
 exact⟨c,Γ,σ,H',F,by rw[e];rfl,fl,fo.same S,rl.same S,.of_same S⟩
theorem Rel.set_ro{K:PySem.W.Frag}{H:Hp}{F:List Addr}{Γ:G}{σ:St}{i:Nat}{d:D}{v:V}(r:Rel K H F Γ σ)(iv:Is K (hid F H) d v):Rel K H F (Γ.set i (.ro d)) (σ.set i (some v)) where
 len:=by rw[List.length_set,List.length_set,r.len]
 ro:=fun j d' h=>by
  by_cases e:i=j
  ·subst e
   by_cases hi:i<Γ.length
   ·rw[List.getElem?_set_self hi] at h;cases h
    exact⟨v,List.getElem?_set_self (by rw[<-r.len];exact hi),iv⟩
   ·rw[List.getElem?_eq_none (by rw[List.length_set];omega)] at h;cases h
  ·rw[List.getElem?_set_ne e] at h
   rw[List.getElem?_set_ne e]
   exact r.ro j d' h
 own:=fun j ds h=>by
  by_cases e:i=j
  ·subst e
   by_cases hi:i<Γ.length
   ·rw[List.getElem?_set_self hi] at h;cases h
   ·rw[List.getElem?_eq_none (by rw[List.length_set];omega)] at h;cases h
  ·rw[List.getElem?_set_ne e] at h
   rw[List.getElem?_set_ne e]
   exact r.own j ds h
 inj:=fun j k ds es a h1 h2 h3 h4=>by
  by_cases ej:i=j
  ·subst ej
   by_cases hi:i<Γ.length
   ·rw[List.getElem?_set_self hi] at h1;cases h1
   ·rw[List.getElem?_eq_none (by rw[List.length_set];omega)] at h1;cases h1
  ·by_cases ek:i=k
   ·subst ek
    by_cases hi:i<Γ.length
    ·rw[List.getElem?_set_self hi] at h2;cases h2
    ·rw[List.getElem?_eq_none (by rw[List.length_set];omega)] at h2;cases h2
   ·rw[List.getElem?_set_ne ej] at h1 h3
    rw[List.getElem?_set_ne ek] at h2 h4
    exact r.inj j k ds es a h1 h2 h3 h4
theorem Rel.set_own{K:PySem.W.Frag}{H H':Hp}{F:List Addr}{Γ:G}{σ:St}{i:Nat}{ds:List D}{xs:List V}{a:Addr}(r:Rel K H F Γ σ)(fo:FOk H F)(S:Same H H')(hn:H a=none)(ha:H' a=some (.lst xs))(iv:IsAll K (hid (a::F) H') ds xs):Rel K H' (a::F) (Γ.set i (.own ds)) (σ.set i (some (.ref a))) where
 len:=by rw[List.length_set,List.length_set,r.len]
 ro:=fun j d' h=>by
  by_cases e:i=j
  ·subst e
   by_cases hi:i<Γ.length
   ·rw[List.getElem?_set_self hi] at h;cases h
   ·rw[List.getElem?_eq_none (by rw[List.length_set];omega)] at h;cases h
  ·rw[List.getElem?_set_ne e] at h
   rw[List.getElem?_set_ne e]
   obtain⟨v,h1,h2⟩:=r.ro j d' h
   exact⟨v,h1,h2.same (y7l S hn)⟩
 own:=fun j ds' h=>by
  by_cases e:i=j
  ·subst e
   by_cases hi:i<Γ.length
   ·rw[List.getElem?_set_self hi] at h;cases h
    exact⟨a,xs,List.getElem?_set_self (by rw[<-r.len];exact hi),List.mem_cons_self,ha,iv⟩
   ·rw[List.getElem?_eq_none (by rw[List.length_set];omega)] at h;cases h
  ·rw[List.getElem?_set_ne e] at h
   rw[List.getElem?_set_ne e]
   obtain⟨b,ys,h1,h2,h3,h4⟩:=r.own j ds' h
   exact⟨b,ys,h1,List.mem_cons_of_mem _ h2,S _ _ h3,h4.same (y7l S hn)⟩
 inj:=fun j k ds' es b h1 h2 h3 h4=>by
  have nF:∀(l:Nat) (es':List D),i≠l->Γ[l]? = some (.own es')->σ[l]? ≠ some (some (.ref a)):=fun l es' _ h z=>by
   obtain⟨b',ys,q1,q2,q3,_⟩:=r.own l es' h
   rw[z] at q1;cases q1
   rw[hn] at q3;cases q3
  by_cases ej:i=j
  ·by_cases ek:i=k
   ·rw[<-ej,<-ek]
   ·exfalso
    subst ej
    have hi:i<σ.length:=by
     by_cases hi:i<σ.length
     ·exact hi
     ·rw[List.getElem?_eq_none (by rw[List.length_set];omega)] at h3;cases h3
    rw[List.getElem?_set_self hi] at h3;cases h3
    rw[List.getElem?_set_ne ek] at h2 h4
    exact nF k es ek h2 h4
  ·by_cases ek:i=k
   ·exfalso
    subst ek
    have hi:i<σ.length:=by
     by_cases hi:i<σ.length
     ·exact hi
     ·rw[List.getElem?_eq_none (by rw[List.length_set];omega)] at h4;cases h4
    rw[List.getElem?_set_self hi] at h4;cases h4
    rw[List.getElem?_set_ne ej] at h1 h3
    exact nF j ds' ej h1 h3
   ·rw[List.getElem?_set_ne ej] at h1 h3
    rw[List.getElem?_set_ne ek] at h2 h4
    exact r.inj j k ds' es b h1 h2 h3 h4
theorem Rel.put{K:PySem.W.Frag}{H:Hp}{F:List Addr}{Γ:G}{σ:St}{i:Nat}{ds ds':List D}{xs':List V}{a:Addr}(r:Rel K H F Γ σ)(e:Γ[i]? = some (.own ds))(ea:σ[i]? = some (some (.ref a)))(iv:IsAll K (hid F H) ds' xs'):Rel K (upd H a (.lst xs')) F (Γ.set i (.own ds')) σ/\a∈F:=by
 obtain⟨a',xs,h1,hF,h3,h4⟩:=r.own i ds e
 rw[ea] at h1;cases h1
 have hh:hid F (upd H a (.lst xs'))=hid F H:=by
  funext b
  by_cases hb:b∈F
  ·rw[y4e hb,y4e hb]
  ·rw[z1o hb,z1o hb,z0l (fun z=>hb (by rw[z];exact hF))]
 have hi:i<Γ.length:=(List.getElem?_eq_some_iff.mp e).1
 refine⟨⟨by rw[List.length_set,r.len],fun j d' h=>?_,fun j es h=>?_,fun j k es1 es2 b h1 h2 h3' h4'=>?_⟩,hF⟩
 ·by_cases ej:i=j
  ·subst ej;rw[List.getElem?_set_self hi] at h;cases h
  ·rw[List.getElem?_set_ne ej] at h
   rw[hh];exact r.ro j d' h
 ·by_cases ej:i=j
  ·subst ej;rw[List.getElem?_set_self hi] at h;cases h
   exact⟨a,xs',ea,hF,z0n,by rw[hh];exact iv⟩
  ·rw[List.getElem?_set_ne ej] at h
   obtain⟨b,ys,q1,q2,q3,q4⟩:=r.own j es h
   refine⟨b,ys,q1,q2,?_,by rw[hh];exact q4⟩
   rw[z0l (fun z=>ej (r.inj i j ds es a e h ea (by rw[<-z];exact q1)))];exact q3
 ·have old:∀(l:Nat) (es':List D),(Γ.set i (En.own ds'))[l]? = some (En.own es')->∃es0,Γ[l]? = some (En.own es0):=fun l es' h=>by
   by_cases el:i=l
   ·subst el;exact⟨ds,e⟩
   ·rw[List.getElem?_set_ne el] at h;exact⟨es',h⟩
  obtain⟨e1,q1⟩:=old j es1 h1
  obtain⟨e2,q2⟩:=old k es2 h2
  exact r.inj j k e1 e2 b q1 q2 h3' h4'
theorem Rel.frz{K:PySem.W.Frag}{H:Hp}{F:List Addr}{Γ:G}{σ:St}(r:Rel K H F Γ σ)(fo:FOk H F)(i:Nat):∃F',FOk H F'/\(∀b,b∈F'->b∈F)/\Rel K H F' (L3.frz i Γ) σ:=by
 unfold L3.frz
 split
 ·rename_i ds e
  obtain⟨a,xs,h1,hF,h3,h4⟩:=r.own i ds e
  have hi:i<Γ.length:=(List.getElem?_eq_some_iff.mp e).1
  have sub:∀b,b∈F.filter (fun b=>b != a)->b∈F:=fun b hb=>(List.mem_filter.mp hb).1
  have up:Same (hid F H) (hid (F.filter (fun b=>b != a)) H):=fun b o hb=>by
   obtain⟨z1,z2⟩:=z2f hb
   rw[z1o fun z=>z1 (sub b z)];exact z2
  have na:a ∉ F.filter (fun b=>b != a):=fun z=>by simpa using (List.mem_filter.mp z).2
  refine⟨F.filter (fun b=>b != a),fun b hb=>fo b (sub b hb),sub,⟨by rw[List.length_set,r.len],fun j d' h=>?_,fun j es h=>?_,fun j k es1 es2 b q1 q2 q3 q4=>?_⟩⟩
  ·by_cases ej:i=j
   ·subst ej;rw[List.getElem?_set_self hi] at h;cases h
    exact⟨.ref a,h1,Is.lst_iff.mpr ⟨a,xs,rfl,SqL.of (by rw[z1o na];exact h3),h4.same up⟩⟩
   ·rw[List.getElem?_set_ne ej] at h
    obtain⟨v,q1,q2⟩:=r.ro j d' h
    exact⟨v,q1,q2.same up⟩
  ·by_cases ej:i=j
   ·subst ej;rw[List.getElem?_set_self hi] at h;cases h
   ·rw[List.getElem?_set_ne ej] at h
    obtain⟨b,ys,q1,q2,q3,q4⟩:=r.own j es h
    refine⟨b,ys,q1,List.mem_filter.mpr ⟨q2,?_⟩,q3,q4.same up⟩
    have:b≠a:=fun z=>ej (r.inj i j ds es a e h h1 (z ▸ q1))
    simpa using this
  ·by_cases ej:i=j
   ·subst ej;rw[List.getElem?_set_self hi] at q1;cases q1
   ·by_cases ek:i=k
    ·subst ek;rw[List.getElem?_set_self hi] at q2;cases q2
    ·rw[List.getElem?_set_ne ej] at q1
     rw[List.getElem?_set_ne ek] at q2
     exact r.inj j k es1 es2 b q1 q2 q3 q4
 ·exact⟨F,fo,fun _ h=>h,r⟩
section
variable {X:Cx}{st:Stmt}{rest:List Stmt}{t u:G->R Fl}{e a b c:Expr}{g ga gb:G->R D}{pos p pos':Pos}
theorem PQ.frz{st:Stmt}{g:G->R Fl}(i:Nat)(h:PQ X st g):PQ X st (fun Γ=>g (L3.frz i Γ)):=by
 refine⟨fun pins s σ H F Γ I fo rl hg=>?_⟩
 obtain⟨F',fo',sub,rl'⟩:=rl.frz fo i
 have E:Ext H F H F':=⟨fun _ _ _ h=>h,fun b hb=>.inl (sub b hb)⟩
 exact wpAny_mono (h.run pins s σ H F' _ I fo' rl' hg) (fun _ _ q=>q.later E) fun _ _ q=>q.later E
theorem z2l:PQs X [] z2u:=⟨fun pins s σ H F Γ I fo rl _=>wpAny_execs_nil ⟨Γ,rfl,σ,H,F,I,fo,rl,.refl⟩⟩
theorem z0d(h1:PQ X st t)(h2:PQs X rest u):PQs X (st::rest) (gSt t u):=by
 refine⟨fun pins s σ H F Γ I fo rl hg=>?_⟩
 refine wpAny_execs_cons (wpAny_mono (h1.run pins s σ H F Γ I fo rl (R.left hg)) (fun fl s1 q=>?_) fun x s1 q=>?_)
 ·cases fl with
  | next =>
    obtain⟨Γ',e,σ',H',F',I',fo',rl',E⟩:=q
    have e2:gSt t u Γ=u Γ':=R.step e _
    rw[e2] at hg ⊢
    exact wpAny_mono (h2.run pins s1 σ' H' F' Γ' I' fo' rl' hg) (fun _ _ q=>q.later E) fun _ _ q=>q.later E
  | ret v=>exact RtP.map q .refl (fun _ _ I=>I) (fun _ e=>R.step e _) fun _ e=>R.step e _
  | brk=>obtain⟨Γ',e,r⟩:=q;exact⟨Γ',R.step e _,r⟩
  | cont=>obtain⟨Γ',e,r⟩:=q;exact⟨Γ',R.step e _,r⟩
 ·obtain⟨c,Γ',σ',H',F',e,r⟩:=q
  exact⟨c,Γ',σ',H',F',R.step e _,r⟩
theorem z0h(h1:PQ X st t):PQs X [st] t:=by
 refine⟨fun pins s σ H F Γ I fo rl hg=>?_⟩
 refine wpAny_execs_cons (thn (h1.run pins s σ H F Γ I fo rl hg) fun fl s1 q=>?_)
 cases fl with
 | next=>exact wpAny_execs_nil q
 | ret v=>exact q
 | brk=>exact q
 | cont=>exact q
theorem z1m(he:PD X e g):PQ X (.Return (some e) pos) (gRet g):=⟨fun pins s σ H F Γ I fo rl hg =>
 wpAny_Return_some (wpAny_mono (he.run pins s σ H F Γ I fo rl (z1q hg)) (fun u s1 ⟨d,v,H',e1,I',rv,S,i⟩=>⟨v,σ,H',F,I',rv,.of_same S,.inl ⟨d,z2r e1,i⟩⟩) fun _ _ x=>x.lift fo rl _)⟩
theorem y6h{g:G->R (List D)}(he:PF X e g):PQ X (.Return (some e) pos) (y0f g):=⟨fun pins s σ H F Γ I fo rl hg =>
 wpAny_Return_some (wpAny_mono (he.run pins s σ H F Γ I fo rl (z1q hg)) (fun u s1 ⟨ds,a,xs,H',e1,I',eu,S,hn,ha,i⟩=>⟨.ref a,σ,H',F,I',eu,.of_same S,.inr ⟨ds,a,xs,z2r e1,rfl,.inr hn,ha,i.same z1v⟩⟩) fun _ _ x=>x.lift fo rl _)⟩
theorem y6g(i:Nat){x:Str}{p:Pos}(hN:X.N[i]? = some x:=by rfl)(hv:Vis X.env.scope x:=by first | exact Or.inl rfl | exact Or.inr (Or.inl rfl) | exact Or.inr (Or.inr rfl))(hd:(x==("__debug__":Str))=false:=by decide)
 (hcd:(x==("__classdict__":Str))=false:=by decide):PQ X (.Return (some (.Name x p)) pos) (z8t i):=by
 refine⟨fun pins s σ H F Γ I fo rl hg=>?_⟩
 unfold z8t at hg ⊢
 cases q:Γ[i]? with
 | none=>rw[q] at hg;exact absurd rfl hg
 | some en =>
   cases en with
   | own ds =>
     obtain⟨a,xs,h1,h2,h3,h4⟩:=rl.own i ds q
     refine wpAny_Return_some (wpAny_mono (y1d (X:=X.nox) hN hv hd hcd pins s σ H (fun v' H'=>v' = .ref a/\H'=H) (I.wish _) ⟨.ref a,h1,rfl,rfl⟩) (fun u s1 ⟨v',H',I',r,e1,e2⟩=>?_) fun _ _ z=>False.elim z)
     subst e1 e2
     exact⟨.ref a,σ,H',F,I'.unwish,r,.refl,.inr ⟨ds,a,xs,rfl,rfl,.inl h2,h3,h4.same z1v⟩⟩
   | _=>rw[q] at hg;exact absurd rfl hg
theorem z5s{cs ds:List Stmt}{gc:G->R Bool}(hc:PTD X c gc)(ha:PQs X cs t)(hb:PQs X ds u):PQ X (.If c cs ds pos) (gIfS gc t u):=by
 refine⟨fun pins s σ H F Γ I fo rl hg=>?_⟩
 refine wpAny_If (wpAny_mono (hc.run pins s σ H F Γ I fo rl (z1q hg)) (fun k s1 ⟨H1,e1,I1,S1⟩=>?_) fun _ _ x=>x.lift fo rl _)
 have e2:gIfS gc t u Γ=if k=true then t Γ else u Γ:=z2r e1
 rw[e2] at hg ⊢
 cases k with
 | true=>exact wpAny_mono (ha.run pins s1 σ H1 F Γ I1 (fo.same S1) (rl.same S1) hg) (fun _ _ q=>q.later (.of_same S1)) fun _ _ q=>q.later (.of_same S1)
 | false=>exact wpAny_mono (hb.run pins s1 σ H1 F Γ I1 (fo.same S1) (rl.same S1) hg) (fun _ _ q=>q.later (.of_same S1)) fun _ _ q=>q.later (.of_same S1)
theorem z1k(i:Nat){x:Str}(he:PDr X e g)(hN:X.N.Nodup)(hi:X.N[i]? = some x:=by rfl)(hx:Loc X.env.scope x:=by first | exact Or.inl rfl | exact Or.inr rfl)(hs:swapsWith e (some (.Name x pos')) pos.line X.env=pure false:=by rfl)(hf:X.fn x=true∨X.env.scope.names.lookup x=some .local:=by first | exact .inl rfl | exact .inr rfl | assumption) :
 PQ X (.Assign [.Name x pos'] e pos) (gSet i g):=by
 refine⟨fun pins s σ H F Γ I fo rl hg=>?_⟩
 refine wpAny_Assign_Name (wpAny_mono (he.run pins s σ H F Γ I fo rl (z1q hg)) (fun v s1 ⟨d,y,H1,e1,I1,r1,S1,i1⟩=>?_) fun _ _ x=>x.lift fo rl _) hs
 exact z7j I1 hN hi hx r1 (fun s2 I2=>⟨_,z2r e1,_,H1,F,I2,fo.same S1,(rl.same S1).set_ro i1,.of_same S1⟩) hf
theorem z4p(i:Nat){x:Str}{g:G->R (List D)}(he:PF X e g)(hN:X.N.Nodup)(hi:X.N[i]? = some x:=by rfl)(hx:Loc X.env.scope x:=by first | exact Or.inl rfl | exact Or.inr rfl)(hs:swapsWith e (some (.Name x pos')) pos.line X.env=pure false:=by rfl)(hf:X.fn x=true∨X.env.scope.names.lookup x=some .local:=by first | exact .inl rfl | exact .inr rfl | assumption) :
 PQ X (.Assign [.Name x pos'] e pos) (z2i i g):=by
 refine⟨fun pins s σ H F Γ I fo rl hg=>?_⟩
 refine wpAny_Assign_Name (wpAny_mono (he.run pins s σ H F Γ I fo rl (z1q hg)) (fun v s1 ⟨ds,a,xs,H1,e1,I1,eu,S1,hn,ha,i1⟩=>?_) fun _ _ x=>x.lift fo rl _) hs
 subst eu
 exact z7j (v:=.ref a) I1 hN hi hx rfl (fun s2 I2=>⟨_,z2r e1,_,H1,a::F,I2,(fo.same S1).cons ha,rl.set_own fo S1 hn ha i1,⟨fun b o _ h=>S1 _ _ h,fun b hb=>(List.mem_cons.mp hb).elim (fun z=>.inr (z ▸ hn)) .inl⟩⟩) hf
theorem z2z(i:Nat){x y:Str}{elt iter:Expr}{px:Pos}{ifs:List Expr}{scope:Scope}{f:D->G->R (Option D)}{gi:G->R (List D)}(hi':PIC X (.Name y px) iter gi)(hp:PC1 X y scope ifs elt f)(hN:X.N.Nodup)(hcalm:X.calm=true)(hi:X.N[i]? = some x:=by rfl)(hx:Loc X.env.scope x:=by first | exact Or.inl rfl | exact Or.inr rfl)
 (hsw:swapsWith (.ListComp elt [⟨.Name y px,iter,ifs,0⟩] scope p) (some (.Name x pos')) pos.line X.env=pure true:=by rfl) (hf:X.fn x=true∨X.env.scope.names.lookup x=some .local:=by first | exact .inl rfl | exact .inr rfl | assumption)
 (chk:y0k X.N X.env y scope=true:=by rfl) (hclos:closureFor scope X.env=pure (capt X.env scope.names []):=by rfl) (hs:∀x,foldedSetIterable iter X.env x=pure x:=by intro _;rfl) :
 PQ X (.Assign [.Name x pos'] (.ListComp elt [⟨.Name y px,iter,ifs,0⟩] scope p) pos) (z2i i (z2j gi f)):=by
 refine⟨fun pins s σ H F Γ I fo rl hg=>?_⟩
 have c:=y1x chk
 rw[exec_Assign_Name_used _ _ _ _ hsw]
 refine wpAny_bind (wpAny_standAt (wpAny_bind ?_))
 show wpAny _ X.A (do let _ <-comprehension (.ListComp elt [⟨.Name y px,iter,ifs,0⟩] scope p) scope X.env _ (newList []) false (eval iter X.env) (some (assign (.Name x pos') X.env))) _ _ s
 have hg0:=z1q hg
 refine wpAny_bind (wpAny_mono (wpAny_comprehension_free (use:=some (assign (.Name x pos') X.env)) (Q:=fun _ s'=>FlP X pins H F (z2i i (z2j gi f) Γ) .next s') rfl hs hclos c.kind c.names
  (wpAny_mono (hi'.run pins s σ H F Γ I fo rl (R.left hg0)) (fun xv s₁ h₁=>wpAny_mono h₁ (fun itv s₂ h₂=>?_) fun _ _ x=>(x.bind _).lift fo rl _) fun _ _ x=>(x.bind _).lift fo rl _)) (fun _ s' hq=>wpAny_pure (wpAny_pure hq)) fun _ _ e=>e)
 obtain⟨items,it,fp,tn,J,H₂,e1,rfl,I2,S2,T,t0,fk,jc⟩:=h₂
 have hgx:=R.next hg0 e1
 obtain⟨hl,e2⟩:=R.guard_ne hgx
 have hne:z0p (fun d=>f d Γ) items [] ≠ .no:=by
  have:=R.next hg0 e1
  rw[e2] at this;exact this
 obtain⟨total,et⟩:=z3y hne
 have eT:z2j gi f Γ = .ok total:=(R.step e1 _).trans (e2.trans et)
 refine y1w (RR:=fun acc C=>compPost (model X.prog X.w) X.A _ (some (assign (.Name x pos') X.env)) _ acc C) hp c hN hcalm I2 (fo.same S2) (rl.same S2) T t0 fk jc et hl ?_
 intro Dd C xs H' m s' hC hDC hn hn' hnC hD S' ia I' hnsC
 have nlt:∀{b:Addr} {o:Obj},s₂.heap.get? b=some o->b≠C:=fun e=>Nat.ne_of_lt (Nat.lt_of_lt_of_le (Heap.lt_size e) hC)
 have S3:=z1e hn' (.lst xs)
 have hall:Same H (upd H' Dd (.lst xs)):=(S2.trans S').trans S3
 have hH:H Dd=none:=S2.free hn
 have ia':IsAll X.K (hid (Dd::F) (upd H' Dd (.lst xs))) total xs:=ia.same fun b o hb=>by
  obtain⟨z1,z2⟩:=z2f hb
  have hbl:b≠Dd:=z0k z2 hn'
  rw[z1o fun z=>(List.mem_cons.mp z).elim hbl z1,z0l hbl]
  exact z2
 show wpAny _ X.A (assign (.Name x pos') X.env (.ref Dd)) _ _ s'
 refine wpAny_assign_Name (z6d (v:=.ref Dd) I' hN hi hx rfl (fun s3 I3 hsb=>?_) hf)
 obtain⟨aa,hsb,haa⟩:=hsb
 have haC:aa≠C:=by
  rcases haa with z | z
  ·subst z;exact Nat.ne_of_lt (Nat.lt_of_lt_of_le I2.lt hC)
  ·obtain⟨v,o,ho,_⟩:=I2.cell x aa z;exact nlt ho
 refine⟨m,hnsC.sameBut hsb (Ne.symm haC),fun h'' hs''=>?_⟩
 have I4:Inv X pins (σ.set i (some (.ref Dd))) (upd H' Dd (.lst xs)) { s3 with heap:=h'' }:=I3.turned (t':=s3.toks) (it:=C) (fun b o hb e=>hs''.extBut b o hb e) (by rw[z0l (Ne.symm hDC)];exact hnC) (Nat.ne_of_gt (Nat.lt_of_lt_of_le I2.lt hC)) (.inr (Nat.le_trans I2.sz hC))
  (fun x k e=>by obtain⟨v,o,ho,_⟩:=I2.cell x k e;exact nlt ho) (fun p hp'=>nlt (I2.pin p hp').1)
 exact⟨_,z2r eT,_,_,Dd::F,I4,(fo.same hall).cons z0n,rl.set_own fo hall hH z0n ia',⟨fun b o _ h=>hall _ _ h,fun b hb=>(List.mem_cons.mp hb).elim (fun z=>.inr (z ▸ hH)) .inl⟩⟩
theorem y1b(i:Nat){x:Str}{apos cpos:Pos}(he:PDr X e g)(hN:X.N[i]? = some x:=by rfl)(hv:Vis X.env.scope x:=by first | exact Or.inl rfl | exact Or.inr (Or.inl rfl) | exact Or.inr (Or.inr rfl))(hd:(x==("__debug__":Str))=false:=by decide)(hcd:(x==("__classdict__":Str))=false:=by decide)
 (hsw:swapsWith (.Call (.Attribute (.Name x p) "append" apos) [e] [] cpos) none pos.line X.env=pure false:=by rfl)
 (hbase:attributeBase (.Name x p) "append" X.env (eval (.Name x p) X.env)=eval (.Name x p) X.env:=by rfl)
 (hfew:((backTo cpos (starEach [e] X.env)).all (fun x=>!x.1)&&(backToKw cpos (keywordEach [] X.env)).all (fun x=>x.1.isSome)
   && decide ([e].length+([]:List Keyword).length+(if ([]:List Keyword).isEmpty then 0 else 1)<30))=true:=by rfl)
 (hline:(apos.endLine==cpos.line)=true:=by rfl) (hs:starEach [e] X.env=(false,eval e X.env)::starEach [] X.env:=by rfl) :
 PQ X (.Expr (.Call (.Attribute (.Name x p) "append" apos) [e] [] cpos) pos) (gApp i g):=by
 refine⟨fun pins s σ H F Γ I fo rl hg=>?_⟩
 refine wpAny_Expr_any ?_ I.quiet hsw
 have hown:∃ds,Γ[i]? = some (.own ds):=by
  unfold gApp at hg
  split at hg
  ·rename_i ds e1;exact⟨ds,e1⟩
  ·exact absurd rfl hg
 obtain⟨ds,eo⟩:=hown
 have egA:gApp i g Γ=lift (g Γ) Γ fun d=>R.guard (ds.length<=100000) (.ok (.nx (Γ.set i (.own (ds++[d]))))):=by unfold gApp;rw[eo]
 rw[egA] at hg ⊢
 obtain⟨a',xs,h1,hF,h3,h4⟩:=rl.own i ds eo
 refine wpAny_Call_method_late hbase hfew hline rfl (wpAny_mono (y1d (X:=X.nox) hN hv hd hcd pins s σ H (fun v' H'=>v' = .ref a'/\H'=H) (I.wish _) ⟨.ref a',h1,rfl,rfl⟩) (fun v s1 ⟨v',H',I1,r1,e1,e2⟩=>?_) fun _ _ z=>False.elim z)
 subst e1 e2
 have I1':=I1.unwish
 obtain⟨t1,t2⟩:=x0d (T:="list") I1' r1 (.inl ⟨rfl,xs,SqL.of h3⟩)
 refine⟨"list",_,PySem.F.plainAttrs_list,PySem.F.slot_list_append,PySem.F.type_list_append,t1,t2,?_⟩
 rw[hs]
 refine Calls.callWith_builtin rfl (Calls.evalArgs_plain ?_)
 show wpAny _ _ (spliced ((false,eval e X.env)::backTo cpos [])) _ _ s1
 refine Calls.spliced_cons (wpAny_mono (he.run pins s1 σ H' F Γ I1' fo rl (z1q hg)) (fun u s2 ⟨d,y,H2,e3,I2,r2,S2,i2⟩=>Calls.spliced_nil ?_) fun _ _ x=>x.lift fo rl _)
 have hgx:=y1k hg e3
 obtain⟨hl,e4⟩:=R.guard_ne hgx
 have hx2:=S2 _ _ h3
 have hsl:(100001:Nat)<=sizeLine:=by rw[sizeLine_eq];decide
 have hxl:=h4.length
 refine wpAny_mono (y6w (X:=X.nox) pins s2 σ H2 (.ref a') [y] v [u] (fun z H''=>z = .non/\H''=upd H2 a' (.lst (xs++[y]))) (I2.wish _) r1 (.cons r2 .nil) ⟨a',xs,y,rfl,rfl,hx2,by omega,rfl,rfl⟩) (fun w' s3 ⟨z,H'',I3,rz,ez,eH⟩=>?_) fun _ _ z=>False.elim z
 subst ez eH
 obtain⟨rl',hF'⟩:=(rl.same S2).put eo h1 (xs':=xs++[y]) (ds':=ds++[d]) ((h4.same (z1i S2)).append (IsAll.cons i2 IsAll.nil))
 refine⟨_,(z2r e3).trans e4,σ,_,F,I3.unwish,fun b hb=>?_,rl',⟨fun b o hb h=>?_,fun b hb=>.inl hb⟩⟩
 ·by_cases hba:b=a'
  ·exact⟨xs++[y],by rw[hba];exact z0n⟩
  ·obtain⟨ys,q⟩:=fo b hb
   exact⟨ys,by rw[z0l hba];exact S2 _ _ q⟩
 ·rw[z0l (fun z=>hb (by rw[z];exact hF))];exact S2 _ _ h
noncomputable def PO'(X:Cx):Prop:=∀pins H F r,PassesOwn (model X.prog X.w) X.A X.env (FlX X pins H F r)
theorem z8z(i:Nat){x:Str}{px:Pos}{iter:Expr}{body:List Stmt}{gi:G->R (List D)}{gb:G->R Fl}(hp:PO' X)(hcalm:X.calm=true)(hi:PIF X (.Name x px) iter gi)(hb:PQs X body gb)(hN:X.N.Nodup)(hix:X.N[i]? = some x:=by rfl)(hx:Loc X.env.scope x:=by first | exact Or.inl rfl | exact Or.inr rfl)
 (hf:X.fn x=true∨X.env.scope.names.lookup x=some .local:=by first | exact .inl rfl | exact .inr rfl | assumption)
 (hs:∀x,foldedSetIterable iter X.env x=pure x:=by intro _;rfl):PQ X (.For (.Name x px) iter body [] pos) (gFor i gi gb):=by
 refine⟨fun pins s σ H F Γ I fo rl hg=>?_⟩
 refine wpAny_For (wpAny_mono (hi.run pins s σ H F Γ I fo rl (z1q hg)) (fun v s1 h1=>wpAny_mono h1 (fun itv s2 h2=>?_) fun _ _ x=>x.lift fo rl _) fun _ _ x=>x.lift fo rl _) hs
 obtain⟨ds,it,fp,tn,J,H2,e1,rfl,I2,S2,T,t0,fk,jd⟩:=h2
 have eg:gFor i gi gb Γ=z2m gb i ds Γ:=z2r e1
 rw[eg] at hg ⊢
 have hp':=hp pins H F (z2m gb i ds Γ)
 have stat:∀{H':Hp},(∀b∈fp,H' b=none)->∀b∈fp,FpOk X pins H' b:=fun hn b hb=>⟨hn b hb,(fk b hb).2⟩
 refine codeAny_forLoop_any (fun n s'=>∃(j:Nat) (σ':St) (H':Hp) (F':List Addr) (Γ':G),n=ds.length-j/\j<=ds.length/\Inv X pins σ' H' s'/\tn j s'.heap/\(∀b∈fp,H' b=none)/\FOk H' F'/\Rel X.K H' F' Γ' σ'/\Ext H2 F H' F'/\z2m gb i (ds.drop j) Γ'=z2m gb i ds Γ) ?_ ds.length
  ⟨0,σ,H2,F,Γ,by omega,Nat.zero_le _,I2,t0,fun b hb=>(fk b hb).1,fo.same S2,rl.same S2,.refl,by rw[List.drop_zero]⟩
 rintro n s3 ⟨j,σ3,H3,F3,Γ3,en,hj,I3,t3,fr3,fo3,rl3,E3,ev3⟩
 have E03:Ext H F H3 F3:=(Ext.of_same S2).trans E3
 obtain⟨jgo,jstop⟩:=jd H3 fun b o hb h=>E3.keep b o hb h
 by_cases hlt:j<ds.length
 ·obtain⟨go,yl⟩:=jgo j hlt
  refine wpAny_passesOwn hp' (thn (T.item X rfl rfl rfl hcalm j pins s3 σ3 H3 _ I3 (stat fr3) t3 go) fun r s4 ⟨u,hr,h4⟩=>?_)
  subst hr
  refine wpAny_passesOwn hp' (thn h4 fun _ s5 ⟨y,H5,I5,r5,y5,st5,fr5⟩=>?_)
  obtain⟨e5,d,ed,iv⟩:=yl y H5 y5
  subst e5
  have iv':=iv F3 fun b hb=>E3.old b hb
  have hdrop:ds.drop j=d::ds.drop (j+1):=by
   rw[List.drop_eq_getElem_cons hlt]
   have:ds[j]=d:=by
    have:=List.getElem?_eq_getElem hlt
    rw[ed] at this;exact(Option.some.inj this).symm
   rw[this]
  have I5':=I5.pinned (stat fr5) (T.obj _ _ st5)
  have hpg:PG X.nox (.Name x px) (y1q i):=z5t (X:=X.nox) hN hix hx hf
  refine wpAny_passesOwn hp' (wpAny_mono (hpg _ s5 σ3 H5 y u (fun σ' H'=>σ'=σ3.set i (some y)/\H'=H5) (I5'.wish _) r5 ⟨rfl,rfl⟩) (fun _ s6 ⟨σ6,H6,I6,e6,e6'⟩=>?_) fun _ _ z=>False.elim z)
  subst e6 e6'
  have evd:z2m gb i (d::ds.drop (j+1)) Γ3=z2m gb i ds Γ:=by rw[<-hdrop];exact ev3
  have hgb:gb (Γ3.set i (.ro d)) ≠ .no:=fun z=>by
   rw[<-evd] at hg
   unfold z2m at hg
   rw[z] at hg
   exact hg rfl
  have back:∀{s7:Shared} {σ7:St} {H7:Hp},Inv X (pins++z7b fp s5.heap) σ7 H7 s7->Inv X pins σ7 H7 s7/\tn (j+1) s7.heap/\∀b∈fp,H7 b=none:=fun {s7 σ7 H7} I7=>by
   refine⟨I7.unpinned,T.keep _ _ _ st5 fun b hb o e=>(I7.pin (b,o) (List.mem_append_right _ (List.mem_append_right _ (z2a hb e)))).1,fun b hb=>?_⟩
   obtain⟨o,e,dd⟩:=T.obj _ _ st5 b hb
   exact(I7.pin (b,o) (List.mem_append_right _ (List.mem_append_right _ (z2a hb e)))).2.1
  refine wpAny_passesOwn hp' (wpAny_mono (hb.run _ s6 _ H6 F3 _ I6.unwish fo3 (rl3.set_ro iv') hgb) (fun f s7 q7=>?_) fun x7 s7 q7=>?_)
  ·cases f with
   | next =>
     obtain⟨Γ7,e7,σ7,H7,F7,I7,fo7,rl7,E7⟩:=q7
     obtain⟨b1,b2,b3⟩:=back I7
     refine⟨ds.length-(j+1),by omega,j+1,σ7,H7,F7,Γ7,rfl,hlt,b1,b2,b3,fo7,rl7,E3.trans E7,?_⟩
     rw[<-evd]
     conv=>rhs;unfold z2m
     rw[e7]
   | cont =>
     obtain⟨Γ7,e7,σ7,H7,F7,I7,fo7,rl7,E7⟩:=q7
     obtain⟨b1,b2,b3⟩:=back I7
     refine⟨ds.length-(j+1),by omega,j+1,σ7,H7,F7,Γ7,rfl,hlt,b1,b2,b3,fo7,rl7,E3.trans E7,?_⟩
     rw[<-evd]
     conv=>rhs;unfold z2m
     rw[e7]
   | brk =>
     obtain⟨Γ7,e7,σ7,H7,F7,I7,fo7,rl7,E7⟩:=q7
     refine⟨Γ7,?_,σ7,H7,F7,I7.unpinned,fo7,rl7,E03.trans E7⟩
     rw[<-evd]
     conv=>lhs;unfold z2m
     rw[e7]
   | ret v7 =>
     refine RtP.map q7 E03 (fun _ _ I7=>I7.unpinned) (fun d7 e7=>?_) fun d7 e7=>?_
     ·rw[<-evd]
      conv=>lhs;unfold z2m
      rw[e7]
     ·rw[<-evd]
      conv=>lhs;unfold z2m
      rw[e7]
  ·obtain⟨c7,Γ7,σ7,H7,F7,e7,fl7,fo7,rl7,E7⟩:=q7
   refine⟨c7,Γ7,σ7,H7,F7,?_,?_,fo7,rl7,E03.trans E7⟩
   ·rw[<-evd]
    conv=>lhs;unfold z2m
    rw[e7]
   ·obtain⟨I7,e',C',oe,vs,q1,q2,q3,q4,q5,q6,q7',q8⟩:=fl7
    refine⟨I7.unpinned,e',C',oe,vs,q1,q2,q3,q4,q5,q6,fun p hp2=>q7' p ?_,?_⟩
    ·rcases List.mem_append.mp hp2 with z | z
     ·exact List.mem_append_left _ z
     ·exact List.mem_append_right _ (List.mem_append_left _ z)
    ·obtain⟨w1,w2,w3,w4,w5⟩:=q8
     refine⟨w1,w2,w3,w4,?_⟩
     rcases w5 with w5 | ⟨T',oT,ts,z1,z2,z3,z4,z5,z6,z7⟩
     ·exact .inl w5
     ·refine .inr ⟨T',oT,ts,z1,z2,z3,z4,z5,fun p hp2=>z6 p ?_,z7⟩
      rcases List.mem_append.mp hp2 with z | z
      ·exact List.mem_append_left _ z
      ·exact List.mem_append_right _ (List.mem_append_left _ z)
 ·have ej:j=ds.length:=by omega
  subst ej
  refine wpAny_passesOwn hp' (thn (T.done X rfl rfl rfl hcalm _ pins s3 σ3 H3 _ I3 (stat fr3) t3 jstop) fun r s4 ⟨hr,I4⟩=>?_)
  subst hr
  rw[List.drop_length] at ev3
  exact wpAny_execs_nil ⟨Γ3,ev3.symm,σ3,H3,F3,I4,fo3,rl3,E03⟩
theorem z9s(n:Nat){cnd:Expr}{body:List Stmt}{gc:G->R Bool}{gb:G->R Fl}(hp:PO' X)(hc:PTD X cnd gc)(hb:PQs X body gb):PQ X (.While cnd body [] pos) (whGo gc gb n):=by
 refine⟨fun pins s σ H F Γ I fo rl hg=>?_⟩
 have hp':=hp pins H F (whGo gc gb n Γ)
 refine wpAny_While (codeAny_whileLoop (fun m s'=>∃(σ':St) (H':Hp) (F':List Addr) (Γ':G),Inv X pins σ' H' s'/\FOk H' F'/\Rel X.K H' F' Γ' σ'/\Ext H F H' F'/\whGo gc gb m Γ'=whGo gc gb n Γ) ?_ n ⟨σ,H,F,Γ,I,fo,rl,.refl,rfl⟩)
 rintro m s1 ⟨σ1,H1,F1,Γ1,I1,fo1,rl1,E1,ev1⟩
 have hg1:whGo gc gb m Γ1 ≠ .no:=by rw[ev1];exact hg
 cases m with
 | zero=>exact absurd rfl hg1
 | succ m =>
   have evu:whGo gc gb (m+1) Γ1=lift (gc Γ1) Γ1 fun k=>if k=true then (match gb Γ1 with
    | .ok (.nx Γ')=>whGo gc gb m Γ'
    | .ok (.ct Γ')=>whGo gc gb m Γ'
    | .ok (.bk Γ')=>.ok (.nx Γ')
    | .ok (.rt d)=>.ok (.rt d)
    | .ok (.rtF d)=>.ok (.rtF d)
    | .ok (.ex c Γ')=>.ok (.ex c Γ')
    | _=>.no) else .ok (.nx Γ1):=rfl
   rw[evu] at hg1 ev1
   refine wpAny_passesOwn hp' (wpAny_mono (hc.run pins s1 σ1 H1 F1 Γ1 I1 fo1 rl1 (z1q hg1)) (fun k s2 ⟨H2,e2,I2,S2⟩=>?_) fun _ _ x=>by rw[<-ev1];exact(x.lift fo1 rl1 _).later E1)
   rw[z2r e2] at hg1 ev1
   cases k with
   | false =>
     rw[if_neg Bool.false_ne_true] at ev1 ⊢
     exact wpAny_execs_nil ⟨Γ1,ev1.symm,σ1,H2,F1,I2,fo1.same S2,rl1.same S2,E1.trans (.of_same S2)⟩
   | true =>
     rw[if_pos rfl] at ev1 hg1 ⊢
     have hgb:gb Γ1 ≠ .no:=fun z=>by rw[z] at hg1;exact hg1 rfl
     refine wpAny_passesOwn hp' (wpAny_mono (hb.run pins s2 σ1 H2 F1 Γ1 I2 (fo1.same S2) (rl1.same S2) hgb) (fun f s3 q3=>?_) fun x3 s3 q3=>?_)
     ·cases f with
      | next =>
        obtain⟨Γ7,e7,σ7,H7,F7,I7,fo7,rl7,E7⟩:=q3
        rw[e7] at ev1
        exact⟨m,Nat.lt_succ_self _,σ7,H7,F7,Γ7,I7,fo7,rl7,(E1.trans (.of_same S2)).trans E7,ev1⟩
      | cont =>
        obtain⟨Γ7,e7,σ7,H7,F7,I7,fo7,rl7,E7⟩:=q3
        rw[e7] at ev1
        exact⟨m,Nat.lt_succ_self _,σ7,H7,F7,Γ7,I7,fo7,rl7,(E1.trans (.of_same S2)).trans E7,ev1⟩
      | brk =>
        obtain⟨Γ7,e7,σ7,H7,F7,I7,fo7,rl7,E7⟩:=q3
        rw[e7] at ev1
        exact⟨Γ7,ev1.symm,σ7,H7,F7,I7,fo7,rl7,(E1.trans (.of_same S2)).trans E7⟩
      | ret v =>
        exact RtP.map q3 (E1.trans (.of_same S2)) (fun _ _ I7=>I7) (fun d7 e7=>by rw[e7] at ev1;exact ev1.symm) fun d7 e7=>by rw[e7] at ev1;exact ev1.symm
     ·obtain⟨c7,Γ7,σ7,H7,F7,e7,fl7,fo7,rl7,E7⟩:=q3
      rw[e7] at ev1
      exact⟨c7,Γ7,σ7,H7,F7,ev1.symm,fl7,fo7,rl7,(E1.trans (.of_same S2)).trans E7⟩
end
noncomputable def z7g(X:Cx)(pins:List (Addr×Obj))(σ:St)(H:Hp)(c:Er)(x:Value)(s:Shared)(fl:Value):Prop :=
 Inv X pins σ H s/\∃(e C:Addr) (oe:Obj) (vs:Array Value),x = .ref e/\X.mg c.nm=some (.ref C)/\H e=none/\X.s₀.heap.get? e=none/\e≠X.env.locals/\(∀y k,X.env.cells.lookup y=some k->k≠e)/\(∀p∈X.pn++pins,p.1≠e) /\
  s.heap.get? e=some oe/\oe.cls = .ref C/\oe.data = .fields vs/\(∃a0,vs[0]? = some a0) /\
  ∃(T:Addr) (oT:Obj) (ts:Array Value),vs[1]? = some (.ref T)/\H T=none/\X.s₀.heap.get? T=none/\T≠X.env.locals/\(∀y k,X.env.cells.lookup y=some k->k≠T)/\(∀p∈X.pn++pins,p.1≠T)/\T≠e /\
   s.heap.get? T=some oT/\oT.data = .fields ts/\ts[3]? = some fl
section
variable {X:Cx}{pins:List (Addr×Obj)}{σ:St}{H:Hp}{c:Er}{x:Value}{s:Shared}{E:Value->Shared->Prop}{Q:Unit->Shared->Prop}
theorem z7g.none(h:z7g X pins σ H c x s .none):y2h X pins σ H c x s:=by
 obtain⟨I,e,C,oe,vs,h1,h2,h3,h4,h5,h6,h7,h8,h9,h10,h11,T,oT,ts,k1,k2,k3,k4,k5,k6,k7,k8,k9,k10⟩:=h
 exact⟨I,e,C,oe,vs,h1,h2,h3,h4,h5,h6,h7,h8,h9,h10,h11,.inr ⟨T,oT,ts,k1,k2,k3,k4,k5,k6,k7,k8,k9,.inl k10⟩⟩
theorem z7g.here{L:Addr}(hf:X.env.frame=some L)(h:z7g X pins σ H c x s (rawInt L)):y2h X pins σ H c x s:=by
 obtain⟨I,e,C,oe,vs,h1,h2,h3,h4,h5,h6,h7,h8,h9,h10,h11,T,oT,ts,k1,k2,k3,k4,k5,k6,k7,k8,k9,k10⟩:=h
 exact⟨I,e,C,oe,vs,h1,h2,h3,h4,h5,h6,h7,h8,h9,h10,h11,.inr ⟨T,oT,ts,k1,k2,k3,k4,k5,k6,k7,k8,k9,.inr ⟨L,hf,k10⟩⟩⟩
theorem x0k{P:Program}{w:World}{H:Hp}{h:Heap}{a:Addr}{o:HO}(x:z5q P w H h a o):∃ob,h.get? a=some ob:=by
 cases o with
 | lst xs=>obtain⟨_,_,_,_,e⟩:=x;exact⟨_,e⟩
 | tup xs=>obtain⟨_,_,_,ob,e,_⟩:=x;exact⟨_,e⟩
 | dK kvs=>obtain⟨_,_,_,_,o,_,_,e,_⟩:=x;exact⟨_,e⟩
 | dT kvs=>obtain⟨_,_,_,_,o,_,_,e,_⟩:=x;exact⟨_,e⟩
 | set S n=>obtain⟨o,_,_,_,e,_⟩:=x;exact⟨_,e⟩
 | ins C dx fs=>obtain⟨_,_,_,e,_⟩:=x;exact⟨_,e⟩
 | own y=>exact x
 | xd fs=>obtain⟨_,⟨_,_,_,e,_⟩,_⟩:=x;exact⟨_,e⟩
 | rng lo hi=>obtain⟨_,_,_,e⟩:=x;exact⟨_,e⟩
 | frz ob u=>obtain⟨e,_⟩:=x;exact⟨_,e⟩
 | tbl ps=>exact⟨_,x⟩
 | met f y=>exact⟨_,x⟩
 | ext φ=>exact x.2.1
theorem Inv.recs{ch:List Addr}{h':Heap}(I:Inv X pins σ H s)(hch:∀b∈ch,H b=none/\X.s₀.heap.get? b=none/\b≠X.env.locals/\(∀y k,X.env.cells.lookup y=some k->k≠b)/\∀p∈X.pn++pins,p.1≠b)
 (keep:∀b o,b ∉ frs X.stack->b ∉ ch->s.heap.get? b=some o->h'.get? b=some o) (slot:∀b o,b ∉ ch->s.heap.get? b=some o->∃sl,h'.get? b=some { o with slots:=sl }):Inv X pins σ H { s with heap:=h' }:=by
 refine I.call (g':=s.gens) (t':=s.toks) (d':=s.drawn) (ch:=ch) ⟨fun b o e _ hb hc=>keep b o hb hc e,fun b o e _ _ hc=>slot b o hc e,fun _ _ _ n _=>n,fun b o e hc=>let ⟨sl,q⟩:=slot b o hc e;⟨_,q⟩,fun _ _ q=>q,fun _ _ _ q=>q,fun _ ps q=>⟨#[],by rw[q];simp⟩⟩ (fun b u e=>?_) I.bare fun b hb=>?_
 ·have tr:∀d w',H d=some w'->d ∉ frs X.stack/\d ∉ ch:=fun d w' q=>by
   refine⟨fun z=>?_,fun z=>?_⟩
   ·rw[I.stkFree d z] at q;cases q
   ·rw[(hch d z).1] at q;cases q
  refine(I.hok b u e).stay (fun d v hd q=>?_) (fun _ q=>q) fun _ _ q=>q
  rcases hd with z | z
  ·rw[z] at q ⊢;exact keep b v (tr b u e).1 (tr b u e).2 q
  ·exact keep d v (tr d _ z).1 (tr d _ z).2 q
 ·obtain⟨h1,h2,h3,h4,h5⟩:=hch b hb
  exact⟨.inr h2,h3,h4,h5⟩
noncomputable def hx(l:List Addr):Hp:=fun b=>if b∈l then some (.own 0) else none
theorem x5h{l:List Addr}{b:Addr}(h:b∈l):hx l b=some (.own 0):=by unfold hx;rw[if_pos h]
theorem x0t{l:List Addr}{b:Addr}(h:b ∉ l):hx l b=none:=by unfold hx;rw[if_neg h]
theorem z5f{h:Heap}{l:List Addr}{b:Addr}(hb:b∈l):(hidT h (hx l)).get? b=none:=by
 cases q:(hidT h (hx l)).get? b with
 | none=>rfl
 | some o =>
   have z:=(y2r q).2
   rw[x5h hb] at z;cases z
theorem y1j{L e C:Addr}{a0:Value}{ch:List Addr}{h':Heap}(hex:X.ex=[])(I:Inv X pins σ H s)(hmg:X.mg c.nm=some (.ref C))(he:e∈ch)(hch:∀b∈ch,H b=none/\X.s₀.heap.get? b=none/\b≠X.env.locals/\(∀y k,X.env.cells.lookup y=some k->k≠b)/\∀p∈X.pn++pins,p.1≠b)
 (hN:Heap.NotedW (hidT s.heap (hx (frs X.stack++ch))) X.stack e (.ref C) a0 (rawInt L) s.heap h'):z7g X pins σ H c (.ref e) { s with heap:=h' } (rawInt L):=by
 obtain⟨st,ff,⟨oe',vs',T',oT',ts',q1,⟨q2,q2'⟩,q3,q4,q5,q6,q7,q8,q9⟩,up⟩:=hN
 have keep:∀b o,b ∉ frs X.stack->b ∉ ch->s.heap.get? b=some o->h'.get? b=some o:=fun b o h1 h2 q=>st b o (y0e q (x0t fun z=>(List.mem_append.mp z).elim h1 h2))
 have slot:∀b o,b ∉ ch->s.heap.get? b=some o->∃sl,h'.get? b=some { o with slots:=sl }:=fun b o h2 q=>by
  by_cases hb:b∈frs X.stack
  ·obtain⟨_,o',ho',hnf⟩:=I.stack.mem hb
   rw[q] at ho';cases ho'
   exact up b o q hnf
  ·exact⟨o.slots,keep b o hb h2 q⟩
 have hT:H T'=none/\X.s₀.heap.get? T'=none/\T'≠X.env.locals/\(∀y k,X.env.cells.lookup y=some k->k≠T')/\∀p∈X.pn++pins,p.1≠T':=by
  cases q:s.heap.get? T' with
  | none =>
    refine⟨?_,I.gone hex q⟩
    cases z:H T' with
    | none=>rfl
    | some u =>
      obtain⟨o,eo⟩:=x0k (I.hok T' u z)
      rw[q] at eo;cases eo
  | some o =>
    have hin:T'∈frs X.stack++ch:=by
     by_cases z:T'∈frs X.stack++ch
     ·exact z
     ·have:=y0e q (x0t z)
      rw[q5] at this;cases this
    rcases List.mem_append.mp hin with z | z
    ·exfalso
     obtain⟨_,o',ho',hnf⟩:=I.stack.mem z
     rw[q] at ho';cases ho'
     obtain⟨sl,e1⟩:=up T' o q hnf
     rw[q7] at e1;cases e1
     exact hnf _ q8
    ·exact hch T' z
 obtain⟨f1,f2,f3,f4,f5⟩:=hch e he
 obtain⟨g1,g2,g3,g4,g5⟩:=hT
 exact⟨Inv.recs I hch keep slot,e,C,oe',vs',rfl,hmg,f1,f2,f3,f4,f5,q1,q2,q3,⟨a0,q2'⟩,T',oT',ts',q4,g1,g2,g3,g4,g5,q6,q7,q8,q9⟩
theorem y4i{M:Model}{L:Addr}(hex:X.ex=[])(hstk:X.stack=X.env::X.outer)(hf:X.env.frame=some L)(h:y2h X pins σ H c x s)(hQ:∀s',z7g X pins σ H c x s' (rawInt L)->Q () s'):wpAny M X.A (noteFrame x X.env) Q E s:=by
 obtain⟨I,e,C,oe,vs,h1,h2,h3,h4,h5,h6,h7,h8,h9,h10,h11,h12⟩:=h
 subst h1
 obtain⟨a0,h11⟩:=h11
 have hfr:X.A.frames=some (X.env::X.outer):=by rw[<-hstk];exact I.ok.frames
 have nfe:∀{b:Addr} {o:Obj} {ws:Array Value},s.heap.get? b=some o->o.data = .fields ws->b ∉ frs X.stack:=fun {b o ws} q1 q2 z=>by
  obtain⟨_,o',ho',hnf⟩:=I.stack.mem z
  rw[q1] at ho';cases ho'
  exact hnf _ q2
 have hl:∀ch:List Addr,s.heap.FunFrames (hidT s.heap (hx (frs X.stack++ch))) (X.env::X.outer):=fun ch=>by
  have gen:∀(l:List Env),(∀b∈frs l,b∈frs X.stack)->s.heap.FunFrames X.base l->s.heap.FunFrames (hidT s.heap (hx (frs X.stack++ch))) l:=by
   intro l
   induction l with
   | nil=>intro _ _;trivial
   | cons env r ih =>
     intro hs ⟨hk,⟨L',o,hf',hn,ho,hd⟩,hr⟩
     have m1:∀b∈frs r,b∈frs (env::r):=fun b hb=>by unfold frs at hb ⊢;rw[List.filterMap_cons,hf'];exact List.mem_cons_of_mem _ hb
     have m0:L'∈frs (env::r):=by unfold frs;rw[List.filterMap_cons,hf'];exact List.mem_cons_self
     exact⟨hk,⟨L',o,hf',z5f (List.mem_append_left _ (hs L' m0)),ho,hd⟩,ih (fun b hb=>hs b (m1 b hb)) hr⟩
  rw[<-hstk]
  exact gen X.stack (fun _ h=>h) I.stack
 have stays:∀ch:List Addr,(hidT s.heap (hx (frs X.stack++ch))).StaysIn s.heap:=fun ch b o q=>(y2r q).1
 rcases h12 with h12 | ⟨T,oT,ts,k1,k2,k3,k4,k5,k6,k7,k8,k9,k10⟩
 ·have hsz:1<vs.size:=(Array.getElem?_eq_some_iff.mp h12).1
  unfold noteFrame
  simp only[hf]
  refine wpAny_bind (wpAny_field h8 h10 h12 ?_)
  rw[if_neg (by decide)]
  refine wpAny_entryW hfr (hl [e]) hf h8 (stays [e]) (z5f (by simp)) h10 hsz h11 fun h' hN=>hQ _ ?_
  rw[h9,<-hstk] at hN
  refine y1j (ch:=[e]) hex I h2 (by simp) (fun b hb=>?_) hN
  have:b=e:=by simpa using hb
  subst this
  exact⟨h3,h4,h5,h6,h7⟩
 ·have hcc:∀b∈[e,T],H b=none/\X.s₀.heap.get? b=none/\b≠X.env.locals/\(∀y k,X.env.cells.lookup y=some k->k≠b)/\∀p∈X.pn++pins,p.1≠b:=fun b hb=>by
   have:b=e∨b=T:=by simpa using hb
   rcases this with rfl | rfl
   ·exact⟨h3,h4,h5,h6,h7⟩
   ·exact⟨k2,k3,k4,k5,k6⟩
  rcases k10 with k10 | ⟨L',hL',k10⟩
  ·refine wpAny_noteFrame_onW (cls:=.ref C) (a0:=a0) hfr (hl [e,T]) hf ⟨oe,vs,T,oT,ts,h8,⟨h9,h11⟩,h10,k1,z5f (by simp),k7,k8,k9,k10⟩ (stays [e,T]) (z5f (by simp)) fun h' hN=>hQ _ ?_
   rw[<-hstk] at hN
   exact y1j (ch:=[e,T]) hex I h2 (by simp) hcc hN
  ·rw[hf] at hL';cases hL'
   refine wpAny_noteFrame_againW (base:=hidT s.heap (hx (frs X.stack++[e,T]))) (cls:=.ref C) (a0:=a0) hf ⟨oe,vs,T,oT,ts,h8,⟨h9,h11⟩,h10,k1,z5f (by simp),k7,k8,k9,k10⟩ (hQ s ?_)
   exact⟨I,e,C,oe,vs,rfl,h2,h3,h4,h5,h6,h7,h8,h9,h10,⟨a0,h11⟩,T,oT,ts,k1,k2,k3,k4,k5,k6,k7,k8,k9,k10⟩
theorem y7q{M:Model}{A:Around}{fl:Value}{fr:Option Addr}(h:z7g X pins σ H c x s fl)(hQ:∀s',z7g X pins σ H c x s' (fr.elim .none fun f=>rawInt f)->Q () s'):wpAny M A (setFlight x fr) Q E s:=by
 obtain⟨I,e,C,oe,vs,h1,h2,h3,h4,h5,h6,h7,h8,h9,h10,h11,T,oT,ts,k1,k2,k3,k4,k5,k6,k7,k8,k9,k10⟩:=h
 subst h1
 have hsz3:3<ts.size:=(Array.getElem?_eq_some_iff.mp k10).1
 have other:∀b,b≠T->(s.heap.update T (Obj.mapFields (·.setIfInBounds 3 (fr.elim Value.none fun f=>rawInt f)))).get? b=s.heap.get? b:=fun b hb=>Heap.get?_update_other _ _ (Ne.symm hb)
 unfold setFlight
 refine wpAny_bind (wpAny_field h8 h10 k1 ?_)
 rw[if_pos (show(Value.ref T != Value.none)=true from by simp)]
 refine wpAny_setField k8 k9 hsz3 (hQ _ ⟨Inv.recs (ch:=[T]) I (fun b hb=>?_) (fun b o hb hc q=>?_) (fun b o hc q=>?_),e,C,oe,vs,rfl,h2,h3,h4,h5,h6,h7,(other e (Ne.symm k7)).trans h8,h9,h10,h11,T,_,_,k1,k2,k3,k4,k5,k6,k7,
  Heap.get?_update_self _ k8 (Obj.isFreed_of_fields (Obj.data_mapFields k9 _)),Obj.data_mapFields k9 _,by simp[hsz3]⟩)
 ·have:b=T:=by simpa using hb
  subst this
  exact⟨k2,k3,k4,k5,k6⟩
 ·have hc':b≠T:=by simpa using hc
  exact(other b hc').trans q
 ·have hc':b≠T:=by simpa using hc
  exact⟨o.slots,(other b hc').trans q⟩
theorem x4w{L:Addr}(hex:X.ex=[])(hstk:X.stack=X.env::X.outer)(hf:X.env.frame=some L):PO' X:=fun pins H F r e s' h=>by
 obtain⟨c,Γ',σ',H',F',e1,fl,fo,rl,Ex⟩:=h
 refine y4i hex hstk hf fl fun s1 f1=>?_
 obtain⟨I,e',C,oe,vs,h1,h2,h3,h4,h5,h6,h7,h8,h9,h10,h11,T,oT,ts,k1,kr⟩:=id f1
 subst h1
 show wpAny _ _ _ _ _ _
 refine wpAny_bind (wpAny_field h8 h10 k1 ?_)
 rw[if_neg (show ¬((Value.ref T==Value.none)=true) from by simp)]
 rw[hf]
 exact y7q f1 fun s2 f2=>⟨c,Γ',σ',H',F',e1,f2.here hf,fo,rl,Ex⟩
end
theorem x2i{H:Hp}:hid [] H=H:=by funext b;unfold hid;simp
theorem y0y{K:PySem.W.Frag}{H:Hp}{N:List Str}{ds:List D}{vs:List V}(i:IsAll K H ds vs):Rel K H [] (ini N.length ds) (L2.start N vs):=by
 have hl:=i.length
 have key:∀(j:Nat) (en:En),(ini N.length ds)[j]? = some en->(∃d,en = .ro d/\ds[j]? = some d)∨en = .no:=fun j en h=>by
  unfold ini at h
  by_cases hj:j<ds.length
  ·rw[List.getElem?_append_left (by simpa using hj),List.getElem?_map,List.getElem?_eq_getElem hj] at h
   cases h
   exact .inl ⟨_,rfl,List.getElem?_eq_getElem hj⟩
  ·rw[List.getElem?_append_right (by simpa using hj),List.getElem?_replicate] at h
   split at h
   ·cases h;exact .inr rfl
   ·cases h
 refine⟨?_,fun j d h=>?_,fun j es h=>?_,fun j k es fs a h1 _ _ _=>?_⟩
 ·unfold ini L2.start
  simp[hl]
 ·rcases key j _ h with ⟨d',e,hd⟩ | e
  ·cases e
   obtain⟨v,hv,iv⟩:=i.get hd
   refine⟨v,?_,by rw[x2i];exact iv⟩
   unfold L2.start
   rw[List.getElem?_append_left (by rw[List.length_map];exact(List.getElem?_eq_some_iff.mp hv).1),List.getElem?_map,hv];rfl
  ·cases e
 ·rcases key j _ h with ⟨d',e,_⟩ | e<;>cases e
 ·rcases key j _ h1 with ⟨d',e,_⟩ | e<;>cases e
section
variable {P:Program}{w:World}{K:PySem.W.Frag}{mg:Str->Option Value}{base:Heap}
noncomputable abbrev z8o (P:Program) (w:World) (K:PySem.W.Frag) (mg:Str->Option Value) (base:Heap) (N:List Str) (qual:Str) (st:Stmt) (f:Addr) (cdv:Value) (A:Around) (outer:List Env) (s:Shared) (H:Hp) (E:XK):Cx :=
 cxOf (CXE P w) P w K mg base N qual (z0e st) f cdv A outer s H E
theorem y7e{N:List Str}{qual:Str}{st:Stmt}{f:Addr}{cdv:Value}{A:Around}{outer:List Env}{s s':Shared}{H H':Hp}{E:XK}{pins:List (Addr×Obj)}{σ':St}{F':List Addr}{c:Er}{x:Value}
 (fl:y2h (z8o P w K mg base N qual st f cdv A outer s H E) pins σ' H' c x s') (hE:∀C,mg c.nm=some (.ref C)->E (.ref C) none H'):(z8o P w K mg base N qual st f cdv A outer s H E).xe x s':=by
 show wpAny _ _ (leaving _ x) _ _ s'
 unfold leaving
 refine wpAny_bind (y4i (L:=s.heap.objs.size) rfl rfl rfl fl fun s1 f1=>?_)
 refine y7q (fr:=none) f1 fun s2 f2=>?_
 obtain⟨I,e,C,oe,vs,h1,h2,h3,h4,h5,h6,h7,h8,h9,h10,h11,T,oT,ts,k1,k2,k3,k4,k5,k6,k7,k8,k9,k10⟩:=f2
 exact⟨e,C,T,oe,oT,vs,ts,H',h1,I.os,I.bare,I.base,I.hok,h3,h4,h8,h9,h10,h11,k1,k2,k3,k7,k8,k9,k10,hE C h2⟩
theorem z2v{x qual:Str}{st:Stmt}{f:Addr}{fd:FuncData}{N ps:List Str}{k:Nat}{φ:List D->R D}(Fu:Fun K x qual st f fd)(S:FnScope N ps (z0e st))(hb:z2t K fd ps [])(hlen:∀ds,φ ds ≠ .no->ds.length=ps.length)
 (hbody:∀(cdv:Value) (A:Around) (outer:List Env) (s:Shared) (H:Hp) (E:XK),Room k (z8o P w K mg base N qual st f cdv A outer s H E).A->∃g,PQs (z8o P w K mg base N qual st f cdv A outer s H E) (z0q st) g/\∀ds,φ ds ≠ .no->fin (g (ini N.length ds))=φ ds) :
 FnD P w K mg base (k+1) f fd ps φ:=by
 refine⟨?_,hb,Fu.kp⟩
 obtain⟨oc,od,kV,doc,pm,an,cdv,ct,osl,rfl,lk,hcd⟩:=Fu.ex
 refine x2n lk hcd S (fun vs H Q E h=>?_) fun A outer s H vs Q E hr hsp=>?_
 ·obtain⟨ds,i,hne,_⟩:=h
  rw[<-i.length];exact hlen ds hne
 obtain⟨g,hq,hg⟩:=hbody cdv A outer s H E hr
 obtain⟨ds,i,hne,hok,her⟩:=hsp
 have e0:=hg ds hne
 refine⟨fun D' σ' H'=>D'={ nx:=fun _ H'=>Q .non H',rt:=Q }/\σ'=L2.start N vs/\H'=H,?_,rfl,rfl,rfl⟩
 intro pins s1 σ1 H1 D1 I hw
 obtain⟨rfl,rfl,rfl⟩:=hw
 have hgne:g (ini N.length ds) ≠ .no:=fun z=>hne (by rw[<-e0,z];rfl)
 refine wpAny_mono (hq.run pins s1 (L2.start N vs) H1 [] (ini N.length ds) I FOk.nil (y0y i) hgne) (fun fl s' q=>?_) fun x' s' q=>?_
 ·cases fl with
  | next =>
    obtain⟨Γ',e1,σ',H',F',I',_,_,Ex⟩:=q
    exact⟨σ',H',I',hok .non .non H' (by rw[<-e0,e1];rfl) Ex.same (Is.non_iff.mpr rfl)⟩
  | ret u =>
    obtain⟨v,σ',H',F',I',rv,Ex,⟨d,e1,iv⟩ | ⟨es,a,xs,e1,ev,hn,ha,ia⟩⟩:=q
    ·exact⟨v,σ',H',I',rv,hok d v H' (by rw[<-e0,e1];rfl) Ex.same iv⟩
    ·exact absurd (by rw[<-e0,e1];rfl) hne
  | brk=>obtain⟨Γ',e1,_⟩:=q;exact absurd (by rw[<-e0,e1];rfl) hne
  | cont=>obtain⟨Γ',e1,_⟩:=q;exact absurd (by rw[<-e0,e1];rfl) hne
 ·obtain⟨c,Γ',σ',H',F',e1,fl,fo,rl,Ex⟩:=q
  exact y7e (F':=F') fl fun C hC=>her c C H' (by rw[<-e0,e1];rfl) hC Ex.same
theorem y4h{x qual:Str}{st:Stmt}{f:Addr}{fd:FuncData}{N ps:List Str}{k:Nat}{φ:List D->R (List D)}(Fu:Fun K x qual st f fd)(S:FnScope N ps (z0e st))(hb:z2t K fd ps [])(hlen:∀ds,φ ds ≠ .no->ds.length=ps.length)
 (hbody:∀(cdv:Value) (A:Around) (outer:List Env) (s:Shared) (H:Hp) (E:XK),Room k (z8o P w K mg base N qual st f cdv A outer s H E).A->∃g,PQs (z8o P w K mg base N qual st f cdv A outer s H E) (z0q st) g/\∀ds,φ ds ≠ .no->finF (g (ini N.length ds))=φ ds) :
 FnF P w K mg base (k+1) f fd ps φ:=by
 refine⟨?_,hb,Fu.kp⟩
 obtain⟨oc,od,kV,doc,pm,an,cdv,ct,osl,rfl,lk,hcd⟩:=Fu.ex
 refine x2n lk hcd S (fun vs H Q E h=>?_) fun A outer s H vs Q E hr hsp=>?_
 ·obtain⟨ds,i,hne,_⟩:=h
  rw[<-i.length];exact hlen ds hne
 obtain⟨g,hq,hg⟩:=hbody cdv A outer s H E hr
 obtain⟨ds,i,hne,hok,her⟩:=hsp
 have e0:=hg ds hne
 refine⟨fun D' σ' H'=>D'={ nx:=fun _ H'=>Q .non H',rt:=Q }/\σ'=L2.start N vs/\H'=H,?_,rfl,rfl,rfl⟩
 intro pins s1 σ1 H1 D1 I hw
 obtain⟨rfl,rfl,rfl⟩:=hw
 have hgne:g (ini N.length ds) ≠ .no:=fun z=>hne (by rw[<-e0,z];rfl)
 refine wpAny_mono (hq.run pins s1 (L2.start N vs) H1 [] (ini N.length ds) I FOk.nil (y0y i) hgne) (fun fl s' q=>?_) fun x' s' q=>?_
 ·cases fl with
  | next =>
    obtain⟨Γ',e1,_⟩:=q
    exact absurd (by rw[<-e0,e1];rfl) hne
  | ret u =>
    obtain⟨v,σ',H',F',I',rv,Ex,⟨d,e1,iv⟩ | ⟨es,a,xs,e1,ev,hn,ha,ia⟩⟩:=q
    ·exact absurd (by rw[<-e0,e1];rfl) hne
    ·subst ev
     exact⟨.ref a,σ',H',I',rv,hok es a xs H' (by rw[<-e0,e1];rfl) Ex.same (hn.elim (fun z=>absurd z (by simp)) fun z=>z) ha ia⟩
  | brk=>obtain⟨Γ',e1,_⟩:=q;exact absurd (by rw[<-e0,e1];rfl) hne
  | cont=>obtain⟨Γ',e1,_⟩:=q;exact absurd (by rw[<-e0,e1];rfl) hne
 ·obtain⟨c,Γ',σ',H',F',e1,fl,fo,rl,Ex⟩:=q
  exact y7e (F':=F') fl fun C hC=>her c C H' (by rw[<-e0,e1];rfl) hC Ex.same
theorem z4c{N:List Str}{qual:Str}{st:Stmt}{f:Addr}{cdv:Value}{A:Around}{outer:List Env}{s:Shared}{H:Hp}{E:XK}:PO' (z8o P w K mg base N qual st f cdv A outer s H E):=x4w (L:=s.heap.objs.size) rfl rfl rfl
end
section
variable {X:Cx}{e a b c:Expr}{g ga gb gc:G->R D}{pos p:Pos}
theorem x4f{pins:List (Addr×Obj)}{σ:St}{H:Hp}{s:Shared}{A:Around}{E:Value->Shared->Prop}{Q:Value->Shared->Prop}{d:D}{v:V}{u cv:Value}{b:Bool}(I:Inv X pins σ H s)(hnx:d.noX=true)(i:Is X.K H d v)(r:RelV v u)(e:PySem.W.kitOne X.K (.type d.ty) cv=some b)(h:∀tk,Q (.bool b) { s with toks:=tk }) :
 wpAny (model X.prog X.w) A (call (.builtin "isinstance") [u,cv]) Q E s:=by
 cases d with
 | non=>rw[Is.non_iff.mp i] at r;cases (show u=Value.none from r);exact PySem.W.kia_one PySem.W.kitx_none I.kIn True.intro e (fun z=>nomatch z) h
 | bl y=>rw[Is.bl_iff.mp i] at r;cases (show u=Value.bool y from r);exact PySem.W.kia_one PySem.W.kitx_bool I.kIn True.intro e (fun z=>nomatch z) h
 | int y=>rw[Is.int_iff.mp i] at r;obtain⟨t,q⟩:=(show ∃t,u=Value.int y t from r);cases q;exact PySem.W.kia_one PySem.W.kitx_int I.kIn True.intro e (fun z=>nomatch z) h
 | str y=>rw[Is.str_iff.mp i] at r;obtain⟨t,q⟩:=(show ∃t,u=Value.str y t from r);cases q;exact PySem.W.kia_one PySem.W.kitx_str I.kIn True.intro e (fun z=>nomatch z) h
 | tup ds =>
   obtain⟨a,xs,rfl,h1,_⟩:=Is.tup_iff.mp i
   cases (show u=Value.ref a from r)
   obtain⟨its,_,⟨o,ho,hc,_⟩,_⟩:=I.tuple h1
   exact PySem.W.kia_one PySem.W.kitx_tuple I.kIn ⟨o,ho,hc⟩ e (fun z=>nomatch z) h
 | lst ds =>
   obtain⟨a,xs,rfl,h1,_⟩:=Is.lst_iff.mp i
   cases (show u=Value.ref a from r)
   obtain⟨its,_,⟨o,n,ho,hc,_⟩,_⟩:=I.list h1
   exact PySem.W.kia_one PySem.W.kitx_list I.kIn ⟨o,ho,hc⟩ e (fun z=>nomatch z) h
 | dct =>
   obtain⟨a,ob,rfl,h1,h2⟩:∃a ob,v=V.ref a/\H a=some (.frz ob (.own 0))/\ob.cls = .type "dict":=by unfold Is at i;exact i
   cases (show u=Value.ref a from r)
   exact PySem.W.kia_one PySem.W.kitx_dict I.kIn ⟨ob,(I.hok a _ h1).1,h2⟩ e (fun z=>nomatch z) h
 | exc c=>simp[D.noX] at hnx
theorem y3t{y:Str}{py:Pos}{cv:Value}(f:String->Bool)(ha:PD X a ga)(hm:X.mg "isinstance"=none)(hb:∀{E:Value->Shared->Prop} {pins σ H s} {Q:Value->Shared->Prop},Inv X pins σ H s->Q cv s->wpAny (model X.prog X.w) X.A (eval (.Name y py) X.env) Q E s)
 (hk:∀d:D,d.noX=true->PySem.W.kitOne X.K (.type d.ty) cv=some (f d.ty)) (hg:Gl X "isinstance":=by rfl)
 (he:starEach [a,.Name y py] X.env=(false,eval a X.env)::(false,eval (.Name y py) X.env)::[]:=by rfl) (hpl:(backTo pos (starEach [.Name y py] X.env)).any (·.1)=false:=by rfl) (he2:starEach [.Name y py] X.env=[(false,eval (.Name y py) X.env)]:=by rfl) :
 PD X (.Call (.Name "isinstance" p) [a,.Name y py] [] pos) (gIsi f ga):=by
 refine⟨fun pins s σ H F Γ I fo rl hgg=>?_⟩
 refine wpAny_Call_Name_kw (z4j I hg hm (by decide +kernel:bootBuiltins "isinstance"=some (.builtin "isinstance")) ?_ (by decide) (by decide))
 refine PyProof.Rows.callWith_builtin1 ?_ (by rw[he,he2]) hpl
 rw[he]
 show wpAny _ _ (spliced ((false,eval a X.env)::backTo pos [(false,eval (.Name y py) X.env)])) _ _ s
 refine Calls.spliced_cons (wpAny_mono (ha.run pins s σ H F Γ I fo rl (R.left hgg)) (fun u s1 ⟨d,v,H1,e1,I1,r1,S1,i1⟩=>?_) fun _ _ x=>x.bind _)
 show wpAny _ _ (spliced ((false,eval (.Name y py) X.env)::backTo pos [])) _ _ s1
 refine Calls.spliced_cons (hb I1 (Calls.spliced_nil ?_))
 obtain⟨hnx,e2⟩:=x2o (R.next hgg e1)
 exact x4f I1 hnx i1 r1 (hk d hnx) fun tk=>Post.bind e1 S1 ⟨.bl (f d.ty),.bl (f d.ty),H1,e2,I1.tok _,rfl,.refl _,Is.bl_iff.mpr rfl⟩
theorem y7g{K:PySem.W.Frag}(d:D)(h:d.noX=true):PySem.W.kitOne K (.type d.ty) (.type "tuple")=some (z3m d.ty):=by cases d<;>first | rfl | (simp[D.noX] at h)
theorem x0o{K:PySem.W.Frag}(d:D)(h:d.noX=true):PySem.W.kitOne K (.type d.ty) (.type "list")=some (z4w d.ty):=by cases d<;>first | rfl | (simp[D.noX] at h)
end
theorem FnF.mono{P:Program}{w:World}{K:PySem.W.Frag}{mg:Str->Option Value}{base:Heap}{j k:Nat}{f:Addr}{fd:FuncData}{ps:List Str}{φ:List D->R (List D)}(F:FnF P w K mg base j f fd ps φ)(h:j<=k):FnF P w K mg base k f fd ps φ:=⟨F.ok.mono h,F.binds,F.kp⟩
noncomputable def spN(φ:List D->R D)(K:PySem.W.Frag):Sp:=fun vs H Q _=>∃ds d,IsAll K H ds vs/\φ ds = .ok d/\(∀v H',Same H H'->Is K H' d v->Q v H')
theorem x3b{φ:List D->R D}{K:PySem.W.Frag}{mg:Str->Option Value}{vs:List V}{H:Hp}{Q:VK}{E:XK}(h:spN φ K vs H Q E):spD K mg φ vs H Q E:=by
 obtain⟨ds,d,i,e,q⟩:=h
 exact⟨ds,i,(by rw[e];exact(fun z=>nomatch z)),(fun d' v H' e' S iv=>by rw[e] at e';cases e';exact q v H' S iv),(fun c C H' e'=>by rw[e] at e';cases e')⟩
theorem FnD.okN{P:Program}{w:World}{K:PySem.W.Frag}{mg:Str->Option Value}{base:Heap}{k:Nat}{f:Addr}{fd:FuncData}{ps:List Str}{φ:List D->R D}(F:FnD P w K mg base k f fd ps φ):FnOk P w K mg base (CXE P w) k f fd ps (spN φ K) :=
 F.ok.imp fun _ _ _ _ h=>x3b h
theorem law_true{c:List D->R D}(hc:∀ns:List Int,ns.length<=63->c [.lst (ns.map D.int)] = .ok (.bl true)){K:PySem.W.Frag}{H:Hp}{a:Addr}{ns:List Int}(hl:ns.length<=63)(hS:SqL K H a (ns.map V.int)):spN c K [.ref a] H (fun v _=>v = .bl true) fun _ _ _=>False :=
 ⟨[.lst (ns.map D.int)],.bl true,IsAll.cons (Is.lst_iff.mpr ⟨a,_,rfl,hS,IsAll.ints ns⟩) IsAll.nil,hc ns hl,fun v H' _ iv=>Is.bl_iff.mp iv⟩
theorem cxe_false{P:Program}{w:World}{H:Hp}{s:Shared}{e:Value}{s':Shared}(h:CXE P w [] H s (fun _ _ _=>False) e s'):False:=by
 obtain⟨_,_,_,_,_,_,_,_,_,_,_,_,_,_,_,_,_,_,_,_,_,_,_,_,_,_,z⟩:=h
 exact z
theorem walk_ofL{l:PySem.W.OpenLaw}{n k:Nat}{q:Program}{loose:List Str}{XP:(Str->Option Value)->Heap->Prop}{YP:World->Heap->Prop}{d:DefRec}{K:Params->PySem.W.Frag}{CX:World->CXT}(sp:PySem.W.Frag->Sp){x:Str}
 (hn:l.most=some n) (hn2:n<=sizeLine) (hdf:d.params.defaults=[]) (hr:Room k callerA)
 (hY:∀(w:World) (h:Heap),YP w h->(K w.params).In h)
 (F:∀(w:World) (mg:Str->Option Value) (fa:Addr) (h:Heap),(K w.params).In h->h.Ns mainGlobals mg->mg d.name=some (.ref fa) ->
   ∃fd:FuncData,(∀(s:Shared) (u:Value),BindsTo s fd ⟨[u],[]⟩ [(x,u)]) /\
    ∀base:Heap,(K w.params).In base->base.Ns mainGlobals mg->FnOk l.prog w (K w.params) mg base (CX w) k fa fd [x] (sp (K w.params)))
 (hsp:∀(K:PySem.W.Frag) (H:Hp) (a:Addr) (ns:List Int),ns.length<=n->SqL K H a (ns.map V.int)->sp K [.ref a] H (fun v _=>v = .bl true) fun _ _ _=>False)
 (hCX:∀(w:World) (H:Hp) (s:Shared) (e:Value) (s':Shared),CX w [] H s (fun _ _ _=>False) e s'->False) :
 PySem.W.WalkO q loose XP YP l.row.toRowW d [] (fun f vs=>PySem.call f vs) :=
 walk_of (K:=K) (CX:=CX) (sp:=fun w=>sp (K w.params)) hn hn2 hdf hr hY F (fun w H a ns h1 _ h3=>hsp (K w.params) H a ns h1 h3) hCX
end L3
namespace L3
open PySem PySem.Spec PyProof.Rows L2
section
variable {X:Cx}{tg a b c:Expr}{ga gb gc:G->R D}
end
section
variable {prog:Program}{w:World}{A:Around}{E:Value->Shared->Prop}{s:Shared}
open HT in
theorem z5w{t sl:Addr}{items:Array Value}{vl vu:Value}{lo hi:Option Int}{Q:Value->Shared->Prop}(ht:IsTup s.heap t items)(hs:s.heap.IsSliceOf sl vl vu .none)(pl:IsPart vl lo)(pu:IsPart vu hi)
 (hw:HT.sIx items.size 0 lo=0/\HT.sIx items.size items.size hi=items.size) (h:Q (.ref t) s):wpAny (model prog w) A (getItem (.ref t) (.ref sl)) Q E s:=by
 obtain⟨os,hos,hcs,hds⟩:=id hs
 have hTs:s.TypeIs (.ref sl) "slice":=⟨os,hos,hcs⟩
 unfold getItem
 try with_reducible refine wpAny_holding ?_
 first | refine wpAny_bind (wpAny_pure ?_) | skip
 refine wpAny_bind (wpAny_sequenceKey ht.typeIs (by decide) ?_)
 refine wpAny_bind (wpAny_callSpecial?_slot (name:=Str.ofString "__getitem__") ht.typeIs PyProof.Rows.slot_tuple_getitem
  (wpAny_call_entry PyProof.Rows.slot_tuple_getitem ht.typeIs entry_tuple_getitem ?_ (args_tuple_getitem _ _)))
 show wpAny _ _ (Builtin.Tuple.tupleItemsOf (.ref t)>>=_) _ _ s
 refine wpAny_bind (tupleItemsOf_ ht ?_)
 refine wpAny_bind (wpAny_typeOf hTs ?_)
 rw[if_pos (by decide)]
 refine wpAny_bind (z4z hs pl pu ?_)
 have hyes:(((HT.sIx items.size 0 lo:Nat):Int)==0&&(1:Int)==1&&(HT.sIx items.size items.size hi-HT.sIx items.size 0 lo)==items.size)=true:=by
  rw[hw.1,hw.2];simp
 show wpAny _ _ (if (((HT.sIx items.size 0 lo:Nat):Int)==0&&(1:Int)==1&&(HT.sIx items.size items.size hi-HT.sIx items.size 0 lo)==items.size)=true then _ else _) _ _ s
 rw[if_pos hyes]
 unfold Builtin.Tuple.tupleIsExact
 refine wpAny_bind (wpAny_bind (wpAny_typeOf ht.typeIs ?_))
 refine wpAny_pure ?_
 rw[if_pos (by decide)]
 exact wpAny_bind (wpAny_rule (wpAny_pure ⟨_,rfl,wpAny_pure h⟩))
end
section
variable {X:Cx}{e a b c:Expr}{g ga gb gc:G->R D}{lo hi:Option Expr}{gl gh:G->R (Option Int)}{pos p2:Pos}
noncomputable def rSlW(K:PySem.W.Frag):V->Option Int->Option Int->Hp->VK->Prop:=fun x lo hi H Q=>∃a xs,x = .ref a/\SqT K H a xs/\(HT.sIx xs.length 0 lo=0/\HT.sIx xs.length xs.length hi=xs.length)/\Q (.ref a) H
theorem x1c:SlR X (rSlW X.K):=by
 intro pins s σ H x v vl vu lo hi sl Q I rx hs pl pu h
 obtain⟨a,xs,rfl,hx,hw,q⟩:=h
 cases rx
 obtain⟨its,r,ht,hz⟩:=I.tuple hx
 have hlen:its.toArray.size=xs.length:=by rw[List.size_toArray];exact r.length.symm
 refine⟨"tuple",_,PyProof.Rows.slot_tuple_getitem.lookup,ht.typeIs,?_⟩
 exact z5w ht hs pl pu (by rw[hlen];exact hw) ⟨.ref a,H,I,rfl,q⟩
structure POD (X:Cx) (e:Option Expr) (g:G->R (Option Int)):Prop where
 run:∀(pins:List (Addr×Obj)) (s:Shared) (σ:St) (H:Hp) (F:List Addr) (Γ:G),Inv X pins σ H s->FOk H F->Rel X.K H F Γ σ->g Γ ≠ .no ->
  wpAny (model X.prog X.w) X.A (evalPart e X.env) (fun u s'=>∃o H',g Γ = .ok o/\Inv X pins σ H' s'/\IsPart u o/\Same H H') (z1l X pins σ H (g Γ)) s
theorem podN:POD X none gON:=⟨fun pins s σ H F Γ I fo rl hg=>by
 rw[evalPart_none]
 exact wpAny_pure ⟨none,H,rfl,I,.none,.refl _⟩⟩
theorem podS(h:PD X e g):POD X (some e) (gOS g):=⟨fun pins s σ H F Γ I fo rl hg=>by
 rw[evalPart_some]
 refine wpAny_mono (h.run pins s σ H F Γ I fo rl (R.left hg)) (fun u s1 ⟨d,x,H1,e1,I1,r1,S1,i1⟩=>?_) fun _ _ x=>x.bind _
 have hg1:=R.next hg e1
 cases d with
 | int i =>
   rw[Is.int_iff.mp i1] at r1
   obtain⟨t,rfl⟩:=(show ∃t,u=Value.int i t from r1)
   exact⟨some i,H1,R.step e1 _,I1,.int i t,S1⟩
 | _=>exact absurd rfl hg1⟩
theorem IsAll.cut{K:PySem.W.Frag}{H:Hp}{ds:List D}{xs:List V}(h:IsAll K H ds xs)(lo hi:Option Int):IsAll K H (cutL ds lo hi) (cutV xs lo hi):=by
 have hl:=h.length
 unfold cutL cutV
 rw[hl]
 exact(h.drop _).take _
theorem x3d{r:V->Option Int->Option Int->Hp->VK->Prop}(hr:SlR X.nox r)(ha:PD X a ga)(hl:POD X lo gl)(hh:POD X hi gh){pins:List (Addr×Obj)}{s:Shared}{σ:St}{H:Hp}{F:List Addr}{Γ:G}(I:Inv X pins σ H s)(fo:FOk H F)(rl:Rel X.K H F Γ σ)
 {α:Type} {rr:R α} {k:D->Option Int->Option Int->R α} (hrr:rr=(ga Γ>>=fun d=>gl Γ>>=fun l=>gh Γ>>=fun h=>k d l h)) (hg:rr ≠ .no) {Q:Value->Shared->Prop}
 (hq:∀d x l h H3,k d l h ≠ .no->rr=k d l h->Same H H3->Is X.K H3 d x->FOk H3 F->Rel X.K H3 F Γ σ->r x l h H3 fun z H'=>∀u s',Inv X pins σ H' s'->RelV z u->Q u s') :
 wpAny (model X.prog X.w) X.A (eval (.Subscript a (.Slice lo hi none p2) pos) X.env) Q (z1l X pins σ H rr) s:=by
 subst hrr
 refine Subscript_ (wpAny_mono (ha.run pins s σ H F Γ I fo rl (R.left hg)) (fun v s1 ⟨d,x,H1,e1,I1,r1,S1,i1⟩=>?_) fun _ _ x=>x.bind _)
 have hg1:=R.next hg e1
 refine wpAny_Slice (wpAny_mono (hl.run pins s1 σ H1 F Γ I1 (fo.same S1) (rl.same S1) (R.left hg1)) (fun vl s2 ⟨l,H2,e2,I2,pl,S2⟩=>?_) fun _ _ x=>z1l.later e1 S1 (x.bind _))
 have hg2:=R.next hg1 e2
 refine wpAny_mono (hh.run pins s2 σ H2 F Γ I2 ((fo.same S1).same S2) ((rl.same S1).same S2) (R.left hg2)) (fun vu s3 ⟨h,H3,e3,I3,pu,S3⟩=>?_) fun _ _ x=>z1l.later e1 S1 (z1l.later e2 S2 (x.bind _))
 have hg3:=R.next hg2 e3
 have S03:=(S1.trans S2).trans S3
 rw[evalPart_none]
 refine wpAny_pure ?_
 have I4:Inv X pins σ H3 { s3 with heap:=s3.heap.push { cls:=.type "slice",data:=.fields #[vl,vu,.none] } }:=I3.kept (t':=s3.toks) fun b ob q=>Heap.get?_push_of_some _ q
 obtain⟨T,id,hT,ht,hgi⟩:=hr pins { s3 with heap:=s3.heap.push { cls:=.type "slice",data:=.fields #[vl,vu,.none] } } σ H3 x v vl vu l h s3.heap.objs.size _ (I4.wish _) r1 (Heap.IsSliceOf.new ..) pl pu (hq d x l h H3 hg3 ((R.step e1 _).trans ((R.step e2 _).trans (R.step e3 _))) S03 ((i1.same S2).same S3) (fo.same S03) (rl.same S03))
 show wpAny (model X.prog X.w) X.A (subscriptTail a (.Slice lo hi none p2) v (.ref s3.heap.objs.size)) _ _ { s3 with heap:=s3.heap.push { cls:=.type "slice",data:=.fields #[vl,vu,.none] } }
 refine tail_any (ops:=[.ref s3.heap.objs.size,v]) ht hT (wpAny_mono hgi (fun u s5 ⟨z,H5,I5,rz,q5⟩=>q5 u s5 I5.unwish rz) fun _ _ z=>False.elim z) (by with_unfolding_all rfl)
theorem y5b(ha:PD X a ga)(hl:POD X lo gl)(hh:POD X hi gh):PD X (.Subscript a (.Slice lo hi none p2) pos) (gSl ga gl gh):=⟨fun pins s σ H F Γ I fo rl hg =>
 x3d (SlR.or (SlR.or x3c x1c) x1d) ha hl hh I fo rl (k:=dCut) rfl hg fun d x l h H3 hk er S i fo3 rl3=>by
  cases d with
  | tup ds =>
    obtain⟨p,xs,rfl,h1,h2⟩:=Is.tup_iff.mp i
    by_cases hw:HT.sIx xs.length 0 l=0/\HT.sIx xs.length xs.length h=xs.length
    ·refine .inl (.inr ⟨p,xs,rfl,h1,hw,fun u s' I' rz=>⟨_,.ref p,H3,er,I',rz,S,Is.tup_iff.mpr ⟨p,xs,rfl,h1,?_⟩⟩⟩)
     have:=h2.cut l h
     unfold cutV at this
     rw[hw.1,hw.2,List.drop_zero,Nat.sub_zero,List.take_length] at this
     exact this
    ·refine .inl (.inl ⟨p,xs,rfl,h1,hw,fun q hq u s' I' rz=>?_⟩)
     have S2:=z1e hq (.tup (cutV xs l h))
     exact⟨_,.ref q,_,er,I',rz,S.trans S2,Is.tup_iff.mpr ⟨q,_,rfl,SqT.of z0n,(h2.cut l h).same S2⟩⟩
  | lst ds =>
    obtain⟨p,xs,rfl,h1,h2⟩:=Is.lst_iff.mp i
    refine .inr ⟨p,xs,rfl,h1,fun q hq u s' I' rz=>?_⟩
    have S2:=z1e hq (.lst (cutV xs l h))
    exact⟨_,.ref q,_,er,I',rz,S.trans S2,Is.lst_iff.mpr ⟨q,_,rfl,SqL.of z0n,(h2.cut l h).same S2⟩⟩
  | _=>exact absurd rfl hk⟩
end
end L3
namespace L3
open PySem PySem.Spec PyProof.Rows L2
section
variable {prog:Program}{w:World}{A:Around}{E:Value->Shared->Prop}{s:Shared}
end
section
variable {X:Cx}{e:Expr}{g:G->R D}{pos pt:Pos}
end
noncomputable def bmV:List Value:=[.type "ValueError",.type "Exception",.type "BaseException",.type "object"]
noncomputable def x4q(h:Heap)(C:Addr):Prop:=∃bm N nm q bs hdct sn sub ab col dd k0 k1 k2 k3 k5 mN,h.get? C=some (excClassObj nm q C N bs bm hdct sn sub ab col dd k0 k1 k2 k3 k5 "ValueError.__new__")/\h.Ns N mN/\mN "__init__"=none/\OwnTail h bmV bm
theorem y7t{K:PySem.W.Frag}{h:Heap}{C:Addr}(X:K.In h)(q:PySem.W.excIn K C bmV "ValueError.__new__"=true):x4q h C:=by
 unfold PySem.W.excIn at q
 cases e:K.lookup C with
 | none=>rw[e] at q;cases q
 | some o =>
   rw[e] at q
   obtain⟨cls,dd,data,sl⟩:=o
   split at q
   ·rename_i heq
    obtain⟨rfl,rfl,rfl,rfl⟩:cls=_/\dd=_/\data=_/\sl=_:=by
     have z:=Option.some.inj heq
     injection z with z1 z2 z3 z4
     exact⟨z1,z2,z3,z4⟩
    split at q
    ·rename_i hm hs
     rename_i cd xa xb C' bm k0 k1 k2 k3 n k5
     simp only[Bool.and_eq_true,beq_iff_eq,Bool.not_eq_true'] at q
     obtain⟨⟨⟨⟨⟨q1,q2⟩,q3⟩,q4⟩,q5⟩,q6⟩:=q
     obtain⟨nm,bs,mro,ns,qn,hd,sn,sub,ab,col,del⟩:=cd
     subst q1 q2
     have h1:mro = .ref C'::bm:=hm
     have h2:del=false:=q3
     subst h1 h2
     have h3:sl=#[k0,k1,k2,k3,some (.builtin "ValueError.__new__"),k5]:=by
      cases sl with | mk l=>exact congrArg Array.mk hs
     subst h3
     exact⟨bm,ns,nm,qn,bs,hd,sn,sub,ab,col,dd,k0,k1,k2,k3,k5,_,X _ _ e,.of_isNs (PySem.W.isNs_of_in X q5),PySem.W.nsMap_none_of_in X q5 q6,PySem.W.tail_of_in X q4⟩
    ·cases q
   ·cases q
structure XOk (K:PySem.W.Frag) (mg:Str->Option Value) (c:Er) (C:Addr):Prop where
 ns:PySem.W.nsIn K mainGlobals c.nm=some (some (.ref C))
 mg:mg c.nm=some (.ref C)
 ex:PySem.W.excIn K C bmV "ValueError.__new__"=true
section
variable {X:Cx}{e:Expr}{g:G->R D}{pos np cpos:Pos}
theorem x5i{pins:List (Addr×Obj)}{σ:St}{H:Hp}{s:Shared}{q:Addr}(I:Inv X pins σ H s)(hq:s.heap.get? q=none):H q=none:=by
 cases e:H q with
 | none=>rfl
 | some o=>obtain⟨ob,h⟩:=x0k (I.hok q o e);rw[hq] at h;cases h
theorem y8v{c:Er}{C:Addr}{x:Str}{d:D}(hX:XOk X.K X.mg c C)(he:PD X e (gC d))(hc:X.calm=true)(hex:X.ex=[]:=by rfl)(hxn:x=c.nm:=by rfl)(hg:Gl X x:=by rfl)(hdb:(x==("__debug__":Str))=false:=by decide)
 (hs:starEach [e] X.env=(false,eval e X.env)::starEach [] X.env:=by rfl):PQ X (.Raise (some (.Call (.Name x np) [e] [] cpos)) none pos) (z9a c):=by
 refine⟨fun pins s σ H F Γ I fo rl _=>?_⟩
 subst hxn
 obtain⟨bm,N,nm,q,bs,hdct,sn,sub,ab,col,dd,k0,k1,k2,k3,k5,mN,hC,hN,hni,T⟩:=y7t I.mod.kin hX.ex
 refine wpAny_Raise_call_subT (C:=C) (nm:=nm) (q:=q) (N:=N) (bs:=bs) (bm:=bm) (hdct:=hdct) (sn:=sn) (sub:=sub) (ab:=ab) (col:=col) (dd:=dd) (k0:=k0) (k1:=k1) (k2:=k2) (k3:=k3) (k5:=k5)
  PySem.F.excBase_ValueError (mN:=mN) (T.hasType PySem.F.excBase_ValueError.hasBase) (I.ok.hd hc) (by rw[hs];rfl) hni (y0c I hg hX.mg ⟨rfl,?_⟩ hdb)
 rw[hs]
 refine Calls.evalArgs_plain (Calls.spliced_cons (wpAny_mono (he.run pins s σ H F Γ I fo rl (fun z=>nomatch z)) (fun u s1 ⟨d',v,H1,e1,I1,r1,S1,i1⟩=>Calls.spliced_nil ?_) fun x s1 ⟨c',H',e',_⟩=>by cases e'))
 refine⟨rfl,by show 1<=sizeLine;decide,I1.bk _ _ hC,hN.keeps I1.bk,T.keeps I1.bk,fun h' en M=>?_⟩
 obtain⟨t,hte,ht0,ht1⟩:=M.there
 have I2:Inv X pins σ H1 { s1 with heap:=h' }:=I1.kept (t':=s1.toks) fun b o q=>M.keeps b o q
 obtain⟨g1,g2,g3,g4⟩:=I1.gone hex M.new
 exact⟨c,Γ,σ,H1,F,rfl,⟨I2,en,C,_,_,rfl,hX.mg,x5i I1 M.new,g1,g2,g3,g4,hte,rfl,rfl,⟨_,rfl⟩,.inl rfl⟩,fo.same S1,rl.same S1,.of_same S1⟩
end
section
variable {K:PySem.W.Frag}{M:Model}{A:Around}{E:Value->Shared->Prop}{s:Shared}
end
structure XCls (K:PySem.W.Frag) (C:Addr):Prop where
 ga:PySem.W.findIn K (.ref C) "__getattribute__"=some (some (.builtin "BaseException.__getattribute__"))
 gn:PySem.W.findIn K (.ref C) "__getattr__"=some none
 cl:PySem.W.findIn K (.ref C) "__class__"=some (some (.builtin "object.__class__"))
 mo:PySem.W.mroIn K C (.type "object")=some true
 mb:PySem.W.mroIn K C (.type "BaseException")=some true
 ty:PySem.W.typeIn K (.ref C)=some (.type "type")
 is:(PySem.W.clsIn K C).isSome=true
section
variable {K:PySem.W.Frag}{prog:Program}{w:World}{A:Around}{E:Value->Shared->Prop}{s:Shared}{a C:Addr}{o:Obj}
end
section
variable {X:Cx}{pos p pn:Pos}
structure PCl (X:Cx) (es:List Expr) (vs:List Value):Prop where
 run:∀{E:Value->Shared->Prop} {pos:Pos} {pins:List (Addr×Obj)} {σ:St} {H:Hp} {s:Shared} {Q:List Value->Shared->Prop},Inv X pins σ H s->Q vs s->wpAny (model X.prog X.w) X.A (spliced (backTo pos (starEach es X.env))) Q E s
noncomputable def mk(X:Cx)(v:Value):Cx:={ X with A:=X.A.mark (some v),calm:=false }
end
section
variable {X:Cx}{pos np hpos:Pos}
structure ErrOk (X:Cx) (B:Addr):Prop where
 cl:XCls X.K B
 ns:∀(c:Er) (C:Addr),X.mg c.nm=some (.ref C)->PySem.W.nsIn X.K mainGlobals c.nm=some (some (.ref C))/\PySem.W.mroIn X.K C (.ref B)=some true
end
section
variable {X:Cx}{pos p pn:Pos}
end
section
variable {X:Cx}{e a b c:Expr}{g ga gb gc:G->R D}{pos pos':Pos}{es:List Expr}{gs:G->R (List D)}
end
section
variable {P:Program}{w:World}{K:PySem.W.Frag}{mg:Str->Option Value}{base:Heap}
end
section
variable {X:Cx}{e a b c:Expr}{g ga gb gc:G->R D}{pos pos' p p2:Pos}{es:List Expr}{gs:G->R (List D)}{lo hi:Option Expr}{gl gh:G->R (Option Int)}
noncomputable def x4u(K:PySem.W.Frag):R2:=fun x y H Q=>∃l b xs zs,x = .ref l/\y = .ref b/\SqL K H l xs/\SqL K H b zs/\xs.length+zs.length<=sizeLine/\∀p,H p=none->Q (.ref p) (upd H p (.lst (xs++zs)))
theorem x1s:OpR X (binaryOp .Add) (x4u X.K):=by
 intro pins s σ H x y v u Q I rx ry h
 obtain⟨l,b,xs,zs,rfl,rfl,hH,hB,hz,q⟩:=h
 cases rx
 cases ry
 obtain⟨i1,r1,pl1,_⟩:=I.list hH
 obtain⟨i2,r2,pl2,_⟩:=I.list hB
 have n1:=r1.length
 have n2:=r2.length
 obtain⟨⟨c1,d1,t1,s1⟩,o1,k1,m1,j1⟩:=pl1.isList
 obtain⟨⟨c2,d2,t2,s2⟩,o2,k2,m2,j2⟩:=pl2.isList
 simp only at k1 j1 k2 j2
 subst k1 j1 k2 j2
 refine concat_meets ⟨_,o1,rfl⟩ ⟨_,o2,rfl⟩ noFill_list_add seq_list_add PySem.F.slot_list_add PySem.F.entry_list_add (PySem.F.args_list_add_2 _ _) (list_addW l b i1.toArray i2.toArray m1 m2 d1 d2 s1 s2 (by simp only[List.size_toArray];omega)) ⟨o1,o2,?_⟩
 have ea:i1.toArray++i2.toArray=(i1++i2).toArray:=by simp
 rw[ea]
 exact⟨.ref _,_,I.lnew (t':=s.toks) (r1.append r2) (by rw[List.length_append];omega),rfl,q _ I.fresh⟩
theorem y6n(ha:PD X a ga)(hb:PD X b gb):PF X (.BinOp a .Add b pos) (y3d ga gb):=by
 refine⟨fun pins s σ H F Γ I fo rl hg=>?_⟩
 refine wpAny_BinOp (wpAny_mono (ha.run pins s σ H F Γ I fo rl (R.left hg)) (fun v s1 ⟨dx,x,H1,e1,I1,r1,S1,i1⟩=>?_) fun _ _ x=>x.bind _)
 have hg1:=R.next hg e1
 refine wpAny_mono (hb.run pins s1 σ H1 F Γ I1 (fo.same S1) (rl.same S1) (R.left hg1)) (fun u s2 ⟨dy,y,H2,e2,I2,r2,S2,i2⟩=>?_) fun _ _ x=>z1l.later e1 S1 (x.bind _)
 have hgx:=R.next hg1 e2
 have i1':=i1.same S2
 have key:∀xs ys,dx = .lst xs->dy = .lst ys->∃zx zy,x = .ref zx/\y = .ref zy/\∃vx vy,SqL X.K H2 zx vx/\SqL X.K H2 zy vy/\IsAll X.K H2 xs vx/\IsAll X.K H2 ys vy:=fun xs ys q1 q2=>by
  subst q1 q2
  obtain⟨zx,vx,rfl,a1,a2⟩:=Is.lst_iff.mp i1'
  obtain⟨zy,vy,rfl,b1,b2⟩:=Is.lst_iff.mp i2
  exact⟨zx,zy,rfl,rfl,vx,vy,a1,b1,a2,b2⟩
 have both:∃xs ys,dx = .lst xs/\dy = .lst ys:=by
  cases dx with
  | lst xs =>
    cases dy with
    | lst ys=>exact⟨xs,ys,rfl,rfl⟩
    | _=>exact absurd rfl hgx
  | _=>cases dy<;>exact absurd rfl hgx
 obtain⟨xs,ys,rfl,rfl⟩:=both
 obtain⟨zx,zy,rfl,rfl,vx,vy,a1,b1,a2,b2⟩:=key xs ys rfl rfl
 obtain⟨⟨hc,hn⟩,e3⟩:=R.guard_ne (show R.guard (xs.length+ys.length<=1000/\D.noLs (xs++ys)=true) (.ok (xs++ys)) ≠ .no from hgx)
 have hz:vx.length+vy.length<=sizeLine:=by rw[<-a2.length,<-b2.length];exact z4a hc
 refine wpAny_mono (x1s (X:=X.nox) pins s2 σ H2 (.ref zx) (.ref zy) _ _ (fun z H'=>∃l,z = .ref l/\H2 l=none/\H'=upd H2 l (.lst (vx++vy))) (I2.wish _) r1 r2 ⟨zx,zy,vx,vy,rfl,rfl,a1,b1,hz,fun l hl=>⟨l,rfl,hl,rfl⟩⟩) (fun u s' ⟨z,H',I',rz,l,ez,hl,eH⟩=>?_) fun _ _ z=>False.elim z
 subst ez eH
 have S3:=z1e hl (.lst (vx++vy))
 exact⟨xs++ys,l,vx++vy,_,(R.step e1 _).trans ((R.step e2 _).trans e3),I'.unwish,rz,(S1.trans S2).trans S3,S1.free (S2.free hl),z0n,IsAll.hid ((((fo.same S1).same S2).same S3).cons z0n) _ _ hn ((a2.append b2).same S3)⟩
end
section
variable {X:Cx}{e a b c:Expr}{g ga gb gc:G->R D}{lo:Option Expr}{gl:G->R (Option Int)}{pos p2 p3:Pos}
end
section
variable {X:Cx}
theorem y6s:OpD X (binaryOp .Mult) y9v:=od_I (C:=z5k) (d:=fun i j=>.int (i*j)) (fun _ _ _ _=>Is.int_iff.mpr rfl) (v:=fun i j=>.int (i*j)) (opI fun _ _ _ _ _ _ _ hc q=>mul_int q (by
 have key:∀{k:Int},k.natAbs<bigN->Builtin.Int.intBits k<=4000:=fun {k} h=>PyProof.Rows.intBits_le (Nat.lt_of_lt_of_le h (by unfold bigN;decide +kernel))
 exact PyProof.Rows.mulOk_of_bits (key hc.1) (key hc.2) (by decide)))
theorem x4m:z8q X (.builtin "abs") dAbs:=by
 refine⟨_,x0a (X:=X.nox),fun H xs ds i hg=>?_⟩
 unfold dAbs at hg
 split at hg
 ·rename_i k
  obtain⟨v,rfl,h⟩:=z5e i
  exact⟨k,by rw[Is.int_iff.mp h],_,rfl,.refl _,Is.int_iff.mpr rfl⟩
 ·exact absurd rfl hg
theorem x0v:z8q X (.type "int") dInt:=by
 refine⟨_,y8j (X:=X.nox),fun H xs ds i hg=>?_⟩
 unfold dInt at hg
 split at hg
 ·rename_i k
  obtain⟨v,rfl,h⟩:=z5e i
  exact .inl ⟨k,by rw[Is.int_iff.mp h],_,rfl,.refl _,Is.int_iff.mpr rfl⟩
 ·rename_i k
  obtain⟨v,rfl,h⟩:=z5e i
  exact .inr ⟨k,by rw[Is.bl_iff.mp h],_,rfl,.refl _,Is.int_iff.mpr rfl⟩
 ·exact absurd rfl hg
end
section
variable {X:Cx}{e a b c:Expr}{g ga gb gc:G->R D}{lo:Option Expr}{st:Expr}{gl gt:G->R (Option Int)}{pos p2 p3:Pos}
end
theorem Is.isNon{K:PySem.W.Frag}{H:Hp}{d:D}{v:V}(h:Is K H d v):decide (v = .non)=d.isNon:=by
 cases d with
 | non=>rw[Is.non_iff.mp h];rfl
 | bl b=>rw[Is.bl_iff.mp h];rfl
 | int b=>rw[Is.int_iff.mp h];rfl
 | str b=>unfold Is at h;rw[h];rfl
 | tup ds=>obtain⟨a,xs,rfl,_⟩:=Is.tup_iff.mp h;rfl
 | lst ds=>obtain⟨a,xs,rfl,_⟩:=Is.lst_iff.mp h;rfl
 | dct=>unfold Is at h;obtain⟨a,ob,rfl,_⟩:=h;rfl
 | exc c=>unfold Is at h;obtain⟨a,ob,C,rfl,_⟩:=h;rfl
section
variable {X:Cx}{a b:Expr}{pos:Pos}
theorem y6r:OpD X (compareOp .IsNot) y9u:=by
 refine⟨_,x1p (X:=X.nox),fun H x y dx dy ix iy hg=>?_⟩
 cases dy with
 | non=>exact⟨Is.non_iff.mp iy,.bl (!dx.isNon),rfl,.refl _,Is.bl_iff.mpr (by rw[ix.isNon])⟩
 | _=>exact absurd rfl hg
theorem x3j{ga:G->R (List D)}{gb:G->R D}(ha:PF X a ga)(hb:PD X b gb):PF X (.BinOp a .Mult b pos) (gRep ga gb):=by
 refine⟨fun pins s σ H F Γ I fo rl hg=>?_⟩
 refine wpAny_BinOp (wpAny_mono (ha.run pins s σ H F Γ I fo rl (R.left hg)) (fun v s1 ⟨dx,a1,xs,H1,e1,I1,r1,S1,n1,h1,i1⟩=>?_) fun _ _ x=>x.bind _)
 have hg1:=R.next hg e1
 refine wpAny_mono (hb.run pins s1 σ H1 F Γ I1 (fo.same S1) (rl.same S1) (R.left hg1)) (fun u s2 ⟨dy,y,H2,e2,I2,r2,S2,i2⟩=>?_) fun _ _ x=>z1l.later e1 S1 (x.bind _)
 have hgx:=R.next hg1 e2
 cases dy with
 | int k =>
   obtain⟨⟨hc1,hc2,hc3⟩,e3⟩:=R.guard_ne (show R.guard (0<=k/\k<1000000/\dx.length*k.toNat<=1000) (.ok (List.replicate k.toNat dx).flatten) ≠ .no from hgx)
   subst r1
   have hxl:=i1.length
   have hz:xs.length*k.toNat<=sizeLine:=by rw[<-hxl];exact z4a hc3
   refine wpAny_mono (x3p (X:=X.nox) pins s2 σ H2 (.ref a1) y _ _ (fun z H'=>∃l,z = .ref l/\H2 l=none/\H'=upd H2 l (.lst (List.replicate k.toNat xs).flatten)) (I2.wish _) rfl r2 ⟨a1,k,xs,rfl,Is.int_iff.mp i2,S2 _ _ h1,by omega,by omega,hz,fun l hl=>⟨l,rfl,hl,rfl⟩⟩) (fun u s' ⟨z,H',I',rz,l,ez,hl,eH⟩=>?_) fun _ _ z=>False.elim z
   subst ez eH
   have S3:=z1e hl (.lst (List.replicate k.toNat xs).flatten)
   have up:IsAll X.K (hid (l::F) (upd H2 l (.lst (List.replicate k.toNat xs).flatten))) dx xs:=by
    refine i1.same fun b o hb=>?_
    obtain⟨z1,z2⟩:=z2f hb
    have z3:=S2 _ _ z2
    have hbl:b≠l:=z0k z3 hl
    rw[z1o fun z=>(List.mem_cons.mp z).elim hbl fun z'=>z1 (List.mem_cons_of_mem _ z'),z0l hbl]
    exact z3
   exact⟨_,l,_,_,(R.step e1 _).trans ((R.step e2 _).trans e3),I'.unwish,rz,(S1.trans S2).trans S3,S1.free (S2.free hl),z0n,up.rep _⟩
 | _=>exact absurd rfl hgx
end
section
variable {X:Cx}{e a b c:Expr}{g ga gb gc:G->R D}{pos pos' p p2:Pos}{es:List Expr}{gs:G->R (List D)}
end
section
variable {X:Cx}{e a b c:Expr}{g ga gb gc:G->R D}{pos pos' p p2:Pos}{es:List Expr}{gs:G->R (List D)}
structure PADr (X:Cx) (es:List Expr) (g:G->R (List D)):Prop where
 run:∀(pos:Pos) (pins:List (Addr×Obj)) (s:Shared) (σ:St) (H:Hp) (F:List Addr) (Γ:G),Inv X pins σ H s->FOk H F->Rel X.K H F Γ σ->g Γ ≠ .no ->
  wpAny (model X.prog X.w) X.A (spliced (backTo pos (starEach es X.env))) (fun us s'=>∃ds vs H',g Γ = .ok ds/\Inv X pins σ H' s'/\Vals vs us/\Same H H'/\IsAll X.K (hid F H') ds vs) (z1l X pins σ H (g Γ)) s
theorem x3n(ha:PDr X a ga)(hb:PD X b gb)(hs:y8o b:=by intro _ _;rfl):PDr X (.Subscript a b pos) (gBin dIx ga gb):=by
 refine⟨fun pins s σ H F Γ I fo rl hg=>?_⟩
 refine Subscript_ (wpAny_mono (ha.run pins s σ H F Γ I fo rl (R.left hg)) (fun v s1 ⟨dx,x,H1,e1,I1,r1,S1,i1⟩=>?_) fun _ _ x=>x.bind _)
 have hg1:=R.next hg e1
 refine wpAny_mono (hb.run pins s1 σ H1 F Γ I1 (fo.same S1) (rl.same S1) (R.left hg1)) (fun u s2 ⟨dy,y,H2,e2,I2,r2,S2,i2⟩=>?_) fun _ _ x=>z1l.later e1 S1 (x.bind _)
 have hg2:=R.next hg1 e2
 have i1':=i1.same (z1i S2)
 have fin:∀(d:D) (z:V),dIx dx dy = .ok d->Is X.K (hid F H2) d z->∀(w':Value) (s':Shared),EP X.nox pins σ (fun z' H'=>z'=z/\H'=H2) w' s'->∃d v H',gBin dIx ga gb Γ = .ok d/\Inv X pins σ H' s'/\RelV v w'/\Same H H'/\Is X.K (hid F H') d v:=fun d z ed iz w' s' ⟨z',H',I',rz,ez,eH⟩=>by
  subst ez eH
  exact⟨d,z',H',(R.step e1 _).trans ((R.step e2 _).trans ed),I'.unwish,rz,S1.trans S2,iz⟩
 cases dx with
 | tup ds =>
   cases dy with
   | int i =>
     obtain⟨p,xs,rfl,h1,h2⟩:=Is.tup_iff.mp i1'
     have h1':=z4h (z1v (F:=F)) h1
     cases q:atI ds i with
     | none=>exact absurd (show dIx (.tup ds) (.int i) = .no by simp only[dIx,q]) hg2
     | some d =>
       obtain⟨z,ez,iz⟩:=h2.atI q
       exact wpAny_mono (x0q (X:=X.nox) a b pins s2 σ H2 _ y v u _ (I2.wish _) r1 r2 ⟨p,xs,i,z,rfl,Is.int_iff.mp i2,h1',ez,rfl,rfl⟩ (hs _ _)) (fun w' s' h=>fin d z (by show dIx (.tup ds) (.int i) = .ok d;simp only[dIx,q]) iz w' s' h) fun _ _ z=>False.elim z
   | _=>exact absurd rfl hg2
 | lst ds =>
   cases dy with
   | int i =>
     obtain⟨p,xs,rfl,h1,h2⟩:=Is.lst_iff.mp i1'
     have h1':=Same.seq (z1v (F:=F)) h1
     cases q:atI ds i with
     | none=>exact absurd (show dIx (.lst ds) (.int i) = .no by simp only[dIx,q]) hg2
     | some d =>
       obtain⟨z,ez,iz⟩:=h2.atI q
       exact wpAny_mono (y7h (X:=X.nox) a b pins s2 σ H2 _ y v u _ (I2.wish _) r1 r2 ⟨p,xs,i,z,rfl,Is.int_iff.mp i2,h1',ez,rfl,rfl⟩ (hs _ _)) (fun w' s' h=>fin d z (by show dIx (.lst ds) (.int i) = .ok d;simp only[dIx,q]) iz w' s' h) fun _ _ z=>False.elim z
   | _=>exact absurd rfl hg2
 | _=>exact absurd rfl hg2
end
noncomputable def z7r(N:List Str)(env:Env)(x0 y:Str)(scope:Scope):Bool :=
 decide (scope.kind = .function)&&scope.names.all (fun p=>decide (p.2 ≠ .cell)&&(decide (p.2 ≠ .local)||decide (scope.names.lookup p.1=some .local))&&(decide (p.2 ≠ .free)||((env.cells.lookup p.1).isSome&&(decide (env.scope.names.lookup p.1=some .cell)||decide (env.scope.names.lookup p.1=some .free)))))
  && decide (scope.names.lookup x0=some .local/\scope.names.lookup y=some .local/\x0≠y/\(x0 ∉ N∨y ∉ N))&&decide (scope.names.lookup (("":Str))=none)&&N.all (fun z=>decide (scope.names.lookup z≠some .local)||decide (z=x0∨z=y))&&decide ((∀z∈N,z≠("":Str))∨(x0 ∉ N/\y ∉ N))
structure CompOk2 (N:List Str) (env:Env) (x0 y:Str) (scope:Scope):Prop where
 kind:scope.kind = .function
 nocell:∀p∈scope.names,p.2 ≠ .cell
 names:∀p∈scope.names,p.2 = .local->scope.names.lookup p.1=some .local
 free:∀p∈scope.names,p.2 = .free->(∃c,env.cells.lookup p.1=some c)/\(env.scope.names.lookup p.1=some .cell∨env.scope.names.lookup p.1=some .free)
 loc:scope.names.lookup x0=some .local/\scope.names.lookup y=some .local/\x0≠y/\(x0 ∉ N∨y ∉ N)
 nil:scope.names.lookup (("":Str))=none
 only:∀z∈N,scope.names.lookup z=some .local->z=x0∨z=y
 none:(∀z∈N,z≠("":Str))∨(x0 ∉ N/\y ∉ N)
theorem z9e{N:List Str}{env:Env}{x0 y:Str}{scope:Scope}(h:z7r N env x0 y scope=true):CompOk2 N env x0 y scope:=by
 unfold z7r at h
 simp only[Bool.and_eq_true,List.all_eq_true,Bool.or_eq_true,decide_eq_true_eq] at h
 obtain⟨⟨⟨⟨⟨h1,h2⟩,h3⟩,h4⟩,h5⟩,h6⟩:=h
 refine⟨h1,fun p hp=>(h2 p hp).1.1,fun p hp e=>((h2 p hp).1.2).resolve_left fun z=>z e,fun p hp e=>?_,h3,h4,fun z hz e=>(h5 z hz).resolve_left fun q=>q e,h6⟩
 have q:=((h2 p hp).2).resolve_left fun z=>z e
 exact⟨Option.isSome_iff_exists.mp q.1,q.2⟩
noncomputable def z1h(X:Cx)(x0 y:Str)(scope:Scope)(C:Addr)(s₂:Shared)(H₂:Hp)(fp:List Addr)(pn:List (Addr×Obj)):Cx :=
 { X with N:=x0::y::X.N.map (fun z=>if z=x0∨z=y then ("":Str) else z),s₀:=s₂,H₀:=H₂,env:=compEnvC scope (capt X.env scope.names []) C X.env,outer:=X.stack,ex:=fp,fn:=fun _=>false,pn:=pn,xe:=fun _ _=>False }
theorem y5n{X:Cx}{x0 y:Str}{scope:Scope}{C Dd:Addr}{fp:List Addr}{pins pl:List (Addr×Obj)}{σ σ':St}{H₂ H':Hp}{s₂ s1:Shared}{xs:List V}{its:List Value}{n:Nat}(I:Inv X pins σ H₂ s₂)
 (J:Inv (z1h X x0 y scope C s₂ H₂ fp (X.pn++pins)) pl σ' H' s1) (hD:s₂.heap.objs.size<=Dd) (hn:H' Dd=none) (hd:s1.heap.get? Dd=some { cls:=.type "list",data:=.seq its.toArray n }) (rv:Vals xs its) (hz:xs.length<=sizeLine) (hf:∀b∈fp,FpOk X pins H₂ b) :
 Inv X pins σ (upd H' Dd (.lst xs)) s1:=by
 have os:s1.os=s₂.os:=J.os
 have un:Un (frs X.stack) fp H₂ H' s₂.heap s1.heap:=J.base
 have hok:HOk X.prog X.w H' s1.heap:=J.hok
 have bare:AllBare s1.gens:=J.bare
 clear J
 obtain⟨hh,gg,dd,tt,os'⟩:=s1
 obtain rfl:os'=s₂.os:=os
 have neD:∀b o,s₂.heap.get? b=some o->b≠Dd:=fun b o e=>Nat.ne_of_lt (Nat.lt_of_lt_of_le (Heap.lt_size e) hD)
 refine I.call (h':=hh) (g':=gg) (d':=dd) (t':=tt) (ch:=fp) ⟨un.keep,un.slot,fun b o e n' hx=>?_,un.there,fun b ys e=>?_,fun b o u e=>?_,fun b ps e=>?_⟩ (y0d hok hn ⟨hz,its,n,rv,hd⟩) bare fun b hb=>?_
 ·rw[z0l (neD b o e)];exact un.free b o e n' hx
 ·have q:=un.tups b ys e
  rw[z0l (z0k q hn)];exact q
 ·have q:=un.frzs b o u e
  rw[z0l (z0k q hn)];exact q
 ·obtain⟨more,q⟩:=un.tbls b ps e
  exact⟨more,by rw[z0l (z0k q hn)];exact q⟩
 ·obtain⟨f0,f1,f2,f3,f4,f5⟩:=hf b hb
  exact⟨f3.imp_right fun z=>Heap.get?_none_of_le z,f1,f4,f5⟩
theorem y9y{X:Cx}{x0 y:Str}{scope:Scope}{C:Addr}{fp:List Addr}{pins:List (Addr×Obj)}{σ:St}{H₂:Hp}{s₂:Shared}(I:Inv X pins σ H₂ s₂)(c:CompOk2 X.N X.env x0 y scope)(hC:s₂.heap.objs.size<=C)(hf:∀b∈fp,FpOk X pins H₂ b)(ho:∀b∈fp,b<s₂.heap.objs.size) :
 (z1h X x0 y scope C s₂ H₂ fp (X.pn++pins)).Ok:=by
 have cells:∀x k,(capt X.env scope.names []).lookup x=some k->X.env.cells.lookup x=some k:=fun x k e=>by
  rcases z2k scope.names [] (PySem.mem_of_lookup e) with q | q
  ·simp at q
  ·exact q
 refine⟨I.ok.mod,c.kind,I.ok.glob,I.ok.blt,hC,fun x z k h1 h2=>I.ok.inj x z k (cells x k h1) (cells z k h2),fun x hx=>?_,fun x k h _=>absurd h (by simp[z1h]),I.ok.hd,I.ok.frames,.inl rfl,fun b hb=>?_,I.bs,Nat.le_trans I.ok.bsz I.sz,fun b o e hb=>?_,fun b hb z=>?_,I.stack,I.stkFree⟩
 ·have hx':(relabel scope X.env).names.lookup x=some .cell∨(relabel scope X.env).names.lookup x=some .free:=hx
  have hm:∃k,(x,k)∈scope.names/\(k = .free∨k = .cell):=by
   rcases hx' with q | q <;>
   ·have m:=PySem.mem_of_lookup q
    unfold relabel at m
    simp only[List.mem_map] at m
    obtain⟨⟨n,k⟩,hm,e⟩:=m
    by_cases hc:(k==NameKind.free&&X.env.scope.kind == .function&&X.env.kindOf n==some .cell)=true
    ·rw[if_pos hc] at e
     have e1:n=x:=congrArg Prod.fst e
     subst e1
     rw[Bool.and_eq_true,Bool.and_eq_true] at hc
     exact⟨k,hm,.inl (y5d hc.1.1)⟩
    ·rw[if_neg hc] at e
     have e1:n=x:=congrArg Prod.fst e
     have e2:=congrArg Prod.snd e
     dsimp only at e2
     subst e1 e2
     exact⟨_,hm,by first | exact .inr rfl | exact .inl rfl⟩
  obtain⟨k,hm,hk⟩:=hm
  rcases hk with rfl | rfl
  ·obtain⟨⟨a,ea⟩,_⟩:=c.free _ hm rfl
   obtain⟨c',h1,_⟩:=z1a (z3o ea scope.names [] hm)
   exact⟨c',h1⟩
  ·exact absurd rfl (c.nocell _ hm)
 ·refine⟨Nat.ne_of_lt (Nat.lt_of_lt_of_le (ho b hb) hC),fun x k e=>(hf b hb).2.2.2.2.1 x k (cells x k e)⟩
 ·rcases(hf b hb).2.2.2.1 with z | z
  ·exact I.ok.noex b o e z
  ·exact absurd (Nat.lt_of_lt_of_le (Nat.lt_of_lt_of_le (Heap.lt_size e) I.ok.bsz) z) (Nat.lt_irrefl _)
 ·rcases List.mem_cons.mp (I.stkSub b z) with q | q
  ·exact(hf b hb).2.1 q
  ·exact(hf b hb).2.2.1 q
section
variable {X:Cx}{x0 y:Str}{scope:Scope}
theorem y3j{C Dd:Addr}{fp:List Addr}{pins:List (Addr×Obj)}{σ:St}{H₂:Hp}{s₂:Shared}{h₁:Heap}{tk:Nat}{oD:Obj}{m:Str->Option Value}(I:Inv X pins σ H₂ s₂)(c:CompOk2 X.N X.env x0 y scope)(hC:s₂.heap.objs.size<=C)(hD:s₂.heap.objs.size<=Dd)(hDC:Dd≠C)(hf:∀b∈fp,FpOk X pins H₂ b)(ho:∀b∈fp,b<s₂.heap.objs.size)
 (old:∀b o,s₂.heap.get? b=some o->h₁.get? b=some o) (hns:h₁.Ns C m) (hd:h₁.get? Dd=some oD) (hdd:∀v,oD.data ≠ .cell v) :
 Inv (z1h X x0 y scope C s₂ H₂ fp (X.pn++pins)) [(Dd,oD)] (none::none::σ) H₂ { s₂ with heap:=h₁,toks:=tk }:=by
 have cells:∀x k,(capt X.env scope.names []).lookup x=some k->X.env.cells.lookup x=some k:=fun x k e=>by
  rcases z2k scope.names [] (PySem.mem_of_lookup e) with q | q
  ·simp at q
  ·exact q
 have nstk:∀b,s₂.heap.objs.size<=b->b ∉ frs X.stack:=fun b hb z=>by
  rcases List.mem_cons.mp (I.stkSub b z) with q | q
  ·exact absurd (Nat.lt_of_lt_of_le I.lt (by rw[<-q];exact hb)) (Nat.lt_irrefl _)
  ·exact I.nofs hb q
 refine⟨y9y I c hC hf ho,rfl,I.bare,Un.kept old,⟨m,hns,fun i x v e1 e2 e3=>?_⟩,fun x k e=>?_,I.hok.fresh hC,fun x k e=>I.freeC x k (cells x k e),fun p hp=>?_,I.hok.kept old,?_⟩
 ·cases i with
  | zero=>simp at e2
  | succ i =>
  cases i with
  | zero=>simp at e2
  | succ i =>
    have e2':σ[i]? = some (some v):=by simpa using e2
    have e1':(X.N.map (fun z=>if z=x0∨z=y then ("":Str) else z))[i]? = some x:=by simpa [z1h] using e1
    rw[List.getElem?_map] at e1'
    cases hz:X.N[i]? with
    | none=>rw[hz] at e1';cases e1'
    | some z =>
      rw[hz] at e1'
      simp only[Option.map_some,Option.some.injEq] at e1'
      have e3':Vis (relabel scope X.env) x:=e3
      have look0:∀{k:NameKind},(relabel scope X.env).names.lookup x=some k->∃k',(x,k')∈scope.names/\(k'=k∨(k' = .free/\k = .cell)):=fun {k} q=>by
       have m':=PySem.mem_of_lookup q
       unfold relabel at m'
       simp only[List.mem_map] at m'
       obtain⟨⟨n,k0⟩,hm,e⟩:=m'
       by_cases hc:(k0==NameKind.free&&X.env.scope.kind == .function&&X.env.kindOf n==some .cell)=true
       ·rw[if_pos hc] at e
        have e1:n=x:=congrArg Prod.fst e
        have e2:=congrArg Prod.snd e
        dsimp only at e2
        subst e1 e2
        rw[Bool.and_eq_true,Bool.and_eq_true] at hc
        exact⟨k0,hm,.inr ⟨y5d hc.1.1,rfl⟩⟩
       ·rw[if_neg hc] at e
        have e1:n=x:=congrArg Prod.fst e
        have e2:=congrArg Prod.snd e
        dsimp only at e2
        subst e1 e2
        exact⟨_,hm,.inl rfl⟩
      have inames:∀k',(x,k')∈scope.names->x≠("":Str):=fun k' hm z=>by
       subst z
       obtain⟨c',h1,_⟩:=z1a hm
       rw[c.nil] at h1;cases h1
      have ne:x≠("":Str):=by
       rcases e3' with q | q | q<;>(obtain⟨k',hm,_⟩:=look0 q;exact inames k' hm)
      by_cases hzy:z=x0∨z=y
      ·rw[if_pos hzy] at e1';exact absurd e1'.symm ne
      ·rw[if_neg hzy] at e1'
       subst e1'
       have fr:(z,NameKind.free)∈scope.names:=by
        rcases e3' with q | q | q
        ·obtain⟨k',hm,hk⟩:=look0 q
         rcases hk with rfl | ⟨_,hk⟩
         ·exact absurd (c.only z (List.mem_of_getElem? hz) (c.names _ hm rfl)) hzy
         ·cases hk
        ·obtain⟨k',hm,hk⟩:=look0 q
         rcases hk with rfl | ⟨rfl,_⟩
         ·exact absurd rfl (c.nocell _ hm)
         ·exact hm
        ·obtain⟨k',hm,hk⟩:=look0 q
         rcases hk with rfl | ⟨_,hk⟩
         ·exact hm
         ·cases hk
       obtain⟨⟨ca,eca⟩,hv⟩:=c.free _ fr rfl
       obtain⟨m0,hn0,hl0⟩:=I.loc
       obtain⟨u,ru,lk⟩:=hl0 i z v hz e2' (.inr hv)
       refine⟨u,ru,?_⟩
       rcases lk with ⟨q,_⟩ | ⟨_,k,ek,hk⟩
       ·exfalso
        have q':X.env.scope.names.lookup z=some .local:=q
        rcases hv with w | w<;>(rw[q'] at w;cases w)
       ·obtain⟨c',h1,_⟩:=z1a (z3o ek scope.names [] fr)
        have h2:=cells z c' h1
        rw[ek] at h2;cases h2
        refine .inr ⟨?_,k,h1,?_⟩
        ·rcases e3' with q | q | q
         ·exfalso
          obtain⟨k',hm,hk'⟩:=look0 q
          rcases hk' with rfl | ⟨_,hk'⟩
          ·exact hzy (c.only z (List.mem_of_getElem? hz) (c.names _ hm rfl))
          ·cases hk'
         ·exact .inl q
         ·exact .inr q
        ·obtain⟨o,ho',hd'⟩:=hk
         exact⟨o,old _ _ ho',hd'⟩
 ·obtain⟨v,o,ho',hd'⟩:=I.cell x k (cells x k e)
  exact⟨v,o,old _ _ ho',hd'⟩
 ·rcases List.mem_append.mp hp with q | q
  ·obtain⟨h1,h2,h3,h4,h5⟩:=I.pin p q
   refine⟨old _ _ h1,h2,Nat.ne_of_lt (Nat.lt_of_lt_of_le (Heap.lt_size h1) hC),fun z=>?_,h5⟩
   rcases List.mem_cons.mp (I.stkSub p.1 z) with q' | q'
   ·exact h3 q'
   ·exact h4 q'
  ·have e:p=(Dd,oD):=by simpa using q
   subst e
   exact⟨hd,I.hok.fresh hD,hDC,nstk Dd hD,hdd⟩
 ·show σ.length+1+1=(x0::y::X.N.map _).length
  rw[List.length_cons,List.length_cons,List.length_map,I.len]
structure PC2 (X:Cx) (x0 y:Str) (scope:Scope) (ifs:List Expr) (elt:Expr) (f:D->D->G->R (Option D)):Prop where
 run:∀(C:Addr) (s₂:Shared) (H₂:Hp) (fp:List Addr) (pn:List (Addr×Obj)) (pins:List (Addr×Obj)) (s:Shared) (σ:St) (H:Hp) (F:List Addr) (Γ:G) (d d2:D),Inv (z1h X x0 y scope C s₂ H₂ fp pn) pins σ H s->FOk H F->Rel X.K H F (.ro d :: .ro d2::Γ) σ->(∃o,f d d2 Γ = .ok o) ->
  wpAny (model X.prog X.w) X.A (forIn ifs true fun c r=>if r=true then do let ok <-isTrue c (compEnvC scope (capt X.env scope.names []) C X.env) (eval c (compEnvC scope (capt X.env scope.names []) C X.env));pure (ForInStep.yield ok) else pure (ForInStep.yield r)) (fun ok s₃ =>
   if ok=true then wpAny (model X.prog X.w) X.A (eval elt (compEnvC scope (capt X.env scope.names []) C X.env)) (fun u s₄=>∃e v H',f d d2 Γ = .ok (some e)/\Inv (z1h X x0 y scope C s₂ H₂ fp pn) pins σ H' s₄/\RelV v u/\Same H H'/\Is X.K (hid F H') e v) (fun _ _=>False) s₃
   else f d d2 Γ = .ok none/\∃H',Inv (z1h X x0 y scope C s₂ H₂ fp pn) pins σ H' s₃/\Same H H') (fun _ _=>False) s
theorem z6t{elt:Expr}{ge:G->R D}(he:∀C s₂ H₂ fp pn,PDr (z1h X x0 y scope C s₂ H₂ fp pn) elt ge):PC2 X x0 y scope [] elt (z6v ge):=by
 refine⟨fun C s₂ H₂ fp pn pins s σ H F Γ d d2 I fo rl ⟨o,eo⟩=>?_⟩
 refine wpAny_tests_nil ?_
 rw[if_pos rfl]
 have hne:ge (.ro d :: .ro d2::Γ) ≠ .no:=fun z=>by unfold z6v at eo;rw[z] at eo;cases eo
 refine wpAny_mono ((he C s₂ H₂ fp pn).run pins s σ H F (.ro d :: .ro d2::Γ) I fo rl hne) (fun u s4 ⟨e,v,H',e1,I',rv,S,iv⟩=>⟨e,v,H',R.step e1 _,I',rv,S,iv⟩) fun x s' ⟨c,H',e1,_⟩=>?_
 unfold z6v at eo;rw[e1] at eo;cases eo
noncomputable def JC2(K:PySem.W.Frag)(H:Hp)(F:List Addr)(J:It)(ds:List D):Prop:=∀H1,Same H H1 ->
 (∀i:Nat,i<ds.length->J.go i H1/\∀v H2,J.yld i H1 v H2->Same H1 H2/\∃d1 d2 q v1 v2,ds[i]? = some (.tup [d1,d2])/\v = .ref q/\SqT K H2 q [v1,v2]/\Is K (hid F H2) d1 v1/\Is K (hid F H2) d2 v2)/\J.stop ds.length H1
theorem y9a{prog:Program}{w:World}{A:Around}{Z:Result->Shared->Prop}{s0:Shared}{elt iter:Expr}{es ifs:List Expr}{kt}{pt pos:Pos}{scope:Scope}{it acc:Value}{env:Env}(K:Nat->Shared->Prop)
 (one:∀n s,K n s->wpAny (model prog w) A (pyNext it) (fun r s1=>match r with
   | some v=>wpAny (model prog w) A (letOwnedTupleGo (.Tuple es kt pt) it v) (fun _ s2=>wpAny (model prog w) A (assign (.Tuple es kt pt) env v) (fun _ s3 =>
      wpAny (model prog w) A (forIn ifs true fun c r=>if r=true then do let ok <-isTrue c env (eval c env);pure (ForInStep.yield ok) else pure (ForInStep.yield r)) (fun ok s4 =>
       if ok=true then wpAny (model prog w) A (eval elt env) (fun x s5 =>
        wpAny (model prog w) A (call (.builtin "list.append") [acc,x]) (fun _ s6=>∃m,m<n/\K m s6) (notedBy (model prog w) A env fun e s'=>Z (.error e) s') s5) (notedBy (model prog w) A env fun e s'=>Z (.error e) s') s4
       else ∃m,m<n/\K m s4) (notedBy (model prog w) A env fun e s'=>Z (.error e) s') s3) (notedBy (model prog w) A env fun e s'=>Z (.error e) s') s2) (notedBy (model prog w) A env fun e s'=>Z (.error e) s') s1
   | none=>Z (.ok .next) s1) (notedBy (model prog w) A env fun e s'=>Z (.error e) s') s)
 (n:Nat) (h0:K n s0):codeAny (model prog w) A (.compLoop (.ListComp elt [⟨.Tuple es kt pt,iter,ifs,0⟩] scope pos) 0 it acc env) Z s0:=by
 refine codeAny_loop rfl K (fun n s hK=>?_) n h0
 show wpAny _ A ((compTurn (.ListComp elt [⟨.Tuple es kt pt,iter,ifs,0⟩] scope pos) 0 it acc env).onRaise (fun x=>do noteFrame x env;theTreesLotGoes x)) _ _ s
 refine wpAny_noted ?_
 rw[compTurn_list]
 refine wpAny_bind (wpAny_standAt (wpAny_bind (wpAny_mono (one n s hK) (fun r s1 q1=>?_) fun _ _ q=>q)))
 cases r with
 | some v =>
   refine wpAny_bind (wpAny_mono q1 (fun _ s2 q2=>?_) fun _ _ q=>q)
   refine wpAny_bind (wpAny_mono q2 (fun _ s3 q3=>wpAny_bind (wpAny_mono q3 (fun ok s4 q4=>?_) fun _ _ q=>q)) fun _ _ q=>q)
   cases ok with
   | true=>exact wpAny_bind (wpAny_bind (wpAny_mono q4 (fun x s5 q5=>wpAny_bind (wpAny_mono q5 (fun _ s6 q6=>wpAny_pure (wpAny_pure ⟨rfl,q6⟩)) fun _ _ q=>q)) fun _ _ q=>q))
   | false=>exact wpAny_pure ⟨rfl,q4⟩
 | none=>exact wpAny_pure q1
theorem z9f{elt iter:Expr}{p0 px pt pos:Pos}{kt}{ifs:List Expr}{f:D->D->G->R (Option D)}{pins:List (Addr×Obj)}{σ:St}{H₂:Hp}{s₂:Shared}{F:List Addr}{Γ:G}{items:List D}{it:Addr}{fp:List Addr}{tn:Nat->Heap->Prop}{J:It}{E:Value->Shared->Prop}{total:List D}
 (hp:PC2 X x0 y scope ifs elt f) (c:CompOk2 X.N X.env x0 y scope) (hN:X.N.Nodup) (hcalm:X.calm=true) (I:Inv X pins σ H₂ s₂) (fo:FOk H₂ F) (rl:Rel X.K H₂ F Γ σ) (T:Turn X.prog X.w X.K (.Tuple [.Name x0 p0,.Name y px] kt pt) J fp it tn) (t0:tn 0 s₂.heap) (hf:∀b∈fp,FpOk X pins H₂ b) (hj:JC2 X.K H₂ F J items)
 (ht:z0p (z9v f Γ) items [] = .ok total) (hl:items.length<=100000) {RR:Value->Addr->Result->Shared->Prop}
 (hR:∀(Dd C:Addr) (xs:List V) (H':Hp) (m:Str->Option Value) (s':Shared),s₂.heap.objs.size<=C->Dd≠C->H₂ Dd=none->H' Dd=none->H' C=none->s₂.heap.objs.size<=Dd->Same H₂ H'->IsAll X.K (hid F H') total xs->Inv X pins σ (upd H' Dd (.lst xs)) s'->s'.heap.Ns C m->RR (.ref Dd) C (.ok .next) s') :
 wpAny (model X.prog X.w) X.A (newList []) (fun acc s₃=>wpAny (model X.prog X.w) X.A (newFunctionEnv scope X.env.globals (capt X.env scope.names []) [] X.env.qual none .none (some X.env)) (fun cenv s₄ =>
  codeAny (model X.prog X.w) X.A (.compStart (.ListComp elt [⟨.Tuple [.Name x0 p0,.Name y px] kt pt,iter,ifs,0⟩] scope pos) 0 (.ref it) acc { cenv with scope:=relabel scope X.env }) (RR acc cenv.locals) s₄) E s₃) E s₂:=by
 have ho:∀b∈fp,b<s₂.heap.objs.size:=fun b hb=>by obtain⟨o,e,_⟩:=T.obj _ _ t0 b hb;exact Heap.lt_size e
 refine wpAny_newObj_type (wpAny_newFunctionEnv c.nocell (by intro y hy;simp at hy) (fun h₁ hns₁ hsb₁=>?_) c.kind)
 dsimp only at hns₁ hsb₁ ⊢
 generalize hH2:s₂.heap.push { cls:=.type "list",dict:=none,data:=.seq ([]:List Value).toArray }=H2 at hns₁ hsb₁ ⊢
 have hCs:H2.objs.size=s₂.heap.objs.size+1:=by rw[<-hH2,Heap.size_push]
 generalize hCC:H2.objs.size=C at hns₁ hsb₁ hCs ⊢
 generalize hDD:s₂.heap.objs.size=Dd at hCs ⊢
 obtain⟨⟨hDC,hC,hD⟩,below⟩:=sb2 hCs hDD
 have old:∀b o,s₂.heap.get? b=some o->h₁.get? b=some o:=fun b o e=>by
  refine hsb₁.extBut b o (below b (Heap.lt_size e)).1 ?_
  exact Heap.get?_push_of_some _ (hH2 ▸ Heap.get?_push_of_some _ e)
 have hacc:h₁.get? Dd=some { cls:=.type "list",dict:=none,data:=.seq ([]:List Value).toArray }:=by
  refine hsb₁.extBut _ _ hDC ?_
  refine Heap.get?_push_of_some _ ?_
  rw[<-hH2,<-hDD]
  exact Heap.get?_push_size _ rfl
 have J0:∀tk,Inv (z1h X x0 y scope C s₂ H₂ fp (X.pn++pins)) [(Dd,{ cls:=.type "list",dict:=none,data:=.seq ([]:List Value).toArray })] (none::none::σ) H₂ { s₂ with heap:=h₁,toks:=tk }:=fun tk =>
  y3j I c hC hD hDC hf ho old hns₁ hacc (fun v z=>nomatch z)
 have t1:tn 0 h₁:=T.keep _ _ _ t0 fun b hb o e=>old b o e
 have fpY:∀{H':Hp} {o:Obj},(∀b∈fp,H' b=none)->∀b∈fp,FpOk (z1h X x0 y scope C s₂ H₂ fp (X.pn++pins)) [(Dd,o)] H' b:=fun {H' o} hn b hb=>by
  obtain⟨f0,f1,f2,f3,f4,f5⟩:=hf b hb
  have lt:=ho b hb
  refine⟨hn b hb,(below b lt).1,fun z=>?_,.inl hb,fun x k e=>?_,fun p hp'=>?_⟩
  ·rcases List.mem_cons.mp (I.stkSub b z) with q | q
   ·exact f1 q
   ·exact f2 q
  ·rcases z2k scope.names [] (PySem.mem_of_lookup e) with q | q
   ·simp at q
   ·exact f4 x k q
  ·rcases List.mem_append.mp hp' with q | q
   ·exact f5 p q
   ·have e:p=(Dd,o):=by simpa using q
    subst e
    exact Ne.symm (below b lt).2
 have NdY:(z1h X x0 y scope C s₂ H₂ fp (X.pn++pins)).N.Nodup:=by
  show(x0::y::X.N.map (fun z=>if z=x0∨z=y then ("":Str) else z)).Nodup
  have ne0:∀q:Str,scope.names.lookup q=some .local->q ∉ X.N.map (fun z=>if z=x0∨z=y then ("":Str) else z)∨True:=fun _ _=>.inr trivial
  have out:∀q:Str,scope.names.lookup q=some .local->(q=x0∨q=y)->q ∉ X.N.map (fun z=>if z=x0∨z=y then ("":Str) else z):=fun q hq hqq z=>by
   obtain⟨z',hz,e⟩:=List.mem_map.mp z
   by_cases w':z'=x0∨z'=y
   ·rw[if_pos w'] at e
    subst e
    rw[c.nil] at hq;cases hq
   ·rw[if_neg w'] at e
    subst e
    exact w' hqq
  refine List.nodup_cons.mpr ⟨fun z=>?_,List.nodup_cons.mpr ⟨out y c.loc.2.1 (.inr rfl),?_⟩⟩
  ·rcases List.mem_cons.mp z with e | e
   ·exact c.loc.2.2.1 e
   ·exact out x0 c.loc.1 (.inl rfl) e
  ·have inj:∀a∈X.N,∀b∈X.N,(if a=x0∨a=y then ("":Str) else a)=(if b=x0∨b=y then ("":Str) else b)->a=b∨((a=x0∨a=y)/\(b=x0∨b=y)):=fun a ha b hb e=>by
    by_cases qa:a=x0∨a=y
    ·by_cases qb:b=x0∨b=y
     ·exact .inr ⟨qa,qb⟩
     ·rw[if_pos qa,if_neg qb] at e;exact absurd e.symm ((c.none.resolve_right fun z=>qa.elim (fun e=>z.1 (e ▸ ha)) fun e=>z.2 (e ▸ ha)) b hb)
    ·by_cases qb:b=x0∨b=y
     ·rw[if_neg qa,if_pos qb] at e;exact absurd e ((c.none.resolve_right fun z=>qb.elim (fun e=>z.1 (e ▸ hb)) fun e=>z.2 (e ▸ hb)) a ha)
     ·rw[if_neg qa,if_neg qb] at e;exact .inl e
   have gen:∀l:List Str,(∀a∈l,a∈X.N)->l.Nodup->(l.map (fun z=>if z=x0∨z=y then ("":Str) else z)).Nodup:=by
    intro l
    induction l with
    | nil=>intro _ _;exact List.nodup_nil
    | cons a l ih =>
      intro hs nd
      obtain⟨n1,n2⟩:=List.nodup_cons.mp nd
      rw[List.map_cons]
      refine List.nodup_cons.mpr ⟨fun z=>?_,ih (fun b hb=>hs b (List.mem_cons_of_mem _ hb)) n2⟩
      obtain⟨b,hb,e⟩:=List.mem_map.mp z
      rcases inj b (hs b (List.mem_cons_of_mem _ hb)) a (hs a List.mem_cons_self) e with q | q
      ·exact n1 (q ▸ hb)
      ·have ha:=hs a List.mem_cons_self
       have hb':=hs b (List.mem_cons_of_mem _ hb)
       have hab:b≠a:=fun z=>n1 (z ▸ hb)
       have both:x0∈X.N/\y∈X.N:=by
        rcases q.1 with rfl | rfl<;>rcases q.2 with rfl | rfl
        ·exact absurd rfl hab
        ·exact⟨hb',ha⟩
        ·exact⟨ha,hb'⟩
        ·exact absurd rfl hab
       rcases c.loc.2.2.2 with z | z
       ·exact z both.1
       ·exact z both.2
   exact gen X.N (fun _ h=>h) hN
 let L:Nat->Shared->Prop:=fun n s'=>∃(i:Nat) (H':Hp) (o o2:Option V) (xs:List V) (its:List Value) (acc:List D) (k:Nat),n=items.length-i/\i<=items.length/\Inv (z1h X x0 y scope C s₂ H₂ fp (X.pn++pins)) [(Dd,{ cls:=.type "list",dict:=none,data:=.seq its.toArray k })] (o::o2::σ) H' s' /\
  Same H₂ H'/\(∀b∈fp,H' b=none)/\tn i s'.heap/\Vals xs its/\acc.length<=i/\IsAll X.K (hid F H') acc xs/\z0p (z9v f Γ) (items.drop i) acc = .ok total
 have loop:∀s₄:Shared,L items.length s₄->codeAny (model X.prog X.w) X.A (.compLoop (.ListComp elt [⟨.Tuple [.Name x0 p0,.Name y px] kt pt,iter,ifs,0⟩] scope pos) 0 (.ref it) (.ref Dd) (compEnvC scope (capt X.env scope.names []) C X.env)) (RR (.ref Dd) C) s₄:=fun s₄ h4=>by
  refine y9a L (fun n s' hL=>wpAny_mono (E:=fun _ _=>False) ?_ (fun _ _ q=>q) fun _ _ z=>z.elim) items.length h4
  obtain⟨i,H',o,o2,xs,its,acc,k,en,hi,J',S',fr',tn',rv,hal,ia,eg⟩:=hL
  obtain⟨jgo,jstop⟩:=hj H' S'
  have hpD:=J'.pin (Dd,{ cls:=.type "list",dict:=none,data:=.seq its.toArray k }) (List.mem_append_right _ (by simp))
  have hxl:xs.length<=100000:=by rw[<-ia.length];exact Nat.le_trans hal (Nat.le_trans hi hl)
  have hsl:(100000:Nat)<=sizeLine:=by rw[sizeLine_eq];decide
  by_cases hlt:i<items.length
  ·obtain⟨go,yl⟩:=jgo i hlt
   refine thn (T.item (z1h X x0 y scope C s₂ H₂ fp (X.pn++pins)) rfl rfl rfl hcalm i _ s' _ H' (fun _ _=>False) J' (fpY fr') tn' go) fun r s2 ⟨u,hr,h1⟩=>?_
   subst hr
   refine wpAny_mono h1 (fun _ s2 ⟨x,H5,J5,r5,y5,st5,fr5⟩=>?_) fun _ _ z=>z.elim
   obtain⟨S5,d1,d2,q,v1,v2,ed,rfl,sq5,iv1,iv2⟩:=yl x H5 y5
   have J5':=J5.pinned (fpY fr5) (T.obj _ _ st5)
   have S6:=S'.trans S5
   have hdrop:items.drop i = .tup [d1,d2]::items.drop (i+1):=by
    rw[List.drop_eq_getElem_cons hlt]
    have:items[i] = .tup [d1,d2]:=by
     have:=List.getElem?_eq_getElem hlt
     rw[ed] at this;exact(Option.some.inj this).symm
    rw[this]
   rw[hdrop] at eg
   have hfo:∃od,f d1 d2 Γ = .ok od/\(match od with | some e=>z0p (z9v f Γ) (items.drop (i+1)) (acc++[e]) | none=>z0p (z9v f Γ) (items.drop (i+1)) acc) = .ok total:=by
    unfold z0p at eg
    have ep:z9v f Γ (.tup [d1,d2])=f d1 d2 Γ:=rfl
    rw[ep] at eg
    cases q:f d1 d2 Γ with
    | no=>rw[q] at eg;cases eg
    | er c'=>rw[q] at eg;cases eg
    | ok od =>
      refine⟨od,rfl,?_⟩
      rw[q] at eg
      cases od with
      | none=>exact eg
      | some e=>exact eg
   obtain⟨od,eod,etot⟩:=hfo
   have hpg:PG (z1h X x0 y scope C s₂ H₂ fp (X.pn++pins)).nox (.Tuple [.Name x0 p0,.Name y px] kt pt) (L2.gTup X.K 2 (L2.gCons (y1q 0) (L2.gCons (y1q 1) L2.gNil))) :=
    x0i (X:=(z1h X x0 y scope C s₂ H₂ fp (X.pn++pins)).nox) hcalm (z7l (z5t (X:=(z1h X x0 y scope C s₂ H₂ fp (X.pn++pins)).nox) NdY rfl (.inl (lookup_relabel_local c.loc.1)) (.inr (lookup_relabel_local c.loc.1))) (z7l (z5t (X:=(z1h X x0 y scope C s₂ H₂ fp (X.pn++pins)).nox) NdY rfl (.inl (lookup_relabel_local c.loc.2.1)) (.inr (lookup_relabel_local c.loc.2.1))) y6m rfl) rfl) rfl rfl
   refine wpAny_mono (hpg _ s2 (o::o2::σ) H5 (.ref q) u (fun σ' H'=>σ'=some v1::some v2::σ/\H'=H5) (J5'.wish _) r5 ⟨q,[v1,v2],rfl,sq5,rfl,v1,[v2],rfl,v2,[],rfl,rfl,rfl,rfl⟩) (fun _ s3 ⟨σ6,H6,J6,e6,e6'⟩=>?_) fun _ _ z=>z.elim
   subst e6 e6'
   have J6':=J6.unwish
   have fo6:=fo.same S6
   have back:∀{s5:Shared} {H7:Hp} {σ7:St},Inv (z1h X x0 y scope C s₂ H₂ fp (X.pn++pins)) ([(Dd,{ cls:=.type "list",dict:=none,data:=.seq its.toArray k })]++z7b fp s2.heap) σ7 H7 s5->tn (i+1) s5.heap/\(∀b∈fp,H7 b=none):=fun {s5 H7 σ7} J7=>by
    refine⟨T.keep _ _ _ st5 fun b hb o' e=>(J7.pin (b,o') (List.mem_append_right _ (List.mem_append_right _ (z2a hb e)))).1,fun b hb=>?_⟩
    obtain⟨o',e,dd⟩:=T.obj _ _ st5 b hb
    exact(J7.pin (b,o') (List.mem_append_right _ (List.mem_append_right _ (z2a hb e)))).2.1
   refine wpAny_mono (hp.run C s₂ H₂ fp (X.pn++pins) _ s3 _ H6 F Γ d1 d2 J6' fo6 (z7k (z7k (rl.same S6) iv2) iv1) ⟨od,eod⟩) (fun ok s4 h4=>?_) fun _ _ z=>z.elim
   cases ok with
   | false =>
     rw[if_neg Bool.false_ne_true] at h4 ⊢
     obtain⟨ef,H7,J7,S7⟩:=h4
     rw[eod] at ef;cases ef
     obtain⟨tn7,fr7⟩:=back J7
     exact⟨items.length-(i+1),sb1 en hlt,i+1,H7,some v1,some v2,xs,its,acc,k,rfl,hlt,J7.unpinned,S6.trans S7,fr7,tn7,rv,Nat.le_succ_of_le hal,ia.same (z1i (S5.trans S7)),etot⟩
   | true =>
     rw[if_pos rfl] at h4 ⊢
     refine wpAny_mono h4 (fun u7 s5 ⟨e,v7,H7,ef,J7,r7,S7,iv7⟩=>?_) fun _ _ z=>z.elim
     rw[eod] at ef;cases ef
     obtain⟨tn7,fr7⟩:=back J7
     have J8:=J7.unpinned
     have hpD7:=J8.pin (Dd,{ cls:=.type "list",dict:=none,data:=.seq its.toArray k }) (List.mem_append_right _ (by simp))
     have hlen:its.length=acc.length:=by rw[<-rv.length,<-ia.length]
     refine wpAny_list_append_plain (l:=Dd) (items:=its.toArray) (x:=u7) ⟨k,hpD7.1⟩ (fun h' hl' hs'=>?_) (by rw[List.size_toArray,<-rv.length];exact Nat.le_trans hxl hsl)
     obtain⟨k',hk'⟩:=hl'
     have epush:its.toArray.push u7=(its++[u7]).toArray:=by simp
     rw[epush] at hk'
     have J9:Inv (z1h X x0 y scope C s₂ H₂ fp (X.pn++pins)) [] (some v1::some v2::σ) H7 s5:=J8.pins_of fun p hp'=>by simp at hp'
     have J10:Inv (z1h X x0 y scope C s₂ H₂ fp (X.pn++pins)) [] (some v1::some v2::σ) H7 { s5 with heap:=h' }:=J9.turned (t':=s5.toks) (it:=Dd) (fun b o' hb e'=>(hs'.2 b hb).trans e') hpD7.2.1 hDC (.inr hD) (fun x' k'' e' z=>by
      rcases z2k scope.names [] (PySem.mem_of_lookup e') with q | q
      ·simp at q
      ·obtain⟨v',o',ho',_⟩:=I.cell x' k'' q
       exact(below k'' (Heap.lt_size ho')).2 z) (fun p hp' z=>by
      rcases List.mem_append.mp hp' with q | q
      ·obtain⟨h1',_⟩:=I.pin p q
       exact(below p.1 (Heap.lt_size h1')).2 z
      ·simp at q)
     have J11:Inv (z1h X x0 y scope C s₂ H₂ fp (X.pn++pins)) [(Dd,{ cls:=.type "list",dict:=none,data:=.seq (its++[u7]).toArray k' })] (some v1::some v2::σ) H7 { s5 with heap:=h' }:=J10.pins_of fun p hp'=>by
      have e':p=(Dd,{ cls:=.type "list",dict:=none,data:=.seq (its++[u7]).toArray k' }):=by simpa using hp'
      subst e'
      exact⟨hk',hpD7.2.1,hDC,hpD7.2.2.2.1,fun v z=>nomatch z⟩
     refine⟨items.length-(i+1),sb1 en hlt,i+1,H7,some v1,some v2,xs++[v7],its++[u7],acc++[e],k',rfl,hlt,J11,S6.trans S7,fr7,T.keep _ _ _ tn7 fun b hb o' e'=>(hs'.2 b (below b (ho b hb)).2).trans e',rv.append (.cons r7 .nil),by rw[List.length_append,List.length_singleton];exact Nat.succ_le_succ hal,(ia.same (z1i (S5.trans S7))).append (IsAll.cons iv7 IsAll.nil),etot⟩
  ·have hi':i=items.length:=Nat.le_antisymm hi (Nat.le_of_not_lt hlt)
   subst hi'
   refine thn (T.done (z1h X x0 y scope C s₂ H₂ fp (X.pn++pins)) rfl rfl rfl hcalm _ _ s' _ H' (fun _ _=>False) J' (fpY fr') tn' jstop) fun r s1 ⟨hr,J1⟩=>?_
   subst hr
   have hpD1:=J1.pin (Dd,{ cls:=.type "list",dict:=none,data:=.seq its.toArray k }) (List.mem_append_right _ (by simp))
   rw[List.drop_length] at eg
   have:acc=total:=by unfold z0p at eg;cases eg;rfl
   subst this
   obtain⟨mC,hnC,_⟩:=J1.loc
   exact hR Dd C xs H' mC s1 hC hDC (I.hok.fresh hD) hpD1.2.1 J1.free hD S' ia (y5n I J1 hD hpD1.2.1 hpD1.1 rv (Nat.le_trans hxl hsl) hf) hnC
 have L0:∀tk,L items.length { s₂ with heap:=h₁,toks:=tk }:=fun tk=>⟨0,H₂,none,none,[],[],[],_,rfl,Nat.zero_le _,J0 tk,.refl _,fun b hb=>(hf b hb).1,t1,.nil,Nat.le_refl _,IsAll.nil,by rw[List.drop_zero];exact ht⟩
 exact codeAny_compStart_list (loop _ (L0 _)) (T.self _ 0 _ _ _ t1 (loop _ (L0 _)))
theorem z6h{elt iter:Expr}{p0 px pt pos:Pos}{kt}{ifs:List Expr}{f:D->D->G->R (Option D)}{gi:G->R (List D)}(hi:PIx JC2 X (.Tuple [.Name x0 p0,.Name y px] kt pt) iter gi)(hp:PC2 X x0 y scope ifs elt f)(hN:X.N.Nodup)(hcalm:X.calm=true)
 (chk:z7r X.N X.env x0 y scope=true:=by rfl) (hclos:closureFor scope X.env=pure (capt X.env scope.names []):=by rfl) (hs:∀x,foldedSetIterable iter X.env x=pure x:=by intro _;rfl) :
 PF X (.ListComp elt [⟨.Tuple [.Name x0 p0,.Name y px] kt pt,iter,ifs,0⟩] scope pos) (z4b gi f):=by
 refine⟨fun pins s σ H F Γ I fo rl hg=>?_⟩
 have c:=z9e chk
 rw[eval_ListComp]
 refine wpAny_comprehension_free (use:=none) rfl hs hclos c.kind c.names (wpAny_mono (hi.run pins s σ H F Γ I fo rl (R.left hg)) (fun xv s₁ h₁=>wpAny_mono h₁ (fun itv s₂ h₂=>?_) fun _ _ x=>x.bind _) fun _ _ x=>x.bind _)
 obtain⟨items,it,fp,tn,J,H₂,e1,rfl,I2,S2,T,t0,fk,jc⟩:=h₂
 have hgx:=R.next hg e1
 obtain⟨hl,e2⟩:=R.guard_ne hgx
 have hne:z0p (z9v f Γ) items [] ≠ .no:=by
  have:=R.next hg e1
  rw[e2] at this;exact this
 obtain⟨total,et⟩:=z3y hne
 refine z9f (RR:=fun acc C=>compPost (model X.prog X.w) X.A _ none _ acc C) hp c hN hcalm I2 (fo.same S2) (rl.same S2) T t0 fk jc et hl ?_
 intro Dd C xs H' m s' hC hDC hn hn' hnC hD S' ia I' hnsC
 refine⟨m,hnsC,fun h'' hs''=>?_⟩
 have nlt:∀{b:Addr} {o:Obj},s₂.heap.get? b=some o->b≠C:=fun e=>Nat.ne_of_lt (Nat.lt_of_lt_of_le (Heap.lt_size e) hC)
 have I'':Inv X pins σ (upd H' Dd (.lst xs)) { s' with heap:=h'' }:=I'.turned (t':=s'.toks) (it:=C) (fun b o hb e=>hs''.extBut b o hb e) (by rw[z0l (Ne.symm hDC)];exact hnC) (Nat.ne_of_gt (Nat.lt_of_lt_of_le I2.lt hC)) (.inr (Nat.le_trans I2.sz hC))
  (fun x k e=>by obtain⟨v,o,ho,_⟩:=I2.cell x k e;exact nlt ho) (fun p hp'=>nlt (I2.pin p hp').1)
 have S3:=z1e hn' (.lst xs)
 refine⟨total,Dd,xs,_,(R.step e1 _).trans (e2.trans et),I'',rfl,(S2.trans S').trans S3,S2.free hn,z0n,ia.same fun b o hb=>?_⟩
 obtain⟨z1,z2⟩:=z2f hb
 have hbl:b≠Dd:=z0k z2 hn'
 rw[z1o fun z=>(List.mem_cons.mp z).elim hbl z1,z0l hbl]
 exact z2
end
section
variable {prog:Program}{w:World}{A:Around}{E:Value->Shared->Prop}{s:Shared}
theorem x1w{it t:Addr}{i:Nat}{items:Array Value}{x:Value}{Q:Value->Shared->Prop}(hit:s.heap.IsTupleIter it t i)(ht:s.heap.IsTuple t items)(hx:items[i]? = some x)(hQ:∀h',h'.IsTupleIter it t (i+1)->Heap.SameBut it s.heap h'->Q x { s with heap:=h' }) :
 wpAny (model prog w) A (Builtin.SmallTypes.nextOf (.ref it)) Q E s:=by
 obtain⟨⟨o,ho,hc,hd⟩,⟨ol,hol,_,nl,hdl⟩⟩:=And.intro hit ht
 refine wpAny_bind (wpAny_callSpecial?_slot (name:=Str.ofString "__next__") hit.typeIs F.slot_tuple_iterator_next (wpAny_call_entry F.slot_tuple_iterator_next hit.typeIs F.entry_tuple_iterator_next (show wpAny _ _ (field (.ref it) 0>>=_) _ _ s from wpAny_bind (wpAny_field ho hd (x:=.ref t) rfl (show wpAny _ _ (if (Value.ref t==Value.none)=true then _ else _) _ _ s from ?_))) (F.args_tuple_iterator_next_1 _)))
 rw[if_neg (by exact fun z=>Bool.false_ne_true z)]
 refine(show wpAny _ _ (field (.ref it) 1>>=_) _ _ s from wpAny_bind (wpAny_field ho hd (x:=.int i 0) rfl (show wpAny _ _ (seqItems? (.ref t)>>=_) _ _ s from wpAny_bind (wpAny_seqItems hol hdl ?_))))
 simp only[Int.toNat_natCast,hx]
 refine wpAny_bind (wpAny_setField ho hd (by simp) (wpAny_pure ⟨x,rfl,wpAny_pure (hQ _ ⟨_,Heap.get?_update_self _ ho (Obj.isFreed_of_fields (Obj.data_mapFields hd _)),(Obj.cls_mapFields ..).trans hc,by rw[Obj.data_mapFields hd];simp[rawInt]⟩ (Heap.SameBut.update ..))⟩))
theorem y2s{it t:Addr}{i:Nat}{items:Array Value}{Q:Value->Shared->Prop}(hh:A.handled=none)(hit:s.heap.IsTupleIter it t i)(ht:s.heap.IsTuple t items)(hx:items[i]? = none)
 (hE:∀h' e,Heap.ExtBut it s.heap h'->(∃o,h'.get? e=some o/\o.cls = .type "StopIteration")->E (.ref e) { s with heap:=h' }):wpAny (model prog w) A (Builtin.SmallTypes.nextOf (.ref it)) Q E s:=by
 obtain⟨⟨o,ho,hc,hd⟩,⟨ol,hol,_,nl,hdl⟩⟩:=And.intro hit ht
 refine wpAny_bind (wpAny_callSpecial?_slot (name:=Str.ofString "__next__") hit.typeIs F.slot_tuple_iterator_next (wpAny_call_entry F.slot_tuple_iterator_next hit.typeIs F.entry_tuple_iterator_next (show wpAny _ _ (field (.ref it) 0>>=_) _ _ s from wpAny_bind (wpAny_field ho hd (x:=.ref t) rfl (show wpAny _ _ (if (Value.ref t==Value.none)=true then _ else _) _ _ s from ?_))) (F.args_tuple_iterator_next_1 _)))
 rw[if_neg (by exact fun z=>Bool.false_ne_true z)]
 refine(show wpAny _ _ (field (.ref it) 1>>=_) _ _ s from wpAny_bind (wpAny_field ho hd (x:=.int i 0) rfl (show wpAny _ _ (seqItems? (.ref t)>>=_) _ _ s from wpAny_bind (wpAny_seqItems hol hdl ?_))))
 simp only[Int.toNat_natCast,hx]
 refine wpAny_bind (wpAny_rule (wpAny_bind (wpAny_setField ho hd (by simp) (show wpAny _ _ (newExc (.type "StopIteration") []>>=_) _ _ _ from wpAny_bind ?_))))
 simp only[newExc,newTuple]
 refine wpAny_bind (wpAny_newObj_type (wpAny_bind (m:=firstArgMember _ _) (wpAny_of_eq (a:=Value.none) (by first | rfl | (simp only[firstArgMember];rfl)) (wpAny_newObj_type ?_ (by size_fits)))) (by size_fits))
 simp only[raiseNew]
 refine wpAny_bind (wpAny_handled ?_)
 first | rw[show A.in1.handled=none from hh] | rw[hh]
 exact wpAny_bind (wpAny_pure (wpAny_throw (hE _ _ (((Heap.SameBut.update ..).extBut.push _).push _) ⟨_,Heap.get?_push_size _ rfl,rfl⟩)))
noncomputable def SIt(b:Bool)(h:Heap)(it l:Addr)(i:Nat):Prop:=if b=true then h.IsListIter it l i else h.IsTupleIter it l i
noncomputable def SOb(b:Bool)(h:Heap)(l:Addr)(xs:Array Value):Prop:=if b=true then h.IsList l xs else h.IsTuple l xs
theorem SIt.mv{b:Bool}{h h':Heap}{it l:Addr}{i:Nat}(st:SIt b h it l i)(k:∀o,h.get? it=some o->h'.get? it=some o):SIt b h' it l i:=by
 cases b
 ·exact Heap.IsTupleIter.at (h:=h) st k
 ·exact Heap.IsListIter.at (h:=h) st k
theorem SOb.mv{b:Bool}{h h':Heap}{l:Addr}{xs:Array Value}(st:SOb b h l xs)(k:∀o,h.get? l=some o->h'.get? l=some o):SOb b h' l xs:=by
 cases b
 ·obtain⟨o,e,r⟩:=(show h.IsTuple l xs from st);exact⟨o,k o e,r⟩
 ·exact Heap.IsList.at (h:=h) st k
theorem SIt.obj{b:Bool}{h:Heap}{it l:Addr}{i:Nat}(st:SIt b h it l i):∃o vs,h.get? it=some o/\o.data = .fields vs:=by
 cases b
 ·obtain⟨o,e,c,d⟩:=(show h.IsTupleIter it l i from st);exact⟨o,_,e,d⟩
 ·obtain⟨o,e,c,d⟩:=(show h.IsListIter it l i from st);exact⟨o,_,e,d⟩
theorem y2t{b:Bool}{it t:Addr}{i:Nat}{items:Array Value}{x:Value}{Q:Value->Shared->Prop}(hit:SIt b s.heap it t i)(ht:SOb b s.heap t items)(hx:items[i]? = some x)(hQ:∀h',SIt b h' it t (i+1)->Heap.SameBut it s.heap h'->Q x { s with heap:=h' }) :
 wpAny (model prog w) A (Builtin.SmallTypes.nextOf (.ref it)) Q E s:=by
 cases b
 ·exact x1w hit ht hx hQ
 ·exact wpAny_nextOf_list_item hit ht hx hQ
theorem z8a{b:Bool}{it t:Addr}{i:Nat}{items:Array Value}{Q:Value->Shared->Prop}(hh:A.handled=none)(hit:SIt b s.heap it t i)(ht:SOb b s.heap t items)(hx:items[i]? = none)
 (hE:∀h' e,Heap.ExtBut it s.heap h'->(∃o,h'.get? e=some o/\o.cls = .type "StopIteration")->E (.ref e) { s with heap:=h' }):wpAny (model prog w) A (Builtin.SmallTypes.nextOf (.ref it)) Q E s:=by
 cases b
 ·exact y2s hh hit ht hx hE
 ·exact wpAny_nextOf_list_end hh hit ht hx hE
end
section
variable {prog:Program}{w:World}{A:Around}{E:Value->Shared->Prop}{s:Shared}{b1 b2:Bool}
theorem x0z{z TI TO i1 i2 l1 l2:Addr}{k1 k2:Nat}{xs ys:Array Value}{x y a b:Value}{Q:Value->Shared->Prop}(D:ZipApart z TI TO i1 i2 l1 l2)(hz:IsZip s.heap z TI TO .none)(hTI:IsPair s.heap TI (.ref i1) (.ref i2))(hTO:IsPair s.heap TO a b)
 (h1:SIt b1 s.heap i1 l1 k1) (h2:SIt b2 s.heap i2 l2 k2) (hl1:SOb b1 s.heap l1 xs) (hl2:SOb b2 s.heap l2 ys) (hx:xs[k1]? = some x) (hy:ys[k2]? = some y)
 (hQ:∀h',IsZip h' z TI TO (rawInt s.heap.objs.size)->IsPair h' TO x y->SIt b1 h' i1 l1 (k1+1)->SIt b2 h' i2 l2 (k2+1)->IsPair h' s.heap.objs.size x y->h'.objs.size=s.heap.objs.size+1->(∀c o,c≠z->c≠TO->c≠i1->c≠i2->s.heap.get? c=some o->h'.get? c=some o)->Q (.ref s.heap.objs.size) { s with heap:=h' }) :
 wpAny (model prog w) A (Builtin.«zip.__next__» ⟨[.ref z],[]⟩) (fun fin s'=>∃v,fin = .done (.ret v)/\Q v s') E s:=by
 refine(show wpAny _ _ (field (.ref z) 2>>=_) _ _ _ from wpAny_bind (wpAny_field hz rfl (x:=.bool false) rfl (show wpAny _ _ (field (.ref z) 3>>=_) _ _ _ from wpAny_bind (wpAny_field hz rfl (x:=.ref TI) rfl (wpAny_bind (wpAny_seqItems hTI rfl (show wpAny _ _ (Builtin.SmallTypes.ownedTupleIsFree (.ref z)>>=_) _ _ _ from wpAny_bind ?_)))))))
 unfold Builtin.SmallTypes.ownedTupleIsFree
 refine wpAny_bind (wpAny_field hz rfl (x:=.none) rfl (wpAny_pure ?_));simp only[if_true]
 refine wpAny_bind (wpAny_rule (wpAny_bind (wpAny_field hz rfl (x:=.ref TO) rfl (wpAny_bind (wpAny_setField_rec hz (by simp) fun g1 (hz1:IsZip g1 z TI TO .ellipsis) n1=>wpAny_bind ?_)))))
 simp only[List.zipIdx_cons,List.zipIdx_nil,List.forIn_cons,List.forIn_nil]
 refine wpAny_bind (wpAny_bind (wpAny_onRaise (show wpAny _ _ (Builtin.SmallTypes.nextOf (.ref i1)>>=_) _ _ _ from wpAny_bind (y2t (h1.mv fun o e=>n1.extBut _ _ D.i1z e) (hl1.mv fun o e=>n1.extBut _ _ D.l1z e) hx fun g2 f1 n2=>wpAny_pure ?_))))
 have pT2:IsPair g2 TO a b:=n2.extBut _ _ D.TOi1 (n1.extBut _ _ D.TOz hTO)
 refine wpAny_bind (wpAny_seqItems pT2 rfl (wpAny_bind (wpAny_updateSeq_pair pT2 fun g3 (pT3:IsPair g3 TO x b) n3=>wpAny_bind (wpAny_letGo (wpAny_pure ?_)))))
 refine wpAny_bind (wpAny_bind (wpAny_onRaise (show wpAny _ _ (Builtin.SmallTypes.nextOf (.ref i2)>>=_) _ _ _ from wpAny_bind (y2t (h2.mv fun o e=>n3.extBut _ _ D.TOi2.symm (n2.extBut _ _ D.i12.symm (n1.extBut _ _ D.i2z e))) (hl2.mv fun o e=>n3.extBut _ _ D.l2TO (n2.extBut _ _ D.l2i1 (n1.extBut _ _ D.l2z e))) hy fun g4 f2 n4=>wpAny_pure ?_))))
 have pT4:IsPair g4 TO x b:=n4.extBut _ _ D.TOi2 pT3
 refine wpAny_bind (wpAny_seqItems pT4 rfl (wpAny_bind (wpAny_updateSeq_pair pT4 fun g5 (pT5:IsPair g5 TO x y) n5=>wpAny_bind (wpAny_letGo (wpAny_pure (wpAny_pure (wpAny_bind (wpAny_seqItems pT5 rfl (wpAny_bind (wpAny_newTuple ?_))))))))))
 have sz:g5.objs.size=s.heap.objs.size:=by rw[n5.1,n4.1,n3.1,n2.1,n1.1]
 have hz5:IsZip g5 z TI TO .ellipsis:=n5.extBut _ _ D.TOz.symm (n4.extBut _ _ D.i2z.symm (n3.extBut _ _ D.TOz.symm (n2.extBut _ _ D.i1z.symm hz1)))
 have kp:∀c o,c≠z->c≠TO->c≠i1->c≠i2->s.heap.get? c=some o->g5.get? c=some o:=fun c o c1 c2 c3 c4 e=>n5.extBut _ _ c2 (n4.extBut _ _ c4 (n3.extBut _ _ c2 (n2.extBut _ _ c3 (n1.extBut _ _ c1 e))))
 have f15:SIt b1 g5 i1 l1 (k1+1):=f1.mv fun o e=>n5.extBut _ _ D.TOi1.symm (n4.extBut _ _ D.i12 (n3.extBut _ _ D.TOi1.symm e))
 have f25:SIt b2 g5 i2 l2 (k2+1):=f2.mv fun o e=>n5.extBut _ _ D.TOi2.symm e
 have zlt:z<g5.objs.size:=Heap.lt_size hz5
 refine(show wpAny _ _ (Builtin.SmallTypes.ownedTupleHandOut (.ref z) (.ref g5.objs.size)>>=_) _ _ _ from wpAny_bind ?_)
 unfold Builtin.SmallTypes.ownedTupleHandOut
 have hz6:IsZip (g5.push { cls:=.type "tuple",data:=.seq #[x,y] }) z TI TO .ellipsis:=Heap.get?_push_of_some _ hz5
 refine wpAny_bind (wpAny_setField_rec hz6 (by simp) fun g7 (hz7:IsZip g7 z TI TO (rawInt g5.objs.size)) n7=>wpAny_setField_rec hz7 (by simp) fun g8 (hz8:IsZip g8 z TI TO (rawInt g5.objs.size)) n8=>?_)
 have up:∀c o,c≠z->g5.get? c=some o->g8.get? c=some o:=fun c o c1 e=>n8.extBut _ _ c1 (n7.extBut _ _ c1 (Heap.get?_push_of_some _ e))
 have t8:IsPair g8 g5.objs.size x y:=n8.extBut _ _ (Nat.ne_of_gt zlt) (n7.extBut _ _ (Nat.ne_of_gt zlt) (Heap.get?_push_size _ rfl))
 have s8:g8.objs.size=g5.objs.size+1:=by rw[n8.1,n7.1,Heap.size_push]
 rw[sz] at hz8 t8 s8
 refine wpAny_pure ⟨_,rfl,(show Q (.ref g5.objs.size) _ from ?_)⟩
 rw[sz]
 exact hQ g8 hz8 (up _ _ D.TOz pT5) (f15.mv fun o e=>up _ o D.i1z e) (f25.mv fun o e=>up _ o D.i2z e) t8 s8 fun c o c1 c2 c3 c4 e=>up c o c1 (kp c o c1 c2 c3 c4 e)
theorem x2v{z TI TO i1 i2 l1 l2:Addr}{k1 k2:Nat}{xs ys:Array Value}{a b:Value}{Q:Fin->Shared->Prop}(hh:A.handled=none)(D:ZipApart z TI TO i1 i2 l1 l2)(hz:IsZip s.heap z TI TO .none)(hTI:IsPair s.heap TI (.ref i1) (.ref i2))(hTO:IsPair s.heap TO a b)
 (h1:SIt b1 s.heap i1 l1 k1) (h2:SIt b2 s.heap i2 l2 k2) (hl1:SOb b1 s.heap l1 xs) (hl2:SOb b2 s.heap l2 ys) (hend:xs[k1]? = none∨ys[k2]? = none)
 (hE:∀h' e,(∀c o,c≠z->c≠TO->c≠i1->c≠i2->s.heap.get? c=some o->h'.get? c=some o)->(∃o,h'.get? e=some o/\o.cls = .type "StopIteration")->E (.ref e) { s with heap:=h' }) :
 wpAny (model prog w) A (Builtin.«zip.__next__» ⟨[.ref z],[]⟩) Q E s:=by
 refine(show wpAny _ _ (field (.ref z) 2>>=_) _ _ _ from wpAny_bind (wpAny_field hz rfl (x:=.bool false) rfl (show wpAny _ _ (field (.ref z) 3>>=_) _ _ _ from wpAny_bind (wpAny_field hz rfl (x:=.ref TI) rfl (wpAny_bind (wpAny_seqItems hTI rfl (show wpAny _ _ (Builtin.SmallTypes.ownedTupleIsFree (.ref z)>>=_) _ _ _ from wpAny_bind ?_)))))))
 unfold Builtin.SmallTypes.ownedTupleIsFree
 refine wpAny_bind (wpAny_field hz rfl (x:=.none) rfl (wpAny_pure ?_));simp only[if_true]
 refine wpAny_bind (wpAny_rule (wpAny_bind (wpAny_field hz rfl (x:=.ref TO) rfl (wpAny_bind (wpAny_setField_rec hz (by simp) fun g1 (hz1:IsZip g1 z TI TO .ellipsis) n1=>wpAny_bind ?_)))))
 simp only[List.zipIdx_cons,List.zipIdx_nil,List.forIn_cons,List.forIn_nil]
 have apart:∀{g:Heap} {e:Addr} {oe:Obj},IsZip g z TI TO .ellipsis->g.get? e=some oe->oe.cls = .type "StopIteration"->e≠z:=fun q1 q2 q3 q4=>by subst q4;rw[q1] at q2;cases q2;simp at q3
 refine wpAny_bind (wpAny_bind (wpAny_onRaise (show wpAny _ _ (Builtin.SmallTypes.nextOf (.ref i1)>>=_) _ _ _ from wpAny_bind ?_)))
 cases hx:xs[k1]? with
 | none =>
   refine z8a hh (h1.mv fun o e=>n1.extBut _ _ D.i1z e) (hl1.mv fun o e=>n1.extBut _ _ D.l1z e) hx fun g2 e n2 ⟨oe,hoe,hce⟩=>?_
   have hz2:IsZip g2 z TI TO .ellipsis:=n2 _ _ D.i1z.symm hz1
   exact wpAny_setField_rec hz2 (by simp) fun g3 _ n3=>hE g3 e (fun c o c1 _ c3 _ q=>n3.extBut _ _ c1 (n2 _ _ c3 (n1.extBut _ _ c1 q))) ⟨oe,n3.extBut _ _ (apart hz2 hoe hce) hoe,hce⟩
 | some x =>
   have hy:ys[k2]? = none:=hend.resolve_left fun q=>by rw[hx] at q;cases q
   refine y2t (h1.mv fun o e=>n1.extBut _ _ D.i1z e) (hl1.mv fun o e=>n1.extBut _ _ D.l1z e) hx fun g2 f1 n2=>wpAny_pure ?_
   have pT2:IsPair g2 TO a b:=n2.extBut _ _ D.TOi1 (n1.extBut _ _ D.TOz hTO)
   refine wpAny_bind (wpAny_seqItems pT2 rfl (wpAny_bind (wpAny_updateSeq_pair pT2 fun g3 pT3 n3=>wpAny_bind (wpAny_letGo (wpAny_pure ?_)))))
   refine wpAny_bind (wpAny_bind (wpAny_onRaise (show wpAny _ _ (Builtin.SmallTypes.nextOf (.ref i2)>>=_) _ _ _ from wpAny_bind (z8a hh (h2.mv fun o e=>n3.extBut _ _ D.TOi2.symm (n2.extBut _ _ D.i12.symm (n1.extBut _ _ D.i2z e))) (hl2.mv fun o e=>n3.extBut _ _ D.l2TO (n2.extBut _ _ D.l2i1 (n1.extBut _ _ D.l2z e))) hy fun g4 e n4 ⟨oe,hoe,hce⟩=>?_))))
   have hz4:IsZip g4 z TI TO .ellipsis:=n4 _ _ D.i2z.symm (n3.extBut _ _ D.TOz.symm (n2.extBut _ _ D.i1z.symm hz1))
   exact wpAny_setField_rec hz4 (by simp) fun g5 _ n5=>hE g5 e (fun c o c1 c2 c3 c4 q=>n5.extBut _ _ c1 (n4 _ _ c4 (n3.extBut _ _ c2 (n2.extBut _ _ c3 (n1.extBut _ _ c1 q))))) ⟨oe,n5.extBut _ _ (apart hz4 hoe hce) hoe,hce⟩
theorem x0y{z TI TO i1 i2 l1 l2:Addr}{k1 k2:Nat}{xs ys:Array Value}{x y a b:Value}{Q:Option Value->Shared->Prop}(D:ZipApart z TI TO i1 i2 l1 l2)(hz:IsZip s.heap z TI TO .none)(hTI:IsPair s.heap TI (.ref i1) (.ref i2))(hTO:IsPair s.heap TO a b)
 (h1:SIt b1 s.heap i1 l1 k1) (h2:SIt b2 s.heap i2 l2 k2) (hl1:SOb b1 s.heap l1 xs) (hl2:SOb b2 s.heap l2 ys) (hx:xs[k1]? = some x) (hy:ys[k2]? = some y)
 (hQ:∀h',IsZip h' z TI TO (rawInt s.heap.objs.size)->IsPair h' TO x y->SIt b1 h' i1 l1 (k1+1)->SIt b2 h' i2 l2 (k2+1)->IsPair h' s.heap.objs.size x y->h'.objs.size=s.heap.objs.size+1->(∀c o,c≠z->c≠TO->c≠i1->c≠i2->s.heap.get? c=some o->h'.get? c=some o)->Q (some (.ref s.heap.objs.size)) { s with heap:=h' }) :
 wpAny (model prog w) A (pyNext (.ref z)) Q E s:=by
 have hT:s.TypeIs (.ref z) "zip":=⟨_,hz,rfl⟩
 unfold pyNext
 exact wpAny_bind (wpAny_attempt (wpAny_callSpecial?_slot (name:=Str.ofString "__next__") hT F.slot_zip_next (wpAny_call_entry F.slot_zip_next hT F.entry_zip_next (x0z D hz hTI hTO h1 h2 hl1 hl2 hx hy fun h' a1 a2 a3 a4 a5 a6 a7=>wpAny_pure (hQ h' a1 a2 a3 a4 a5 a6 a7)) (F.args_zip_next_1 _))))
theorem x0x{z TI TO i1 i2 l1 l2:Addr}{k1 k2:Nat}{xs ys:Array Value}{a b:Value}{Q:Option Value->Shared->Prop}(hh:A.handled=none)(D:ZipApart z TI TO i1 i2 l1 l2)(hz:IsZip s.heap z TI TO .none)(hTI:IsPair s.heap TI (.ref i1) (.ref i2))(hTO:IsPair s.heap TO a b)
 (h1:SIt b1 s.heap i1 l1 k1) (h2:SIt b2 s.heap i2 l2 k2) (hl1:SOb b1 s.heap l1 xs) (hl2:SOb b2 s.heap l2 ys) (hend:xs[k1]? = none∨ys[k2]? = none)
 (hQ:∀h',(∀c o,c≠z->c≠TO->c≠i1->c≠i2->s.heap.get? c=some o->h'.get? c=some o)->Q none { s with heap:=h' }):wpAny (model prog w) A (pyNext (.ref z)) Q E s:=by
 have hT:s.TypeIs (.ref z) "zip":=⟨_,hz,rfl⟩
 unfold pyNext
 refine wpAny_bind (wpAny_attempt (wpAny_callSpecial?_slot (name:=Str.ofString "__next__") hT F.slot_zip_next (wpAny_call_entry F.slot_zip_next hT F.entry_zip_next (x2v hh D hz hTI hTO h1 h2 hl1 hl2 hend fun h' e hk ⟨o,ho,hc⟩=>?_) (F.args_zip_next_1 _))))
 exact wpAny_bind (wpAny_isInstance (T:="StopIteration") (b:=true) ⟨o,ho,hc⟩ isSubtype_stop (wpAny_pure (hQ _ hk)))
end
noncomputable def itn(b:Bool):String:=if b=true then "list_iterator" else "tuple_iterator"
noncomputable abbrev zA (b:Bool) (h:Heap) (l:Addr):Heap:=h.push { cls:=.type (itn b),data:=.fields #[.ref l,.int 0 0] }
noncomputable abbrev zB (b1 b2:Bool) (h:Heap) (l1 l2:Addr):Heap:=zA b2 (zA b1 h l1) l2
noncomputable abbrev zC (b1 b2:Bool) (h:Heap) (l1 l2:Addr):Heap:=(zB b1 b2 h l1 l2).push { cls:=.type "tuple",data:=.seq #[.ref h.objs.size,.ref (zA b1 h l1).objs.size] }
noncomputable abbrev zE (b1 b2:Bool) (h:Heap) (l1 l2:Addr):Heap:=(zC b1 b2 h l1 l2).push { cls:=.type "tuple",data:=.seq #[.none,.none] }
noncomputable abbrev zF (b1 b2:Bool) (h:Heap) (l1 l2:Addr):Heap:=(zE b1 b2 h l1 l2).push { cls:=.type "zip",data:=.fields #[.none,.bool false,.bool false,.ref (zB b1 b2 h l1 l2).objs.size,.ref (zC b1 b2 h l1 l2).objs.size] }
theorem y9i(b1 b2:Bool)(l1 l2:Addr)(xs ys:Array Value) :
 Meets (Builtin.«zip.__new__» ⟨[.type "zip",.ref l1,.ref l2],[]⟩) (fun _ R s=>SOb b1 s.heap l1 xs/\SOb b2 s.heap l2 ys/\R (.ok (.ret (.ref (zE b1 b2 s.heap l1 l2).objs.size))) { s with heap:=zF b1 b2 s.heap l1 l2 }) :=
 .of_wp fun prog w A R s h=>by
  obtain⟨hp,g,d,tk,os⟩:=s
  obtain⟨q1,q2,h⟩:=h
  have hsub:=sub_zip
  cases b1<;>cases b2
  ·have e1:Heap.IsTuple (Shared.heap ⟨hp,g,d,tk,os⟩) l1 xs:=q1
   have e2:Heap.IsTuple (Shared.heap ⟨hp.push { cls:=.type "tuple_iterator",data:=.fields #[.ref l1,.int 0 0] },g,d,tk,os⟩) l2 ys:=(show SOb false _ l2 ys from SOb.mv q2 fun o e=>Heap.get?_push_of_some _ e)
   wp_walk using wpAny_pyIter_tuple e1,wpAny_pyIter_tuple e2
   exact⟨_,rfl,h⟩
  ·have e1:Heap.IsTuple (Shared.heap ⟨hp,g,d,tk,os⟩) l1 xs:=q1
   have e2:Heap.IsList (Shared.heap ⟨hp.push { cls:=.type "tuple_iterator",data:=.fields #[.ref l1,.int 0 0] },g,d,tk,os⟩) l2 ys:=(show SOb true _ l2 ys from SOb.mv q2 fun o e=>Heap.get?_push_of_some _ e)
   wp_walk using wpAny_pyIter_tuple e1,wpAny_pyIter_list e2
   exact⟨_,rfl,h⟩
  ·have e1:Heap.IsList (Shared.heap ⟨hp,g,d,tk,os⟩) l1 xs:=q1
   have e2:Heap.IsTuple (Shared.heap ⟨hp.push { cls:=.type "list_iterator",data:=.fields #[.ref l1,.int 0 0] },g,d,tk,os⟩) l2 ys:=(show SOb false _ l2 ys from SOb.mv q2 fun o e=>Heap.get?_push_of_some _ e)
   wp_walk using wpAny_pyIter_list e1,wpAny_pyIter_tuple e2
   exact⟨_,rfl,h⟩
  ·have e1:Heap.IsList (Shared.heap ⟨hp,g,d,tk,os⟩) l1 xs:=q1
   have e2:Heap.IsList (Shared.heap ⟨hp.push { cls:=.type "list_iterator",data:=.fields #[.ref l1,.int 0 0] },g,d,tk,os⟩) l2 ys:=(show SOb true _ l2 ys from SOb.mv q2 fun o e=>Heap.get?_push_of_some _ e)
   wp_walk using wpAny_pyIter_list e1,wpAny_pyIter_list e2
   exact⟨_,rfl,h⟩
section
variable {prog:Program}{w:World}{A:Around}{E:Value->Shared->Prop}{s:Shared}{b1 b2:Bool}
theorem y8i{l1 l2:Addr}{xs ys:Array Value}{Q:Value->Shared->Prop}(q1:SOb b1 s.heap l1 xs)(q2:SOb b2 s.heap l2 ys)
 (h:∀h',IsZip h' (s.heap.objs.size+4) (s.heap.objs.size+2) (s.heap.objs.size+3) .none->IsPair h' (s.heap.objs.size+2) (.ref s.heap.objs.size) (.ref (s.heap.objs.size+1))->IsPair h' (s.heap.objs.size+3) .none .none->SIt b1 h' s.heap.objs.size l1 0->SIt b2 h' (s.heap.objs.size+1) l2 0->h'.objs.size=s.heap.objs.size+5 ->
   (∀c o,s.heap.get? c=some o->h'.get? c=some o)->Q (.ref (s.heap.objs.size+4)) { s with heap:=h' }):wpAny (model prog w) A (call (.type "zip") [.ref l1,.ref l2]) Q E s:=by
 refine callType_new F.called_zip (by decide) (F.typeCall_zip_2 _ _) (F.newCall_zip_2 _ _) (fun obj=>F.args_object_init_3 obj _ _) F.entry_zip_new (y9i b1 b2 l1 l2 xs ys) ⟨q1,q2,?_⟩
 have y1:(zA b1 s.heap l1).objs.size=s.heap.objs.size+1:=Heap.size_push ..
 have y2:(zB b1 b2 s.heap l1 l2).objs.size=s.heap.objs.size+2:=by rw[Heap.size_push,y1]
 have y3:(zC b1 b2 s.heap l1 l2).objs.size=s.heap.objs.size+3:=by rw[Heap.size_push,y2]
 have y4:(zE b1 b2 s.heap l1 l2).objs.size=s.heap.objs.size+4:=by rw[Heap.size_push,y3]
 have y5:(zF b1 b2 s.heap l1 l2).objs.size=s.heap.objs.size+5:=by rw[Heap.size_push,y4]
 have u5:(zF b1 b2 s.heap l1 l2).get? (zE b1 b2 s.heap l1 l2).objs.size=some _:=Heap.get?_push_size _ rfl
 have u4:(zF b1 b2 s.heap l1 l2).get? (zC b1 b2 s.heap l1 l2).objs.size=some _:=Heap.get?_push_of_some _ (Heap.get?_push_size _ rfl)
 have u3:(zF b1 b2 s.heap l1 l2).get? (zB b1 b2 s.heap l1 l2).objs.size=some _:=Heap.get?_push_of_some _ (Heap.get?_push_of_some _ (Heap.get?_push_size _ rfl))
 have u2:(zF b1 b2 s.heap l1 l2).get? (zA b1 s.heap l1).objs.size=some { cls:=.type (itn b2),data:=.fields #[.ref l2,.int 0 0] }:=Heap.get?_push_of_some _ (Heap.get?_push_of_some _ (Heap.get?_push_of_some _ (Heap.get?_push_size _ rfl)))
 have u1:(zF b1 b2 s.heap l1 l2).get? s.heap.objs.size=some { cls:=.type (itn b1),data:=.fields #[.ref l1,.int 0 0] }:=Heap.get?_push_of_some _ (Heap.get?_push_of_some _ (Heap.get?_push_of_some _ (Heap.get?_push_of_some _ (Heap.get?_push_size _ rfl))))
 show _/\_
 rw[y2,y3,y4] at u5
 rw[y1,y2] at u3
 rw[y3] at u4
 rw[y1] at u2
 rw[y4]
 have i1:SIt b1 (zF b1 b2 s.heap l1 l2) s.heap.objs.size l1 0:=by
  cases b1
  ·exact⟨_,u1,rfl,rfl⟩
  ·exact⟨_,u1,rfl,rfl⟩
 have i2:SIt b2 (zF b1 b2 s.heap l1 l2) (s.heap.objs.size+1) l2 0:=by
  cases b2
  ·exact⟨_,u2,rfl,rfl⟩
  ·exact⟨_,u2,rfl,rfl⟩
 exact⟨⟨_,u5,rfl⟩,h _ u5 u3 u4 i1 i2 y5 fun c o x=>Heap.get?_push_of_some _ (Heap.get?_push_of_some _ (Heap.get?_push_of_some _ (Heap.get?_push_of_some _ (Heap.get?_push_of_some _ x))))⟩
end
section
variable {X:Cx}{pins:List (Addr×Obj)}{σ:St}{H:Hp}{s:Shared}{h':Heap}
theorem x2y{ch:List Addr}{t':Nat}(I:Inv X pins σ H s)(hf:∀b∈ch,FpOk X pins H b)(k:∀b o,b ∉ ch->s.heap.get? b=some o->h'.get? b=some o):Inv X pins σ H { s with heap:=h',toks:=t' }:=by
 have nit:∀b u,H b=some u->b ∉ ch:=fun b u e z=>by rw[(hf b z).1] at e;cases e
 have nL:X.env.locals ∉ ch:=fun z=>(hf _ z).2.1 rfl
 refine I.step (g':=s.gens) (d':=s.drawn) (ch:=ch) (fun b hb=>?_) (fun b o _ _ hc e _=>k b o hc e) (fun b o _ _ hc e _=>⟨o.slots,k b o hc e⟩) (fun _ _ _ _ n=>n) (fun b o hc e=>⟨o,k b o hc e⟩) (fun _ _ e=>e) (fun _ _ _ e=>e) (fun b ps e=>⟨#[],by rw[e];simp⟩) (fun m hm=>?_) (fun b u e=>?_) I.bare
 ·obtain⟨f0,f1,f2,f3,f4,f5⟩:=hf b hb
  exact⟨f3.imp_right fun z=>Heap.get?_none_of_le z,f1,f4,f5⟩
 ·obtain⟨o,es,ep,ho,r⟩:=hm
  exact⟨o,es,ep,k _ o nL ho,r⟩
 ·refine(I.hok b u e).stay (fun c v hc q=>k c v ?_ q) (fun _ q=>q) fun _ _ q=>q
  rcases hc with z | z
  ·rw[z];exact nit b u e
  ·exact nit c _ z
theorem x2x{ch:List Addr}{t':Nat}{T:Addr}{xs:List V}{its:List Value}(I:Inv X pins σ H s)(hf:∀b∈ch,FpOk X pins H b)(k:∀b o,b ∉ ch->s.heap.get? b=some o->h'.get? b=some o)(hT:s.heap.objs.size<=T)(hz:xs.length<=sizeLine)(rv:Vals xs its)(ht:IsTup h' T its.toArray):Inv X pins σ (upd H T (.tup xs)) { s with heap:=h',toks:=t' }:=by
 have nit:∀b u,H b=some u->b ∉ ch:=fun b u e z=>by rw[(hf b z).1] at e;cases e
 have nL:X.env.locals ∉ ch:=fun z=>(hf _ z).2.1 rfl
 have hn:H T=none:=I.hok.fresh hT
 have neT:∀b o,s.heap.get? b=some o->b≠T:=fun b o e=>Nat.ne_of_lt (Nat.lt_of_lt_of_le (Heap.lt_size e) hT)
 have nT:∀b u,H b=some u->b≠T:=fun b u e=>z0k e hn
 refine I.step (g':=s.gens) (d':=s.drawn) (ch:=ch) (fun b hb=>?_) (fun b o _ _ hc e _=>k b o hc e) (fun b o _ _ hc e _=>⟨o.slots,k b o hc e⟩) (fun b o _ e n=>by rw[z0l (neT b o e)];exact n) (fun b o hc e=>⟨o,k b o hc e⟩)
  (fun b u e=>by rw[z0l (nT b _ e)];exact e) (fun b o u e=>by rw[z0l (nT b _ e)];exact e) (fun b ps e=>⟨#[],by rw[z0l (nT b _ e),e];simp⟩) (fun m hm=>?_) (fun b u e=>?_) I.bare
 ·obtain⟨f0,f1,f2,f3,f4,f5⟩:=hf b hb
  exact⟨f3.imp_right fun z=>Heap.get?_none_of_le z,f1,f4,f5⟩
 ·obtain⟨o,es,ep,ho,r⟩:=hm
  exact⟨o,es,ep,k _ o nL ho,r⟩
 ·by_cases hb:b=T
  ·subst hb
   rw[z0n] at e
   cases e
   exact⟨hz,its,rv,ht⟩
  ·rw[z0l hb] at e
   refine(I.hok b u e).stay (fun c v hc q=>k c v ?_ q) (fun c q=>by rw[z0l (nT c _ q)];exact q) fun c u' q=>by rw[z0l (nT c _ q)];exact q
   rcases hc with z | z
   ·rw[z];exact nit b u e
   ·exact nit c _ z
noncomputable def Sq(b:Bool)(K:PySem.W.Frag)(H:Hp)(l:Addr)(xs:List V):Prop:=if b=true then SqL K H l xs else SqT K H l xs
theorem z7a{b:Bool}{l:Addr}{xs:List V}(I:Inv X pins σ H s)(h:Sq b X.K H l xs):∃its:List Value,Vals xs its/\SOb b s.heap l its.toArray/\xs.length<=sizeLine:=by
 cases b
 ·obtain⟨its,rv,p,hz⟩:=I.tuple h
  exact⟨its,rv,(show s.heap.IsTuple l its.toArray from p),hz⟩
 ·obtain⟨its,rv,p,hz⟩:=I.list h
  exact⟨its,rv,p.isList,hz⟩
theorem y6b{b:Bool}{l:Addr}{xs ys:List V}(I:Inv X pins σ H s)(h:Sq b X.K H l xs)(h':Sq b X.K H l ys):xs=ys:=by
 cases b
 ·exact I.tuple_inj h h'
 ·exact I.list_inj h h'
theorem Sq.same{b:Bool}{K:PySem.W.Frag}{H H':Hp}{l:Addr}{xs:List V}(h:Sq b K H l xs)(S:Same H H'):Sq b K H' l xs:=by
 cases b
 ·exact z4h S h
 ·exact S.seq h
end
noncomputable def Itz(b1 b2:Bool)(K:PySem.W.Frag)(l1 l2:Addr):It :=
 ⟨fun i H=>∃xs x ys y,Sq b1 K H l1 xs/\xs[i]? = some x/\Sq b2 K H l2 ys/\ys[i]? = some y,
  fun i H v H'=>∃T x y,v = .ref T/\H T=none/\H'=upd H T (.tup [x,y])/\(∀xs,Sq b1 K H l1 xs->xs[i]? = some x)/\∀ys,Sq b2 K H l2 ys->ys[i]? = some y,
  fun i H=>∃xs ys,Sq b1 K H l1 xs/\Sq b2 K H l2 ys/\(xs.length<=i∨ys.length<=i)⟩
theorem y3m{P:Program}{w:World}{K:PySem.W.Frag}{b1 b2:Bool}{elts:List Expr}{kt}{pt:Pos}{z TI TO i1 i2 l1 l2:Addr}(D:ZipApart z TI TO i1 i2 l1 l2):Turn P w K (.Tuple elts kt pt) (Itz b1 b2 K l1 l2) [z,TI,TO,i1,i2] z
 (fun i h=>IsZip h z TI TO .none/\IsPair h TI (.ref i1) (.ref i2)/\(∃a b,IsPair h TO a b)/\SIt b1 h i1 l1 i/\SIt b2 h i2 l2 i) where
 mem:=by simp
 obj:=fun i h ⟨q1,q2,⟨a,b,q3⟩,q4,q5⟩ c hc=>by
  simp only[List.mem_cons,List.not_mem_nil,or_false] at hc
  rcases hc with rfl | rfl | rfl | rfl | rfl
  ·exact⟨_,q1,fun v z=>nomatch z⟩
  ·exact⟨_,q2,fun v z=>nomatch z⟩
  ·exact⟨_,q3,fun v z=>nomatch z⟩
  ·obtain⟨o,vs,e,d⟩:=q4.obj;exact⟨o,e,fun v z=>by rw[d] at z;cases z⟩
  ·obtain⟨o,vs,e,d⟩:=q5.obj;exact⟨o,e,fun v z=>by rw[d] at z;cases z⟩
 keep:=fun i h h' ⟨q1,q2,⟨a,b,q3⟩,q4,q5⟩ k=>⟨k z (by simp) _ q1,k TI (by simp) _ q2,⟨a,b,k TO (by simp) _ q3⟩,q4.mv fun o e=>k i1 (by simp) o e,q5.mv fun o e=>k i2 (by simp) o e⟩
 item:=by
  intro X hP hw hK hc i pins s σ H E I hf ⟨q1,q2,⟨a,b,q3⟩,q4,q5⟩ ⟨xs,x,ys,y,s1,ex,s2,ey⟩
  subst hP hw hK
  obtain⟨its1,rv1,o1,z1⟩:=z7a I s1
  obtain⟨its2,rv2,o2,z2⟩:=z7a I s2
  obtain⟨u,hu,ru⟩:=rv1.get ex
  obtain⟨v,hv,rv⟩:=rv2.get ey
  refine x0y D q1 q2 q3 q4 q5 o1 o2 (x:=u) (y:=v) (by simpa using hu) (by simpa using hv) fun h' a1 a2 a3 a4 a5 a6 a7=>⟨_,rfl,?_⟩
  refine wpAny_letOwnedTupleGo_zip (s:={ s with heap:=h' }) a1 fun h'' c1 c2=>?_
  have Tz:s.heap.objs.size≠z:=Nat.ne_of_gt (Heap.lt_size q1)
  have kk:∀c o,c ∉ [z,TI,TO,i1,i2]->s.heap.get? c=some o->h''.get? c=some o:=fun c o hc e=>by
   simp only[List.mem_cons,List.not_mem_nil,or_false,not_or] at hc
   exact c2.extBut _ _ hc.1 (a7 c o hc.1 hc.2.2.1 hc.2.2.2.1 hc.2.2.2.2 e)
  have tT:IsTup h'' s.heap.objs.size [u,v].toArray:=⟨_,c2.extBut _ _ Tz a5,rfl,_,rfl⟩
  have I1:=x2x (t':=s.toks) (xs:=[x,y]) I hf kk (Nat.le_refl _) (by rw[sizeLine_eq];exact(by decide:(2:Nat)<=16777216)) (.cons ru (.cons rv .nil)) tT
  refine⟨.ref s.heap.objs.size,_,I1,rfl,⟨_,x,y,rfl,I.hok.fresh (Nat.le_refl _),rfl,fun xs' q=>by rw[y6b I q s1];exact ex,fun ys' q=>by rw[y6b I q s2];exact ey⟩,?_,fun c hc=>?_⟩
  ·exact⟨c1,c2.extBut _ _ D.TIz (a7 _ _ D.TIz D.TITO D.TIi1 D.TIi2 q2),⟨_,_,c2.extBut _ _ D.TOz a2⟩,a3.mv fun o e=>c2.extBut _ _ D.i1z e,a4.mv fun o e=>c2.extBut _ _ D.i2z e⟩
  ·rw[z0l]
   ·exact(hf c hc).1
   ·intro e
    have ex:∃o,s.heap.get? c=some o:=by
     simp only[List.mem_cons,List.not_mem_nil,or_false] at hc
     rcases hc with rfl | rfl | rfl | rfl | rfl
     ·exact⟨_,q1⟩
     ·exact⟨_,q2⟩
     ·exact⟨_,q3⟩
     ·obtain⟨o,_,e,_⟩:=q4.obj;exact⟨o,e⟩
     ·obtain⟨o,_,e,_⟩:=q5.obj;exact⟨o,e⟩
    obtain⟨o,eo⟩:=ex
    exact absurd (Heap.lt_size eo) (by rw[e];exact Nat.lt_irrefl _)
 done:=by
  intro X hP hw hK hc i pins s σ H E I hf ⟨q1,q2,⟨a,b,q3⟩,q4,q5⟩ ⟨xs,ys,s1,s2,hend⟩
  subst hP hw hK
  obtain⟨its1,rv1,o1,z1⟩:=z7a I s1
  obtain⟨its2,rv2,o2,z2⟩:=z7a I s2
  have n1:=rv1.length
  have n2:=rv2.length
  refine x0x (I.ok.hd hc) D q1 q2 q3 q4 q5 o1 o2 (hend.imp (fun z=>by simp;omega) fun z=>by simp;omega) fun h' kk=>⟨rfl,x2y (t':=s.toks) I hf fun c o hc e=>?_⟩
  simp only[List.mem_cons,List.not_mem_nil,or_false,not_or] at hc
  exact kk c o hc.1 hc.2.2.1 hc.2.2.2.1 hc.2.2.2.2 e
 self:=fun _ _ _ _ _ st h=>wpAny_pyIter_zip st.1 h
theorem z9k:∀{xs ys:List D} {i:Nat} {x y:D},xs[i]? = some x->ys[i]? = some y->(zipD xs ys)[i]? = some (.tup [x,y])
 | [],_,_,_,_,h,_=>by simp at h
 | _::_,[],_,_,_,_,h=>by simp at h
 | a::xs,b::ys,0,x,y,h1,h2=>by simp at h1 h2;subst h1 h2;simp[zipD]
 | a::xs,b::ys,i+1,x,y,h1,h2=>by simp only[zipD,List.getElem?_cons_succ] at *;exact z9k h1 h2
theorem z9j:∀xs ys:List D,(zipD xs ys).length=min xs.length ys.length
 | [],_=>by simp[zipD]
 | _::_,[]=>by simp[zipD]
 | a::xs,b::ys=>by simp[zipD,z9j xs ys]
theorem x2g{b1 b2:Bool}{K:PySem.W.Frag}{H:Hp}{F:List Addr}{l1 l2:Addr}{xs ys:List V}{ds es:List D}(fo:FOk H F)(h1:Sq b1 K H l1 xs)(h2:Sq b2 K H l2 ys)(i1:IsAll K (hid F H) ds xs)(i2:IsAll K (hid F H) es ys):JC2 K H F (Itz b1 b2 K l1 l2) (zipD ds es):=fun H1 S=>by
 have q1:=h1.same S
 have q2:=h2.same S
 have n1:=i1.length
 have n2:=i2.length
 have nz:=z9j ds es
 refine⟨fun i hi=>⟨⟨xs,xs[i]'(by omega),ys,ys[i]'(by omega),q1,List.getElem?_eq_getElem (by omega),q2,List.getElem?_eq_getElem (by omega)⟩,fun v H2 y=>?_⟩,⟨xs,ys,q1,q2,by omega⟩⟩
 obtain⟨T,x,y',rfl,hT,rfl,e1,e2⟩:=y
 obtain⟨d,ed,iv⟩:=i1.getX (e1 xs q1)
 obtain⟨d',ed',iv'⟩:=i2.getX (e2 ys q2)
 have S2:=z1e hT (.tup [x,y'])
 exact⟨S2,d,d',T,x,y',z9k ed ed',rfl,SqT.of z0n,iv.same (z1i (S.trans S2)),iv'.same (z1i (S.trans S2))⟩
theorem y3l{n l1 l2:Nat}(h1:l1<n)(h2:l2<n):ZipApart (n+4) (n+2) (n+3) n (n+1) l1 l2:=by
 constructor<;>(show @Ne Nat _ _;omega)
theorem y4m:bootBuiltins ("zip":Str)=some (.type "zip"):=by decide +kernel
section
variable {X:Cx}{a b:Expr}{ga gb:G->R D}
theorem y3q{F:List Addr}{H:Hp}{d:D}{v:V}{ds:List D}(fo:FOk H F)(i:Is X.K H d v)(e:dSeq d = .ok ds)(n:D.noLs ds=true):∃b l xs,v = .ref l/\Sq b X.K H l xs/\IsAll X.K (hid F H) ds xs:=by
 cases d with
 | tup es =>
   cases e
   obtain⟨l,xs,rfl,h1,h2⟩:=Is.tup_iff.mp i
   exact⟨false,l,xs,rfl,h1,IsAll.hid fo _ xs n h2⟩
 | lst es =>
   cases e
   obtain⟨l,xs,rfl,h1,h2⟩:=Is.lst_iff.mp i
   exact⟨true,l,xs,rfl,h1,IsAll.hid fo _ xs n h2⟩
 | _=>cases e
theorem z6g{elts:List Expr}{kt}{pt p pos:Pos}(ha:PD X a ga)(hb:PD X b gb)(hm:X.mg "zip"=none)(hg:Gl X "zip":=by rfl)(hs:starEach [a,b] X.env=[(false,eval a X.env),(false,eval b X.env)]:=by rfl)(hs2:starEach [b] X.env=[(false,eval b X.env)]:=by rfl) :
 PIx JC2 X (.Tuple elts kt pt) (.Call (.Name "zip" p) [a,b] [] pos) (gZip ga gb):=by
 refine⟨fun pins s σ H F Γ I fo rl hgg=>?_⟩
 refine Call_ (z4j I hg hm y4m (PyProof.Rows.callWith_type1 ?_ (by rw[hs,hs2]) (by rw[hs2];rfl)))
 rw[hs]
 show wpAny _ _ (spliced ((false,eval a X.env)::backTo pos [(false,eval b X.env)])) _ _ s
 refine Calls.spliced_cons (wpAny_mono (ha.run pins s σ H F Γ I fo rl (R.left hgg)) (fun u s1 ⟨d,v,H1,e1,I1,r1,S1,i1⟩=>?_) fun _ _ x=>x.bind _)
 have hg1:=R.next hgg e1
 show wpAny _ _ (spliced ((false,eval b X.env)::backTo pos [])) _ _ s1
 refine Calls.spliced_cons (wpAny_mono (hb.run pins s1 σ H1 F Γ I1 (fo.same S1) (rl.same S1) (R.left hg1)) (fun u2 s2 ⟨d2,v2,H2,e2,I2,r2,S2,i2⟩=>Calls.spliced_nil ?_) fun _ _ x=>z1l.later e1 S1 (x.bind _))
 have hg2:=R.next hg1 e2
 obtain⟨ds,ed⟩:∃ds,dSeq d = .ok ds:=by
  cases q:dSeq d with
  | ok ds=>exact⟨ds,rfl⟩
  | no=>exact absurd (by show(dSeq d>>=_)=R.no;rw[q];rfl) hg2
  | er c=>cases d<;>cases q
 have hg3:=R.next hg2 ed
 obtain⟨es,ee⟩:∃es,dSeq d2 = .ok es:=by
  cases q:dSeq d2 with
  | ok ds=>exact⟨ds,rfl⟩
  | no=>exact absurd (by show(dSeq d2>>=_)=R.no;rw[q];rfl) hg3
  | er c=>cases d2<;>cases q
 have hg4:=R.next hg3 ee
 obtain⟨⟨n1,n2⟩,e5⟩:=R.guard_ne hg4
 have fo2:=(fo.same S1).same S2
 obtain⟨b1,l1,xs,rfl,q1,j1⟩:=y3q (X:=X) fo2 (i1.same S2) ed n1
 obtain⟨b2,l2,ys,rfl,q2,j2⟩:=y3q (X:=X) fo2 i2 ee n2
 cases (show u=Value.ref l1 from r1)
 cases (show u2=Value.ref l2 from r2)
 obtain⟨its1,rv1,o1,z1⟩:=z7a I2 q1
 obtain⟨its2,rv2,o2,z2⟩:=z7a I2 q2
 have lt:∀{b:Bool} {l:Addr} {its:Array Value},SOb b s2.heap l its->l<s2.heap.objs.size:=fun {b l its} o=>by
  cases b
  ·obtain⟨o',e,_⟩:=(show s2.heap.IsTuple l its from o);exact Heap.lt_size e
  ·obtain⟨o',e,_⟩:=(show s2.heap.IsList l its from o);exact Heap.lt_size e
 have m1:=lt o1
 have m2:=lt o2
 refine y8i o1 o2 fun h' a1 a2 a3 a4 a5 a6 a7=>?_
 refine wpAny_pyIter_zip (s:={ s2 with heap:=h' }) a1 ?_
 have I3:Inv X pins σ H2 { s2 with heap:=h' }:=I2.kept (t':=s2.toks) a7
 have D:ZipApart (s2.heap.objs.size+4) (s2.heap.objs.size+2) (s2.heap.objs.size+3) s2.heap.objs.size (s2.heap.objs.size+1) l1 l2:=y3l m1 m2
 refine⟨zipD ds es,s2.heap.objs.size+4,_,_,Itz b1 b2 X.K l1 l2,H2,(R.step e1 _).trans ((R.step e2 _).trans ((R.step ed _).trans ((R.step ee _).trans e5))),rfl,I3,S1.trans S2,y3m D,⟨a1,a2,⟨_,_,a3⟩,a4,a5⟩,fun c hc=>?_,x2g fo2 q1 q2 j1 j2⟩
 simp only[List.mem_cons,List.not_mem_nil,or_false] at hc
 have hge:s2.heap.objs.size<=c:=by rcases hc with rfl | rfl | rfl | rfl | rfl<;>omega
 exact I2.fpOk hge (I2.hok.fresh hge)
end
noncomputable def JD2(K:PySem.W.Frag)(H:Hp)(F:List Addr)(J:It)(ds:List D):Prop:=∀H1,(∀b o,b ∉ F->H b=some o->H1 b=some o) ->
 (∀i:Nat,i<ds.length->J.go i H1/\∀v H2,J.yld i H1 v H2->Same H1 H2/\∃d1 d2 q v1 v2,ds[i]? = some (.tup [d1,d2])/\v = .ref q/\SqT K H2 q [v1,v2]/\∀F',(∀b,b∈F'->b∈F∨H b=none)->Is K (hid F' H2) d1 v1/\Is K (hid F' H2) d2 v2)/\J.stop ds.length H1
section
variable {X:Cx}{e a b c:Expr}{g ga gb gc:G->R D}{pos:Pos}
theorem x1j(i k:Nat){x y0:Str}{px py pt:Pos}{kt}{iter:Expr}{body:List Stmt}{gi:G->R (List D)}{gb:G->R Fl}(hp:PO' X)(hcalm:X.calm=true)(hi:PIx JD2 X (.Tuple [.Name x px,.Name y0 py] kt pt) iter gi)(hb:PQs X body gb)(hN:X.N.Nodup)(hix:X.N[i]? = some x:=by rfl)(hiy:X.N[k]? = some y0:=by rfl)(hx:Loc X.env.scope x:=by first | exact Or.inl rfl | exact Or.inr rfl)(hy:Loc X.env.scope y0:=by first | exact Or.inl rfl | exact Or.inr rfl)
 (hf:X.fn x=true∨X.env.scope.names.lookup x=some .local:=by first | exact .inl rfl | exact .inr rfl | assumption)
 (hfy:X.fn y0=true∨X.env.scope.names.lookup y0=some .local:=by first | exact .inl rfl | exact .inr rfl | assumption)
 (hs:∀x,foldedSetIterable iter X.env x=pure x:=by intro _;rfl):PQ X (.For (.Tuple [.Name x px,.Name y0 py] kt pt) iter body [] pos) (y9q i k gi gb):=by
 refine⟨fun pins s σ H F Γ I fo rl hg=>?_⟩
 refine wpAny_For (wpAny_mono (hi.run pins s σ H F Γ I fo rl (z1q hg)) (fun v s1 h1=>wpAny_mono h1 (fun itv s2 h2=>?_) fun _ _ x=>x.lift fo rl _) fun _ _ x=>x.lift fo rl _) hs
 obtain⟨ds,it,fp,tn,J,H2,e1,rfl,I2,S2,T,t0,fk,jd⟩:=h2
 have eg:y9q i k gi gb Γ=z2p gb i k ds Γ:=z2r e1
 rw[eg] at hg ⊢
 have hp':=hp pins H F (z2p gb i k ds Γ)
 have stat:∀{H':Hp},(∀b∈fp,H' b=none)->∀b∈fp,FpOk X pins H' b:=fun hn b hb=>⟨hn b hb,(fk b hb).2⟩
 refine codeAny_forLoop_any (fun n s'=>∃(j:Nat) (σ':St) (H':Hp) (F':List Addr) (Γ':G),n=ds.length-j/\j<=ds.length/\Inv X pins σ' H' s'/\tn j s'.heap/\(∀b∈fp,H' b=none)/\FOk H' F'/\Rel X.K H' F' Γ' σ'/\Ext H2 F H' F'/\z2p gb i k (ds.drop j) Γ'=z2p gb i k ds Γ) ?_ ds.length
  ⟨0,σ,H2,F,Γ,by omega,Nat.zero_le _,I2,t0,fun b hb=>(fk b hb).1,fo.same S2,rl.same S2,.refl,by rw[List.drop_zero]⟩
 rintro n s3 ⟨j,σ3,H3,F3,Γ3,en,hj,I3,t3,fr3,fo3,rl3,E3,ev3⟩
 have E03:Ext H F H3 F3:=(Ext.of_same S2).trans E3
 obtain⟨jgo,jstop⟩:=jd H3 fun b o hb h=>E3.keep b o hb h
 by_cases hlt:j<ds.length
 ·obtain⟨go,yl⟩:=jgo j hlt
  refine wpAny_passesOwn hp' (thn (T.item X rfl rfl rfl hcalm j pins s3 σ3 H3 _ I3 (stat fr3) t3 go) fun r s4 ⟨u,hr,h4⟩=>?_)
  subst hr
  refine wpAny_passesOwn hp' (thn h4 fun _ s5 ⟨y,H5,I5,r5,y5,st5,fr5⟩=>?_)
  obtain⟨S5,d1,d2,q,v1,v2,ed,rfl,sq5,iv⟩:=yl y H5 y5
  obtain⟨iv1,iv2⟩:=iv F3 fun b hb=>E3.old b hb
  have fo5:=fo3.same S5
  have rl5:=rl3.same S5
  have E5:=E3.trans (Ext.of_same S5)
  have E05:Ext H F H5 F3:=(Ext.of_same S2).trans E5
  have hdrop:ds.drop j = .tup [d1,d2]::ds.drop (j+1):=by
   rw[List.drop_eq_getElem_cons hlt]
   have:ds[j] = .tup [d1,d2]:=by
    have:=List.getElem?_eq_getElem hlt
    rw[ed] at this;exact(Option.some.inj this).symm
   rw[this]
  have I5':=I5.pinned (stat fr5) (T.obj _ _ st5)
  have hpg:PG X.nox (.Tuple [.Name x px,.Name y0 py] kt pt) (L2.gTup X.K 2 (L2.gCons (y1q i) (L2.gCons (y1q k) L2.gNil))):=x0i (X:=X.nox) hcalm (z7l (z5t (X:=X.nox) hN hix hx hf) (z7l (z5t (X:=X.nox) hN hiy hy hfy) y6m rfl) rfl) rfl rfl
  refine wpAny_passesOwn hp' (wpAny_mono (hpg _ s5 σ3 H5 (.ref q) u (fun σ' H'=>σ'=(σ3.set i (some v1)).set k (some v2)/\H'=H5) (I5'.wish _) r5 ⟨q,[v1,v2],rfl,sq5,rfl,v1,[v2],rfl,v2,[],rfl,rfl,rfl,rfl⟩) (fun _ s6 ⟨σ6,H6,I6,e6,e6'⟩=>?_) fun _ _ z=>False.elim z)
  subst e6 e6'
  have evd:z2p gb i k (.tup [d1,d2]::ds.drop (j+1)) Γ3=z2p gb i k ds Γ:=by rw[<-hdrop];exact ev3
  have hgb:gb ((Γ3.set i (.ro d1)).set k (.ro d2)) ≠ .no:=fun z=>by
   rw[<-evd] at hg
   unfold z2p at hg
   rw[z] at hg
   exact hg rfl
  have back:∀{s7:Shared} {σ7:St} {H7:Hp},Inv X (pins++z7b fp s5.heap) σ7 H7 s7->Inv X pins σ7 H7 s7/\tn (j+1) s7.heap/\∀b∈fp,H7 b=none:=fun {s7 σ7 H7} I7=>by
   refine⟨I7.unpinned,T.keep _ _ _ st5 fun b hb o e=>(I7.pin (b,o) (List.mem_append_right _ (List.mem_append_right _ (z2a hb e)))).1,fun b hb=>?_⟩
   obtain⟨o,e,dd⟩:=T.obj _ _ st5 b hb
   exact(I7.pin (b,o) (List.mem_append_right _ (List.mem_append_right _ (z2a hb e)))).2.1
  refine wpAny_passesOwn hp' (wpAny_mono (hb.run _ s6 _ H6 F3 _ I6.unwish fo5 ((rl5.set_ro iv1).set_ro iv2) hgb) (fun f s7 q7=>?_) fun x7 s7 q7=>?_)
  ·cases f with
   | next =>
     obtain⟨Γ7,e7,σ7,H7,F7,I7,fo7,rl7,E7⟩:=q7
     obtain⟨b1,b2,b3⟩:=back I7
     refine⟨ds.length-(j+1),by omega,j+1,σ7,H7,F7,Γ7,rfl,hlt,b1,b2,b3,fo7,rl7,E5.trans E7,?_⟩
     rw[<-evd]
     conv=>rhs;unfold z2p
     rw[e7]
   | cont =>
     obtain⟨Γ7,e7,σ7,H7,F7,I7,fo7,rl7,E7⟩:=q7
     obtain⟨b1,b2,b3⟩:=back I7
     refine⟨ds.length-(j+1),by omega,j+1,σ7,H7,F7,Γ7,rfl,hlt,b1,b2,b3,fo7,rl7,E5.trans E7,?_⟩
     rw[<-evd]
     conv=>rhs;unfold z2p
     rw[e7]
   | brk =>
     obtain⟨Γ7,e7,σ7,H7,F7,I7,fo7,rl7,E7⟩:=q7
     refine⟨Γ7,?_,σ7,H7,F7,I7.unpinned,fo7,rl7,E05.trans E7⟩
     rw[<-evd]
     conv=>lhs;unfold z2p
     rw[e7]
   | ret v7 =>
     refine RtP.map q7 E05 (fun _ _ I7=>I7.unpinned) (fun d7 e7=>?_) fun d7 e7=>?_
     ·rw[<-evd]
      conv=>lhs;unfold z2p
      rw[e7]
     ·rw[<-evd]
      conv=>lhs;unfold z2p
      rw[e7]
  ·obtain⟨c7,Γ7,σ7,H7,F7,e7,fl7,fo7,rl7,E7⟩:=q7
   refine⟨c7,Γ7,σ7,H7,F7,?_,?_,fo7,rl7,E05.trans E7⟩
   ·rw[<-evd]
    conv=>lhs;unfold z2p
    rw[e7]
   ·obtain⟨I7,e',C',oe,vs,q1,q2,q3,q4,q5,q6,q7',q8⟩:=fl7
    refine⟨I7.unpinned,e',C',oe,vs,q1,q2,q3,q4,q5,q6,fun p hp2=>q7' p ?_,?_⟩
    ·rcases List.mem_append.mp hp2 with z | z
     ·exact List.mem_append_left _ z
     ·exact List.mem_append_right _ (List.mem_append_left _ z)
    ·obtain⟨w1,w2,w3,w4,w5⟩:=q8
     refine⟨w1,w2,w3,w4,?_⟩
     rcases w5 with w5 | ⟨T',oT,ts,z1,z2,z3,z4,z5,z6,z7⟩
     ·exact .inl w5
     ·refine .inr ⟨T',oT,ts,z1,z2,z3,z4,z5,fun p hp2=>z6 p ?_,z7⟩
      rcases List.mem_append.mp hp2 with z | z
      ·exact List.mem_append_left _ z
      ·exact List.mem_append_right _ (List.mem_append_left _ z)
 ·have ej:j=ds.length:=by omega
  subst ej
  refine wpAny_passesOwn hp' (thn (T.done X rfl rfl rfl hcalm _ pins s3 σ3 H3 _ I3 (stat fr3) t3 jstop) fun r s4 ⟨hr,I4⟩=>?_)
  subst hr
  rw[List.drop_length] at ev3
  exact wpAny_execs_nil ⟨Γ3,ev3.symm,σ3,H3,F3,I4,fo3,rl3,E03⟩
theorem x2e{b1 b2:Bool}{K:PySem.W.Frag}{H:Hp}{F:List Addr}{l1 l2:Addr}{xs ys:List V}{ds es:List D}(h1:Sq b1 K (hid F H) l1 xs)(h2:Sq b2 K (hid F H) l2 ys)(i1:IsAll K (hid F H) ds xs)(i2:IsAll K (hid F H) es ys):JD2 K H F (Itz b1 b2 K l1 l2) (zipD ds es):=fun H1 S=>by
 have q1:Sq b1 K H1 l1 xs:=(h1.same (y1o S fun b hb=>.inl hb)).same (z1v (F:=F))
 have q2:Sq b2 K H1 l2 ys:=(h2.same (y1o S fun b hb=>.inl hb)).same (z1v (F:=F))
 have n1:=i1.length
 have n2:=i2.length
 have nz:=z9j ds es
 refine⟨fun i hi=>⟨⟨xs,xs[i]'(by omega),ys,ys[i]'(by omega),q1,List.getElem?_eq_getElem (by omega),q2,List.getElem?_eq_getElem (by omega)⟩,fun v H2 y=>?_⟩,⟨xs,ys,q1,q2,by omega⟩⟩
 obtain⟨T,x,y',rfl,hT,rfl,e1,e2⟩:=y
 obtain⟨d,ed,iv⟩:=i1.getX (e1 xs q1)
 obtain⟨d',ed',iv'⟩:=i2.getX (e2 ys q2)
 have S2:=z1e hT (.tup [x,y'])
 exact⟨S2,d,d',T,x,y',z9k ed ed',rfl,SqT.of z0n,fun F' hF=>⟨(iv.same (y1o S hF)).same (z1i S2),(iv'.same (y1o S hF)).same (z1i S2)⟩⟩
theorem y3p{K:PySem.W.Frag}{H:Hp}{d:D}{v:V}{ds:List D}(i:Is K H d v)(e:dSeq d = .ok ds):∃b l xs,v = .ref l/\Sq b K H l xs/\IsAll K H ds xs:=by
 cases d with
 | tup es =>
   cases e
   obtain⟨l,xs,rfl,h1,h2⟩:=Is.tup_iff.mp i
   exact⟨false,l,xs,rfl,h1,h2⟩
 | lst es =>
   cases e
   obtain⟨l,xs,rfl,h1,h2⟩:=Is.lst_iff.mp i
   exact⟨true,l,xs,rfl,h1,h2⟩
 | _=>cases e
theorem y8x{elts:List Expr}{kt}{pt p pos:Pos}(ha:PDr X a ga)(hb:PDr X b gb)(hm:X.mg "zip"=none)(hg:Gl X "zip":=by rfl)(hs:starEach [a,b] X.env=[(false,eval a X.env),(false,eval b X.env)]:=by rfl)(hs2:starEach [b] X.env=[(false,eval b X.env)]:=by rfl) :
 PIx JD2 X (.Tuple elts kt pt) (.Call (.Name "zip" p) [a,b] [] pos) (y9p ga gb):=by
 refine⟨fun pins s σ H F Γ I fo rl hgg=>?_⟩
 refine Call_ (z4j I hg hm y4m (PyProof.Rows.callWith_type1 ?_ (by rw[hs,hs2]) (by rw[hs2];rfl)))
 rw[hs]
 show wpAny _ _ (spliced ((false,eval a X.env)::backTo pos [(false,eval b X.env)])) _ _ s
 refine Calls.spliced_cons (wpAny_mono (ha.run pins s σ H F Γ I fo rl (R.left hgg)) (fun u s1 ⟨d,v,H1,e1,I1,r1,S1,i1⟩=>?_) fun _ _ x=>x.bind _)
 have hg1:=R.next hgg e1
 show wpAny _ _ (spliced ((false,eval b X.env)::backTo pos [])) _ _ s1
 refine Calls.spliced_cons (wpAny_mono (hb.run pins s1 σ H1 F Γ I1 (fo.same S1) (rl.same S1) (R.left hg1)) (fun u2 s2 ⟨d2,v2,H2,e2,I2,r2,S2,i2⟩=>Calls.spliced_nil ?_) fun _ _ x=>z1l.later e1 S1 (x.bind _))
 have hg2:=R.next hg1 e2
 obtain⟨ds,ed⟩:∃ds,dSeq d = .ok ds:=by
  cases q:dSeq d with
  | ok ds=>exact⟨ds,rfl⟩
  | no=>exact absurd (by show(dSeq d>>=_)=R.no;rw[q];rfl) hg2
  | er c=>cases d<;>cases q
 have hg3:=R.next hg2 ed
 obtain⟨es,ee⟩:∃es,dSeq d2 = .ok es:=by
  cases q:dSeq d2 with
  | ok ds=>exact⟨ds,rfl⟩
  | no=>exact absurd (by show(dSeq d2>>=_)=R.no;rw[q];rfl) hg3
  | er c=>cases d2<;>cases q
 obtain⟨b1,l1,xs,rfl,q1,j1⟩:=y3p (i1.same (z1i S2)) ed
 obtain⟨b2,l2,ys,rfl,q2,j2⟩:=y3p i2 ee
 cases (show u=Value.ref l1 from r1)
 cases (show u2=Value.ref l2 from r2)
 obtain⟨its1,rv1,o1,z1⟩:=z7a I2 (q1.same (z1v (F:=F)))
 obtain⟨its2,rv2,o2,z2⟩:=z7a I2 (q2.same (z1v (F:=F)))
 have lt:∀{b:Bool} {l:Addr} {its:Array Value},SOb b s2.heap l its->l<s2.heap.objs.size:=fun {b l its} o=>by
  cases b
  ·obtain⟨o',e,_⟩:=(show s2.heap.IsTuple l its from o);exact Heap.lt_size e
  ·obtain⟨o',e,_⟩:=(show s2.heap.IsList l its from o);exact Heap.lt_size e
 refine y8i o1 o2 fun h' a1 a2 a3 a4 a5 a6 a7=>?_
 refine wpAny_pyIter_zip (s:={ s2 with heap:=h' }) a1 ?_
 have I3:Inv X pins σ H2 { s2 with heap:=h' }:=I2.kept (t':=s2.toks) a7
 refine⟨zipD ds es,s2.heap.objs.size+4,_,_,Itz b1 b2 X.K l1 l2,H2,(R.step e1 _).trans ((R.step e2 _).trans ((R.step ed _).trans ((R.step ee _)))),rfl,I3,S1.trans S2,y3m (y3l (lt o1) (lt o2)),⟨a1,a2,⟨_,_,a3⟩,a4,a5⟩,fun c hc=>?_,x2e q1 q2 j1 j2⟩
 simp only[List.mem_cons,List.not_mem_nil,or_false] at hc
 have hge:s2.heap.objs.size<=c:=by rcases hc with rfl | rfl | rfl | rfl | rfl<;>omega
 exact I2.fpOk hge (I2.hok.fresh hge)
end
noncomputable def Ite(K:PySem.W.Frag)(l:Addr):It :=
 ⟨fun i H=>∃xs x,SqL K H l xs/\xs[i]? = some x,
  fun i H v H'=>∃T x,v = .ref T/\H T=none/\H'=upd H T (.tup [.int (i:Int),x])/\∀xs,SqL K H l xs->xs[i]? = some x,
  fun i H=>∃xs,SqL K H l xs/\xs.length<=i⟩
theorem y5u{P:Program}{w:World}{K:PySem.W.Frag}{elts:List Expr}{kt}{pt:Pos}{e it l:Addr}(hei:e≠it):Turn P w K (.Tuple elts kt pt) (Ite K l) [e,it] e (fun i h=>(∃old,IsEnum h e it (i:Nat) old)/\h.IsListIter it l i) where
 mem:=by simp
 obj:=fun i h ⟨⟨old,q1⟩,q2⟩ c hc=>by
  simp only[List.mem_cons,List.not_mem_nil,or_false] at hc
  rcases hc with rfl | rfl
  ·exact⟨_,q1,fun v z=>nomatch z⟩
  ·obtain⟨o,e,c,d⟩:=q2;exact⟨o,e,fun v z=>by rw[d] at z;cases z⟩
 keep:=fun i h h' ⟨⟨old,q1⟩,q2⟩ k=>⟨⟨old,k e (by simp) _ q1⟩,q2.at fun o z=>k it (by simp) o z⟩
 item:=by
  intro X hP hw hK hc i pins s σ H E I hf ⟨⟨old,q1⟩,q2⟩ ⟨xs,x,s1,ex⟩
  subst hP hw hK
  obtain⟨its,rv,p,hz⟩:=I.list s1
  obtain⟨u,hu,ru⟩:=rv.get ex
  refine wpAny_pyNext_enum_item q1 q2 p.isList (x:=u) (by simpa using hu) hei fun h' a1 a2 a3 a4 a5=>⟨_,rfl,?_⟩
  refine wpAny_letOwnedTupleGo_enum (s:={ s with heap:=h',toks:=s.toks+1 }) a1 fun h'' c1 c2=>?_
  have Te:s.heap.objs.size≠e:=Nat.ne_of_gt (Heap.lt_size q1)
  have kk:∀c o,c ∉ [e,it]->s.heap.get? c=some o->h''.get? c=some o:=fun c o hc z=>by
   simp only[List.mem_cons,List.not_mem_nil,or_false,not_or] at hc
   exact c2.extBut _ _ hc.1 (a5 c o hc.1 hc.2 z)
  have tT:IsTup h'' s.heap.objs.size [Value.int i s.toks,u].toArray:=⟨_,c2.extBut _ _ Te a3,rfl,_,rfl⟩
  have I1:=x2x (t':=s.toks+1) (xs:=[.int (i:Int),x]) I hf kk (Nat.le_refl _) (by rw[sizeLine_eq];exact(by decide:(2:Nat)<=16777216)) (.cons ⟨_,rfl⟩ (.cons ru .nil)) tT
  refine⟨.ref s.heap.objs.size,_,I1,rfl,⟨_,x,rfl,I.hok.fresh (Nat.le_refl _),rfl,fun xs' q=>by rw[I.list_inj q s1];exact ex⟩,⟨⟨u,c1⟩,a2.extBut c2.extBut (Ne.symm hei)⟩,fun c hc=>?_⟩
  rw[z0l]
  ·exact(hf c hc).1
  ·intro z
   have ex:∃o,s.heap.get? c=some o:=by
    simp only[List.mem_cons,List.not_mem_nil,or_false] at hc
    rcases hc with rfl | rfl
    ·exact⟨_,q1⟩
    ·obtain⟨o,e,_⟩:=q2;exact⟨o,e⟩
   obtain⟨o,eo⟩:=ex
   exact absurd (Heap.lt_size eo) (by rw[z];exact Nat.lt_irrefl _)
 done:=by
  intro X hP hw hK hc i pins s σ H E I hf ⟨⟨old,q1⟩,q2⟩ ⟨xs,s1,hend⟩
  subst hP hw hK
  obtain⟨its,rv,p,hz⟩:=I.list s1
  have n1:=rv.length
  refine wpAny_pyNext_enum_end (I.ok.hd hc) q1 q2 p.isList (by simp;omega) fun h' kk=>⟨rfl,x2y (t':=s.toks) I hf fun c o hc z=>?_⟩
  simp only[List.mem_cons,List.not_mem_nil,or_false,not_or] at hc
  exact kk c o hc.2 z
 self:=fun _ _ _ _ _ st h=>by obtain⟨⟨old,q1⟩,_⟩:=st;exact wpAny_pyIter_enum q1 h
theorem y1t:∀{k:Nat} {xs:List D} {i:Nat} {x:D},xs[i]? = some x->(z6w k xs)[i]? = some (.tup [.int ((k+i:Nat):Int),x])
 | _,[],_,_,h=>by simp at h
 | k,a::xs,0,x,h=>by simp at h;subst h;simp[z6w]
 | k,a::xs,i+1,x,h=>by
   simp only[z6w,List.getElem?_cons_succ] at *
   rw[y1t h,show k+1+i=k+(i+1) by omega]
theorem y1s:∀(k:Nat) (xs:List D),(z6w k xs).length=xs.length
 | _,[]=>rfl
 | k,a::xs=>by simp[z6w,y1s (k+1) xs]
theorem y9n{K:PySem.W.Frag}{H:Hp}{F:List Addr}{l:Addr}{xs:List V}{ds:List D}(h1:SqL K H l xs)(i1:IsAll K (hid F H) ds xs):JC2 K H F (Ite K l) (z6w 0 ds):=fun H1 S=>by
 have q1:=S.seq h1
 have n1:=i1.length
 have nz:=y1s 0 ds
 refine⟨fun i hi=>⟨⟨xs,xs[i]'(by omega),q1,List.getElem?_eq_getElem (by omega)⟩,fun v H2 y=>?_⟩,⟨xs,q1,by omega⟩⟩
 obtain⟨T,x,rfl,hT,rfl,e1⟩:=y
 obtain⟨d,ed,iv⟩:=i1.getX (e1 xs q1)
 have S2:=z1e hT (.tup [.int (i:Int),x])
 have eg:=y1t (k:=0) ed
 rw[Nat.zero_add] at eg
 exact⟨S2,.int (i:Int),d,T,.int (i:Int),x,eg,rfl,SqT.of z0n,Is.int_iff.mpr rfl,iv.same (z1i (S.trans S2))⟩
theorem y8k:bootBuiltins ("enumerate":Str)=some (.type "enumerate"):=by decide +kernel
section
variable {X:Cx}{a b:Expr}{ga gb:G->R D}
theorem y6l{elts:List Expr}{kt}{pt p pos:Pos}(ha:PD X a ga)(hm:X.mg "enumerate"=none)(hg:Gl X "enumerate":=by rfl)(hs:starEach [a] X.env=[(false,eval a X.env)]:=by rfl) :
 PIx JC2 X (.Tuple elts kt pt) (.Call (.Name "enumerate" p) [a] [] pos) (x2m ga):=by
 refine⟨fun pins s σ H F Γ I fo rl hgg=>?_⟩
 refine Call_ (z4j I hg hm y8k (PyProof.Rows.callWith_type1 ?_ hs rfl))
 rw[hs]
 show wpAny _ _ (spliced ((false,eval a X.env)::backTo pos [])) _ _ s
 refine Calls.spliced_cons (wpAny_mono (ha.run pins s σ H F Γ I fo rl (R.left hgg)) (fun u s1 ⟨d,v,H1,e1,I1,r1,S1,i1⟩=>Calls.spliced_nil ?_) fun _ _ x=>x.bind _)
 have hg1:=R.next hgg e1
 cases d with
 | lst ds =>
   obtain⟨n1,e5⟩:=R.guard_ne (show R.guard (D.noLs ds=true) (.ok (z6w 0 ds)) ≠ .no from hg1)
   obtain⟨l,xs,rfl,q1,j1⟩:=Is.lst_iff.mp i1
   have j1':=IsAll.hid (fo.same S1) _ xs n1 j1
   cases (show u=Value.ref l from r1)
   obtain⟨its,rv,pl,hz⟩:=I1.list q1
   refine call_enumerate_list pl.isList fun h' a1 a2 a3 a4=>?_
   refine wpAny_pyIter_enum (s:={ s1 with heap:=h' }) a1 ?_
   have I3:Inv X pins σ H1 { s1 with heap:=h' }:=I1.kept (t':=s1.toks) a4
   refine⟨z6w 0 ds,s1.heap.objs.size+1,_,_,Ite X.K l,H1,(R.step e1 _).trans e5,rfl,I3,S1,y5u (it:=s1.heap.objs.size) (by show @Ne Nat _ _;omega),⟨⟨_,a1⟩,a2⟩,fun c hc=>?_,y9n q1 j1'⟩
   simp only[List.mem_cons,List.not_mem_nil,or_false] at hc
   have hge:s1.heap.objs.size<=c:=by rcases hc with rfl | rfl<;>omega
   exact I1.fpOk hge (I1.hok.fresh hge)
 | _=>exact absurd rfl hg1
end
section
variable {X:Cx}{e a b c:Expr}{g ga gb gc:G->R D}{pos pos' p:Pos}
theorem y2m(i:Nat){x x0 y:Str}{elt iter:Expr}{p0 px pt:Pos}{kt}{scope:Scope}{ifs:List Expr}{f:D->D->G->R (Option D)}{gi:G->R (List D)}(hi':PIx JC2 X (.Tuple [.Name x0 p0,.Name y px] kt pt) iter gi)(hp:PC2 X x0 y scope ifs elt f)(hN:X.N.Nodup)(hcalm:X.calm=true)(hi:X.N[i]? = some x:=by rfl)(hx:Loc X.env.scope x:=by first | exact Or.inl rfl | exact Or.inr rfl)
 (hsw:swapsWith (.ListComp elt [⟨.Tuple [.Name x0 p0,.Name y px] kt pt,iter,ifs,0⟩] scope p) (some (.Name x pos')) pos.line X.env=pure true:=by rfl) (hf:X.fn x=true∨X.env.scope.names.lookup x=some .local:=by first | exact .inl rfl | exact .inr rfl | assumption)
 (chk:z7r X.N X.env x0 y scope=true:=by rfl) (hclos:closureFor scope X.env=pure (capt X.env scope.names []):=by rfl) (hs:∀x,foldedSetIterable iter X.env x=pure x:=by intro _;rfl) :
 PQ X (.Assign [.Name x pos'] (.ListComp elt [⟨.Tuple [.Name x0 p0,.Name y px] kt pt,iter,ifs,0⟩] scope p) pos) (z2i i (z4b gi f)):=by
 refine⟨fun pins s σ H F Γ I fo rl hg=>?_⟩
 have c:=z9e chk
 rw[exec_Assign_Name_used _ _ _ _ hsw]
 refine wpAny_bind (wpAny_standAt (wpAny_bind ?_))
 show wpAny _ X.A (do let _ <-comprehension (.ListComp elt [⟨.Tuple [.Name x0 p0,.Name y px] kt pt,iter,ifs,0⟩] scope p) scope X.env _ (newList []) false (eval iter X.env) (some (assign (.Name x pos') X.env))) _ _ s
 have hg0:=z1q hg
 refine wpAny_bind (wpAny_mono (wpAny_comprehension_free (use:=some (assign (.Name x pos') X.env)) (Q:=fun _ s'=>FlP X pins H F (z2i i (z4b gi f) Γ) .next s') rfl hs hclos c.kind c.names
  (wpAny_mono (hi'.run pins s σ H F Γ I fo rl (R.left hg0)) (fun xv s₁ h₁=>wpAny_mono h₁ (fun itv s₂ h₂=>?_) fun _ _ x=>(x.bind _).lift fo rl _) fun _ _ x=>(x.bind _).lift fo rl _)) (fun _ s' hq=>wpAny_pure (wpAny_pure hq)) fun _ _ e=>e)
 obtain⟨items,it,fp,tn,J,H₂,e1,rfl,I2,S2,T,t0,fk,jc⟩:=h₂
 have hgx:=R.next hg0 e1
 obtain⟨hl,e2⟩:=R.guard_ne hgx
 have hne:z0p (z9v f Γ) items [] ≠ .no:=by
  have:=R.next hg0 e1
  rw[e2] at this;exact this
 obtain⟨total,et⟩:=z3y hne
 have eT:z4b gi f Γ = .ok total:=(R.step e1 _).trans (e2.trans et)
 refine z9f (RR:=fun acc C=>compPost (model X.prog X.w) X.A _ (some (assign (.Name x pos') X.env)) _ acc C) hp c hN hcalm I2 (fo.same S2) (rl.same S2) T t0 fk jc et hl ?_
 intro Dd C xs H' m s' hC hDC hn hn' hnC hD S' ia I' hnsC
 have nlt:∀{b:Addr} {o:Obj},s₂.heap.get? b=some o->b≠C:=fun e=>Nat.ne_of_lt (Nat.lt_of_lt_of_le (Heap.lt_size e) hC)
 have S3:=z1e hn' (.lst xs)
 have hall:Same H (upd H' Dd (.lst xs)):=(S2.trans S').trans S3
 have hH:H Dd=none:=S2.free hn
 have ia':IsAll X.K (hid (Dd::F) (upd H' Dd (.lst xs))) total xs:=ia.same fun b o hb=>by
  obtain⟨z1,z2⟩:=z2f hb
  have hbl:b≠Dd:=z0k z2 hn'
  rw[z1o fun z=>(List.mem_cons.mp z).elim hbl z1,z0l hbl]
  exact z2
 show wpAny _ X.A (assign (.Name x pos') X.env (.ref Dd)) _ _ s'
 refine wpAny_assign_Name (z6d (v:=.ref Dd) I' hN hi hx rfl (fun s3 I3 hsb=>?_) hf)
 obtain⟨aa,hsb,haa⟩:=hsb
 have haC:aa≠C:=by
  rcases haa with z | z
  ·subst z;exact Nat.ne_of_lt (Nat.lt_of_lt_of_le I2.lt hC)
  ·obtain⟨v,o,ho,_⟩:=I2.cell x aa z;exact nlt ho
 refine⟨m,hnsC.sameBut hsb (Ne.symm haC),fun h'' hs''=>?_⟩
 have I4:Inv X pins (σ.set i (some (.ref Dd))) (upd H' Dd (.lst xs)) { s3 with heap:=h'' }:=I3.turned (t':=s3.toks) (it:=C) (fun b o hb e=>hs''.extBut b o hb e) (by rw[z0l (Ne.symm hDC)];exact hnC) (Nat.ne_of_gt (Nat.lt_of_lt_of_le I2.lt hC)) (.inr (Nat.le_trans I2.sz hC))
  (fun x k e=>by obtain⟨v,o,ho,_⟩:=I2.cell x k e;exact nlt ho) (fun p hp'=>nlt (I2.pin p hp').1)
 exact⟨_,z2r eT,_,_,Dd::F,I4,(fo.same hall).cons z0n,rl.set_own fo hall hH z0n ia',⟨fun b o _ h=>hall _ _ h,fun b hb=>(List.mem_cons.mp hb).elim (fun z=>.inr (z ▸ hH)) .inl⟩⟩
theorem x1i(ha:PD X a ga)(he:∀whole,isTrue a X.env whole=(do let v <-whole;standAt a.pos;holding [v] (truthy v)):=by intro _;rfl):PTD X a (x2l ga):=by
 refine⟨fun pins s σ H F Γ I fo rl hg=>?_⟩
 refine isTrue_plain (wpAny_mono (ha.run pins s σ H F Γ I fo rl (R.left hg)) (fun v s1 ⟨d,x,H1,e1,I1,r1,S1,i1⟩=>?_) fun _ _ x=>x.bind _) (he _)
 have hg1:=R.next hg e1
 cases d with
 | lst ds =>
   obtain⟨l,xs,rfl,q1,j1⟩:=Is.lst_iff.mp i1
   cases (show v=Value.ref l from r1)
   obtain⟨its,rv,pl,hz⟩:=I1.list q1
   have n1:=rv.length
   have n2:=j1.length
   refine wpAny_truthy_list pl.isList (by rw[sizeLine_eq] at hz;simp;omega) ⟨H1,(R.step e1 _).trans ?_,I1.tok _,S1⟩
   have:its.toArray.isEmpty=ds.isEmpty:=by
    cases ds with
    | nil=>cases its with
      | nil=>rfl
      | cons z zs=>simp at n1 n2;omega
    | cons d ds=>cases its with
      | nil=>rw[<-n2] at n1;simp at n1
      | cons z zs=>rfl
   rw[this]
 | _=>exact absurd rfl hg1
theorem y4d:∀{bs:List Int} {us:List Value} {i:Nat} {v:Value},Vals (bs.map V.int) us->us[i]? = some v->∃b t,bs[i]? = some b/\v = .int b t
 | [],us,i,v,r,e=>by cases r;simp at e
 | b::bs,us,0,v,r,e=>by
   cases r with
   | cons r1 r2=>simp at e;subst e;obtain⟨t,r1⟩:=r1;exact⟨b,t,rfl,r1⟩
 | b::bs,us,i+1,v,r,e=>by
   cases r with
   | cons r1 r2 =>
     obtain⟨b',t,e1,e2⟩:=y4d (i:=i) r2 (by simpa using e)
     exact⟨b',t,by simpa using e1,e2⟩
theorem x0b(hc:X.calm=true):z6y X (.builtin "any") (fun xs H Q=>∃(a:Addr) (bs:List Int),xs=[.ref a]/\SqT X.K H a (bs.map V.int)/\Q (.bl (bs.any (fun b=>b != 0))) H):=by
 intro pins s σ H xs us Q I r h
 obtain⟨a,bs,rfl,hq,q⟩:=h
 obtain⟨u,rfl,ru⟩:=z9l r
 cases ru
 obtain⟨its,rv,pl,_⟩:=I.tuple hq
 have hl:s.heap.IsTuple a its.toArray:=pl
 have hlt:a<s.heap.objs.size:=by obtain⟨_,e,_⟩:=hl;exact Heap.lt_size e
 have hlen:its.length=bs.length:=by rw[<-rv.length,List.length_map]
 refine call_any_walk (wpAny_pyIter_tuple hl ?_)
 refine⟨s.heap.objs.size,[s.heap.objs.size,a],[s.heap.objs.size],its.toArray.size,_,_,fun i=>((bs.map fun b=>b != 0)[i]?).getD false,rfl,Walks.tuple (A:=X.A.in1) (I.ok.hd hc) _ a (Nat.ne_of_lt hlt) its.toArray,
  ⟨⟨_,Heap.get?_push_size _ rfl,rfl,rfl⟩,hl.push _⟩,fun i v s' Q' E' hP hQ=>?_,fun h' tk hk=>?_⟩
 ·obtain⟨b,t,e,rfl⟩:=y4d rv (i:=i) (v:=v) (by simpa using hP)
  simp only[List.getElem?_map,e,Option.map_some,Option.getD_some] at hQ
  exact PyProof.Rows.truthy_int hQ
 ·have e:((List.range its.toArray.size).any fun i=>((bs.map fun b=>b != 0)[i]?).getD false)=bs.any (fun b=>b != 0):=by
   rw[List.size_toArray,hlen]
   have:=z8p (bs.map fun b=>b != 0)
   rw[List.length_map,List.any_map] at this
   exact this
  refine⟨.bl (bs.any (fun b=>b != 0)),H,I.kept (fun b x ex=>hk b x (fun hm=>by rw[List.mem_singleton.mp hm] at ex;exact Nat.lt_irrefl _ (Heap.lt_size ex)) (Heap.get?_push_of_some _ ex)),by rw[e];rfl,q⟩
theorem x2s(hc:X.calm=true):z8q X (.builtin "any") y3g:=by
 refine⟨_,x0b (X:=X.nox) hc,fun H xs ds i hg=>?_⟩
 unfold y3g at hg
 split at hg
 ·rename_i ys
  obtain⟨v,rfl,h⟩:=z5e i
  obtain⟨a,zs,rfl,h1,h2⟩:=Is.tup_iff.mp h
  cases q:ints? ys with
  | none=>rw[q] at hg;exact absurd rfl hg
  | some ns =>
    have:=ints?_some q
    subst this
    rw[h2.ints_eq] at h1
    exact⟨a,ns,rfl,h1,.bl (ns.any (fun n=>n != 0)),by show y3g [.tup (ns.map D.int)]=_;simp only[y3g,q],.refl _,Is.bl_iff.mpr rfl⟩
 ·exact absurd rfl hg
end
section
variable {X:Cx}{e a b c:Expr}{g ga gb gc:G->R D}{pos pos' p:Pos}{gs:G->R (List D)}
end
noncomputable def y2q(y:Str)(names:List (Str×NameKind)):Bool:=decide (names.filter (fun p=>p.2 == .cell)=[(y,.cell)])
theorem y2u{M:Model}{A:Around}{E:Value->Shared->Prop}{s:Shared}{scope:Scope}{globals:Addr}{closure:List (Str×Addr)}{qual:Str}{env:Env}{y:Str}{Q:Env->Shared->Prop}(h1:y2q y scope.names=true)
 (hQ:Q (newEnv scope s.heap.objs.size globals ((y,s.heap.objs.size+1)::closure) qual none .none (some env) builtinsNs) { s with heap:=(s.heap.push { cls:=.type "dict",data:=.dict #[] }).push { cls:=.type "cell",data:=.cell none } }) :
 wpAny M A (newFunctionEnv scope globals closure [] qual none .none (some env)) Q E s:=by
 have h1:=of_decide_eq_true h1
 have sz:(s.heap.push { cls:=.type "dict",data:=.dict #[] }).objs.size=s.heap.objs.size+1:=Heap.size_push ..
 simp only[newFunctionEnv,Option.isSome_some,if_true]
 refine wpAny_bind (wpAny_alloc (wpAny_bind ?_))
 refine wpAny_forIn_list _ (fun rest b s'=>(rest.filter (fun p=>p.2 == .cell)=[(y,.cell)]/\b=closure/\s'={ s with heap:=s.heap.push { cls:=.type "dict",data:=.dict #[] } })∨(rest.filter (fun p=>p.2 == .cell)=[]/\b=(y,s.heap.objs.size+1)::closure/\s'={ s with heap:=(s.heap.push { cls:=.type "dict",data:=.dict #[] }).push { cls:=.type "cell",data:=.cell none } })) _ ?_ ?_ scope.names closure (.inl ⟨h1,rfl,rfl⟩)
 ·rintro⟨n,k⟩ rest b s' (⟨q1,rfl,rfl⟩ | ⟨q1,rfl,rfl⟩)
  ·by_cases hk:(k==NameKind.cell)=true
   ·rw[List.filter_cons,if_pos (show((n,k).2==NameKind.cell)=true from hk)] at q1
    injection q1 with q2 q3
    injection q2 with q4 q5
    simp only[hk,if_true]
    refine wpAny_bind (wpAny_alloc (wpAny_pure (.inr ⟨q3,?_,rfl⟩)))
    rw[q4,sz]
   ·rw[List.filter_cons,if_neg (show ¬((n,k).2==NameKind.cell)=true from hk)] at q1
    have hk':(k==NameKind.cell)=false:=by simpa using hk
    simp only[hk',Bool.false_eq_true,if_false]
    exact wpAny_pure (.inl ⟨q1,rfl,rfl⟩)
  ·by_cases hk:(k==NameKind.cell)=true
   ·rw[List.filter_cons,if_pos (show((n,k).2==NameKind.cell)=true from hk)] at q1;cases q1
   ·rw[List.filter_cons,if_neg (show ¬((n,k).2==NameKind.cell)=true from hk)] at q1
    have hk':(k==NameKind.cell)=false:=by simpa using hk
    simp only[hk',Bool.false_eq_true,if_false]
    exact wpAny_pure (.inr ⟨q1,rfl,rfl⟩)
 ·rintro b s' (⟨q1,_,_⟩ | ⟨_,rfl,rfl⟩)
  ·cases q1
  ·simp only[List.forIn_nil]
   exact wpAny_bind (wpAny_pure (wpAny_pure hQ))
noncomputable def y0j(N:List Str)(env:Env)(y:Str)(scope:Scope):Bool :=
 decide (scope.kind = .function)&&scope.names.all (fun p=>(decide (p.2 ≠ .cell)||decide (p.1=y))&&(decide (p.2 ≠ .local)||decide (scope.names.lookup p.1=some .local))&&(decide (p.2 ≠ .free)||((env.cells.lookup p.1).isSome&&(decide (env.scope.names.lookup p.1=some .cell)||decide (env.scope.names.lookup p.1=some .free)))))
  && (y2q y scope.names&&decide (scope.names.lookup y=some .cell))&&decide (scope.names.lookup (("":Str))=none)&&N.all (fun z=>decide (scope.names.lookup z≠some .local))&&N.all (fun z=>decide (z≠("":Str)))
structure CompOkC (N:List Str) (env:Env) (y:Str) (scope:Scope):Prop where
 kind:scope.kind = .function
 nocell:∀p∈scope.names,p.2 ≠ .cell∨p.1=y
 names:∀p∈scope.names,p.2 = .local->scope.names.lookup p.1=some .local
 free:∀p∈scope.names,p.2 = .free->(∃c,env.cells.lookup p.1=some c)/\(env.scope.names.lookup p.1=some .cell∨env.scope.names.lookup p.1=some .free)
 loc:y2q y scope.names=true/\scope.names.lookup y=some .cell
 nil:scope.names.lookup (("":Str))=none
 only:∀z∈N,scope.names.lookup z≠some .local
 none:∀z∈N,z≠("":Str)
theorem y5k{N:List Str}{env:Env}{y:Str}{scope:Scope}(h:y0j N env y scope=true):CompOkC N env y scope:=by
 unfold y0j at h
 simp only[Bool.and_eq_true,List.all_eq_true,Bool.or_eq_true,decide_eq_true_eq] at h
 obtain⟨⟨⟨⟨⟨h1,h2⟩,h3⟩,h4⟩,h5⟩,h6⟩:=h
 refine⟨h1,fun p hp=>(h2 p hp).1.1,fun p hp e=>((h2 p hp).1.2).resolve_left fun z=>z e,fun p hp e=>?_,h3,h4,fun z hz e=>h5 z hz e,h6⟩
 have q:=((h2 p hp).2).resolve_left fun z=>z e
 exact⟨Option.isSome_iff_exists.mp q.1,q.2⟩
noncomputable def z1r(X:Cx)(y:Str)(scope:Scope)(C cc:Addr)(s₂:Shared)(H₂:Hp)(fp:List Addr)(pn:List (Addr×Obj)):Cx :=
 { X with N:=y::X.N.map (fun z=>if z=y then ("":Str) else z),s₀:=s₂,H₀:=H₂,env:=compEnvC scope ((y,cc)::capt X.env scope.names []) C X.env,outer:=X.stack,ex:=fp,fn:=fun z=>z==y,pn:=pn,xe:=fun _ _=>False }
theorem y5l{X:Cx}{y:Str}{scope:Scope}{C cc Dd:Addr}{fp:List Addr}{pins pl:List (Addr×Obj)}{σ σ':St}{H₂ H':Hp}{s₂ s1:Shared}{xs:List V}{its:List Value}{n:Nat}(I:Inv X pins σ H₂ s₂)
 (J:Inv (z1r X y scope C cc s₂ H₂ fp (X.pn++pins)) pl σ' H' s1) (hD:s₂.heap.objs.size<=Dd) (hn:H' Dd=none) (hd:s1.heap.get? Dd=some { cls:=.type "list",data:=.seq its.toArray n }) (rv:Vals xs its) (hz:xs.length<=sizeLine) (hf:∀b∈fp,FpOk X pins H₂ b) :
 Inv X pins σ (upd H' Dd (.lst xs)) s1:=by
 have os:s1.os=s₂.os:=J.os
 have un:Un (frs X.stack) fp H₂ H' s₂.heap s1.heap:=J.base
 have hok:HOk X.prog X.w H' s1.heap:=J.hok
 have bare:AllBare s1.gens:=J.bare
 clear J
 obtain⟨hh,gg,dd,tt,os'⟩:=s1
 obtain rfl:os'=s₂.os:=os
 have neD:∀b o,s₂.heap.get? b=some o->b≠Dd:=fun b o e=>Nat.ne_of_lt (Nat.lt_of_lt_of_le (Heap.lt_size e) hD)
 refine I.call (h':=hh) (g':=gg) (d':=dd) (t':=tt) (ch:=fp) ⟨un.keep,un.slot,fun b o e n' hx=>?_,un.there,fun b ys e=>?_,fun b o u e=>?_,fun b ps e=>?_⟩ (y0d hok hn ⟨hz,its,n,rv,hd⟩) bare fun b hb=>?_
 ·rw[z0l (neD b o e)];exact un.free b o e n' hx
 ·have q:=un.tups b ys e
  rw[z0l (z0k q hn)];exact q
 ·have q:=un.frzs b o u e
  rw[z0l (z0k q hn)];exact q
 ·obtain⟨more,q⟩:=un.tbls b ps e
  exact⟨more,by rw[z0l (z0k q hn)];exact q⟩
 ·obtain⟨f0,f1,f2,f3,f4,f5⟩:=hf b hb
  exact⟨f3.imp_right fun z=>Heap.get?_none_of_le z,f1,f4,f5⟩
theorem z1w{X:Cx}{y:Str}{scope:Scope}{cc:Addr}{x:Str}{k:Addr}(e:((y,cc)::capt X.env scope.names []).lookup x=some k):(x=y/\k=cc)∨(x≠y/\X.env.cells.lookup x=some k):=by
 by_cases q:x=y
 ·subst q
  rw[List.lookup_cons_self] at e
  exact .inl ⟨rfl,(Option.some.inj e).symm⟩
 ·rw[List.lookup_cons,beq_eq_false_iff_ne.mpr q] at e
  rcases z2k scope.names [] (PySem.mem_of_lookup e) with z | z
  ·simp at z
  ·exact .inr ⟨q,z⟩
theorem y9x{X:Cx}{y:Str}{scope:Scope}{C cc:Addr}{fp:List Addr}{pins:List (Addr×Obj)}{σ:St}{H₂:Hp}{s₂:Shared}(I:Inv X pins σ H₂ s₂)(c:CompOkC X.N X.env y scope)(hC:s₂.heap.objs.size<=C)(hcc:s₂.heap.objs.size<=cc)(hf:∀b∈fp,FpOk X pins H₂ b)(ho:∀b∈fp,b<s₂.heap.objs.size) :
 (z1r X y scope C cc s₂ H₂ fp (X.pn++pins)).Ok:=by
 have lt:∀x k,X.env.cells.lookup x=some k->k<s₂.heap.objs.size:=fun x k e=>by obtain⟨v,q⟩:=I.cell x k e;exact q.lt
 refine⟨I.ok.mod,c.kind,I.ok.glob,I.ok.blt,hC,fun x z k h1 h2=>by
  rcases z1w h1 with ⟨a1,a2⟩ | ⟨a1,a2⟩<;>rcases z1w h2 with ⟨b1,b2⟩ | ⟨b1,b2⟩
  ·rw[a1,b1]
  ·have:=lt _ _ b2;rw[a2] at this;exact absurd (Nat.lt_of_lt_of_le this hcc) (Nat.lt_irrefl _)
  ·have:=lt _ _ a2;rw[b2] at this;exact absurd (Nat.lt_of_lt_of_le this hcc) (Nat.lt_irrefl _)
  ·exact I.ok.inj x z k a2 b2,fun x hx=>?_,fun x k h e=>by
  rcases z1w e with ⟨_,a2⟩ | ⟨a1,_⟩
  ·rw[a2];exact hcc
  ·exact absurd (beq_iff_eq.mp (show(x==y)=true from h)) a1,I.ok.hd,I.ok.frames,.inl rfl,fun b hb=>?_,I.bs,Nat.le_trans I.ok.bsz I.sz,fun b o e hb=>?_,fun b hb z=>?_,I.stack,I.stkFree⟩
 ·have hx':(relabel scope X.env).names.lookup x=some .cell∨(relabel scope X.env).names.lookup x=some .free:=hx
  have hm:∃k,(x,k)∈scope.names/\(k = .free∨k = .cell):=by
   rcases hx' with q | q <;>
   ·have m:=PySem.mem_of_lookup q
    unfold relabel at m
    simp only[List.mem_map] at m
    obtain⟨⟨n,k⟩,hm,e⟩:=m
    by_cases hc:(k==NameKind.free&&X.env.scope.kind == .function&&X.env.kindOf n==some .cell)=true
    ·rw[if_pos hc] at e
     have e1:n=x:=congrArg Prod.fst e
     subst e1
     rw[Bool.and_eq_true,Bool.and_eq_true] at hc
     exact⟨k,hm,.inl (y5d hc.1.1)⟩
    ·rw[if_neg hc] at e
     have e1:n=x:=congrArg Prod.fst e
     have e2:=congrArg Prod.snd e
     dsimp only at e2
     subst e1 e2
     exact⟨_,hm,by first | exact .inr rfl | exact .inl rfl⟩
  obtain⟨k,hm,hk⟩:=hm
  rcases hk with rfl | rfl
  ·obtain⟨⟨a,ea⟩,_⟩:=c.free _ hm rfl
   obtain⟨c',h1,_⟩:=z1a (List.mem_cons_of_mem (y,cc) (z3o ea scope.names [] hm))
   exact⟨c',h1⟩
  ·have:=(c.nocell _ hm).resolve_left fun z=>z rfl
   dsimp only at this
   subst this
   exact⟨cc,List.lookup_cons_self⟩
 ·refine⟨Nat.ne_of_lt (Nat.lt_of_lt_of_le (ho b hb) hC),fun x k e=>by
   rcases z1w e with ⟨_,a2⟩ | ⟨_,a2⟩
   ·intro z;have:=ho b hb;rw[<-z,a2] at this;exact absurd (Nat.lt_of_lt_of_le this hcc) (Nat.lt_irrefl _)
   ·exact(hf b hb).2.2.2.2.1 x k a2⟩
 ·rcases(hf b hb).2.2.2.1 with z | z
  ·exact I.ok.noex b o e z
  ·exact absurd (Nat.lt_of_lt_of_le (Nat.lt_of_lt_of_le (Heap.lt_size e) I.ok.bsz) z) (Nat.lt_irrefl _)
 ·rcases List.mem_cons.mp (I.stkSub b z) with q | q
  ·exact(hf b hb).2.1 q
  ·exact(hf b hb).2.2.1 q
theorem z3v{env:Env}:∀{names:List (Str×NameKind)} {x:Str},names.lookup x=some .cell ->
 (names.map fun(n,k)=>if (k==NameKind.free&&env.scope.kind == .function&&env.kindOf n==some .cell) then (n,NameKind.cell) else (n,k)).lookup x=some .cell
 | [],_,h=>by simp at h
 | (n,k)::r,x,h=>by
   rw[List.map_cons]
   by_cases e:x=n
   ·subst e
    rw[List.lookup_cons_self] at h
    cases h
    dsimp only
    rw[if_neg (by simp[show(NameKind.cell==NameKind.free)=false from rfl]),List.lookup_cons_self]
   ·rw[List.lookup_cons,beq_eq_false_iff_ne.mpr e] at h
    have:=z3v (env:=env) h
    dsimp only
    split<;>(rw[List.lookup_cons,beq_eq_false_iff_ne.mpr e];exact this)
section
variable {X:Cx}{y:Str}{scope:Scope}
theorem y3i{C cc Dd:Addr}{fp:List Addr}{pins:List (Addr×Obj)}{σ:St}{H₂:Hp}{s₂:Shared}{h₁:Heap}{tk:Nat}{oD:Obj}{m:Str->Option Value}(I:Inv X pins σ H₂ s₂)(c:CompOkC X.N X.env y scope)(hC:s₂.heap.objs.size<=C)(hD:s₂.heap.objs.size<=Dd)(hDC:Dd≠C)(hcc:s₂.heap.objs.size<=cc)(hic:h₁.IsCell cc none)(hf:∀b∈fp,FpOk X pins H₂ b)(ho:∀b∈fp,b<s₂.heap.objs.size)
 (old:∀b o,s₂.heap.get? b=some o->h₁.get? b=some o) (hns:h₁.Ns C m) (hd:h₁.get? Dd=some oD) (hdd:∀v,oD.data ≠ .cell v) :
 Inv (z1r X y scope C cc s₂ H₂ fp (X.pn++pins)) [(Dd,oD)] (none::σ) H₂ { s₂ with heap:=h₁,toks:=tk }:=by
 have nstk:∀b,s₂.heap.objs.size<=b->b ∉ frs X.stack:=fun b hb z=>by
  rcases List.mem_cons.mp (I.stkSub b z) with q | q
  ·exact absurd (Nat.lt_of_lt_of_le I.lt (by rw[<-q];exact hb)) (Nat.lt_irrefl _)
  ·exact I.nofs hb q
 refine⟨y9x I c hC hcc hf ho,rfl,I.bare,Un.kept old,⟨m,hns,fun i x v e1 e2 e3=>?_⟩,fun x k e=>?_,I.hok.fresh hC,fun x k e=>by
  rcases z1w e with ⟨_,a2⟩ | ⟨_,a2⟩
  ·rw[a2];exact I.hok.fresh hcc
  ·exact I.freeC x k a2,fun p hp=>?_,I.hok.kept old,?_⟩
 ·cases i with
  | zero=>simp at e2
  | succ i =>
    have e2':σ[i]? = some (some v):=by simpa using e2
    have e1':(X.N.map (fun z=>if z=y then ("":Str) else z))[i]? = some x:=by simpa [z1r] using e1
    rw[List.getElem?_map] at e1'
    cases hz:X.N[i]? with
    | none=>rw[hz] at e1';cases e1'
    | some z =>
      rw[hz] at e1'
      simp only[Option.map_some,Option.some.injEq] at e1'
      have e3':Vis (relabel scope X.env) x:=e3
      have look0:∀{k:NameKind},(relabel scope X.env).names.lookup x=some k->∃k',(x,k')∈scope.names/\(k'=k∨(k' = .free/\k = .cell)):=fun {k} q=>by
       have m':=PySem.mem_of_lookup q
       unfold relabel at m'
       simp only[List.mem_map] at m'
       obtain⟨⟨n,k0⟩,hm,e⟩:=m'
       by_cases hc:(k0==NameKind.free&&X.env.scope.kind == .function&&X.env.kindOf n==some .cell)=true
       ·rw[if_pos hc] at e
        have e1:n=x:=congrArg Prod.fst e
        have e2:=congrArg Prod.snd e
        dsimp only at e2
        subst e1 e2
        rw[Bool.and_eq_true,Bool.and_eq_true] at hc
        exact⟨k0,hm,.inr ⟨y5d hc.1.1,rfl⟩⟩
       ·rw[if_neg hc] at e
        have e1:n=x:=congrArg Prod.fst e
        have e2:=congrArg Prod.snd e
        dsimp only at e2
        subst e1 e2
        exact⟨_,hm,.inl rfl⟩
      have inames:∀k',(x,k')∈scope.names->x≠("":Str):=fun k' hm z=>by
       subst z
       obtain⟨c',h1,_⟩:=z1a hm
       rw[c.nil] at h1;cases h1
      have ne:x≠("":Str):=by
       rcases e3' with q | q | q<;>(obtain⟨k',hm,_⟩:=look0 q;exact inames k' hm)
      by_cases hzy:z=y
      ·rw[if_pos hzy] at e1';exact absurd e1'.symm ne
      ·rw[if_neg hzy] at e1'
       subst e1'
       have fr:(z,NameKind.free)∈scope.names:=by
        rcases e3' with q | q | q
        ·obtain⟨k',hm,hk⟩:=look0 q
         rcases hk with rfl | ⟨_,hk⟩
         ·exact absurd (c.names _ hm rfl) (c.only z (List.mem_of_getElem? hz))
         ·cases hk
        ·obtain⟨k',hm,hk⟩:=look0 q
         rcases hk with rfl | ⟨rfl,_⟩
         ·exact absurd ((c.nocell _ hm).resolve_left fun q=>q rfl) hzy
         ·exact hm
        ·obtain⟨k',hm,hk⟩:=look0 q
         rcases hk with rfl | ⟨_,hk⟩
         ·exact hm
         ·cases hk
       obtain⟨⟨ca,eca⟩,hv⟩:=c.free _ fr rfl
       obtain⟨m0,hn0,hl0⟩:=I.loc
       obtain⟨u,ru,lk⟩:=hl0 i z v hz e2' (.inr hv)
       refine⟨u,ru,?_⟩
       rcases lk with ⟨q,_⟩ | ⟨_,k,ek,hk⟩
       ·exfalso
        have q':X.env.scope.names.lookup z=some .local:=q
        rcases hv with w | w<;>(rw[q'] at w;cases w)
       ·obtain⟨c',h1,_⟩:=z1a (List.mem_cons_of_mem (y,cc) (z3o ek scope.names [] fr))
        have h2:=((z1w h1).resolve_left fun q=>hzy q.1).2
        rw[ek] at h2;cases h2
        refine .inr ⟨?_,k,h1,?_⟩
        ·rcases e3' with q | q | q
         ·exfalso
          obtain⟨k',hm,hk'⟩:=look0 q
          rcases hk' with rfl | ⟨_,hk'⟩
          ·exact c.only z (List.mem_of_getElem? hz) (c.names _ hm rfl)
          ·cases hk'
         ·exact .inl q
         ·exact .inr q
        ·obtain⟨o,ho',hd'⟩:=hk
         exact⟨o,old _ _ ho',hd'⟩
 ·rcases z1w e with ⟨_,a2⟩ | ⟨_,a2⟩
  ·rw[a2];exact⟨none,hic⟩
  ·obtain⟨v,o,ho',hd'⟩:=I.cell x k a2
   exact⟨v,o,old _ _ ho',hd'⟩
 ·rcases List.mem_append.mp hp with q | q
  ·obtain⟨h1,h2,h3,h4,h5⟩:=I.pin p q
   refine⟨old _ _ h1,h2,Nat.ne_of_lt (Nat.lt_of_lt_of_le (Heap.lt_size h1) hC),fun z=>?_,h5⟩
   rcases List.mem_cons.mp (I.stkSub p.1 z) with q' | q'
   ·exact h3 q'
   ·exact h4 q'
  ·have e:p=(Dd,oD):=by simpa using q
   subst e
   exact⟨hd,I.hok.fresh hD,hDC,nstk Dd hD,hdd⟩
 ·show σ.length+1=(y::X.N.map _).length
  rw[List.length_cons,List.length_map,I.len]
structure PC1C (X:Cx) (y:Str) (scope:Scope) (ifs:List Expr) (elt:Expr) (f:D->G->R (Option D)):Prop where
 run:∀(C cc:Addr) (s₂:Shared) (H₂:Hp) (fp:List Addr) (pn:List (Addr×Obj)) (pins:List (Addr×Obj)) (s:Shared) (σ:St) (H:Hp) (F:List Addr) (Γ:G) (d:D),Inv (z1r X y scope C cc s₂ H₂ fp pn) pins σ H s->FOk H F->Rel X.K H F (.ro d::Γ) σ->(∃o,f d Γ = .ok o) ->
  wpAny (model X.prog X.w) X.A (forIn ifs true fun c r=>if r=true then do let ok <-isTrue c (compEnvC scope ((y,cc)::capt X.env scope.names []) C X.env) (eval c (compEnvC scope ((y,cc)::capt X.env scope.names []) C X.env));pure (ForInStep.yield ok) else pure (ForInStep.yield r)) (fun ok s₃ =>
   if ok=true then wpAny (model X.prog X.w) X.A (eval elt (compEnvC scope ((y,cc)::capt X.env scope.names []) C X.env)) (fun u s₄=>∃e v H',f d Γ = .ok (some e)/\Inv (z1r X y scope C cc s₂ H₂ fp pn) pins σ H' s₄/\RelV v u/\Same H H'/\Is X.K (hid F H') e v) (fun _ _=>False) s₃
   else f d Γ = .ok none/\∃H',Inv (z1r X y scope C cc s₂ H₂ fp pn) pins σ H' s₃/\Same H H') (fun _ _=>False) s
theorem x1m{elt:Expr}{ge:G->R D}(he:∀C cc s₂ H₂ fp pn,PDr (z1r X y scope C cc s₂ H₂ fp pn) elt ge):PC1C X y scope [] elt (fElt ge):=by
 refine⟨fun C cc s₂ H₂ fp pn pins s σ H F Γ d I fo rl ⟨o,eo⟩=>?_⟩
 refine wpAny_tests_nil ?_
 rw[if_pos rfl]
 have hne:ge (.ro d::Γ) ≠ .no:=fun z=>by unfold fElt at eo;rw[z] at eo;cases eo
 refine wpAny_mono ((he C cc s₂ H₂ fp pn).run pins s σ H F (.ro d::Γ) I fo rl hne) (fun u s4 ⟨e,v,H',e1,I',rv,S,iv⟩=>⟨e,v,H',R.step e1 _,I',rv,S,iv⟩) fun x s' ⟨c,H',e1,_⟩=>?_
 unfold fElt at eo;rw[e1] at eo;cases eo
theorem y5m{elt iter:Expr}{px pos:Pos}{ifs:List Expr}{f:D->G->R (Option D)}{pins:List (Addr×Obj)}{σ:St}{H₂:Hp}{s₂:Shared}{F:List Addr}{Γ:G}{items:List D}{it:Addr}{fp:List Addr}{tn:Nat->Heap->Prop}{J:It}{E:Value->Shared->Prop}{total:List D}
 (hp:PC1C X y scope ifs elt f) (c:CompOkC X.N X.env y scope) (hN:X.N.Nodup) (hcalm:X.calm=true) (I:Inv X pins σ H₂ s₂) (fo:FOk H₂ F) (rl:Rel X.K H₂ F Γ σ) (T:Turn X.prog X.w X.K (.Name y px) J fp it tn) (t0:tn 0 s₂.heap) (hf:∀b∈fp,FpOk X pins H₂ b) (hj:JC X.K H₂ F J items)
 (ht:z0p (fun d=>f d Γ) items [] = .ok total) (hl:items.length<=100000) {RR:Value->Addr->Result->Shared->Prop}
 (hR:∀(Dd C:Addr) (xs:List V) (H':Hp) (m:Str->Option Value) (s':Shared),s₂.heap.objs.size<=C->Dd≠C->H₂ Dd=none->H' Dd=none->H' C=none->s₂.heap.objs.size<=Dd->Same H₂ H'->IsAll X.K (hid F H') total xs->Inv X pins σ (upd H' Dd (.lst xs)) s'->s'.heap.Ns C m->RR (.ref Dd) C (.ok .next) s') :
 wpAny (model X.prog X.w) X.A (newList []) (fun acc s₃=>wpAny (model X.prog X.w) X.A (newFunctionEnv scope X.env.globals (capt X.env scope.names []) [] X.env.qual none .none (some X.env)) (fun cenv s₄ =>
  codeAny (model X.prog X.w) X.A (.compStart (.ListComp elt [⟨.Name y px,iter,ifs,0⟩] scope pos) 0 (.ref it) acc { cenv with scope:=relabel scope X.env }) (RR acc cenv.locals) s₄) E s₃) E s₂:=by
 have ho:∀b∈fp,b<s₂.heap.objs.size:=fun b hb=>by obtain⟨o,e,_⟩:=T.obj _ _ t0 b hb;exact Heap.lt_size e
 refine wpAny_newObj_type (y2u c.loc.1 ?_)
 dsimp only
 generalize hH2:s₂.heap.push { cls:=.type "list",dict:=none,data:=.seq ([]:List Value).toArray }=H2
 have hCs:H2.objs.size=s₂.heap.objs.size+1:=by rw[<-hH2,Heap.size_push]
 generalize hh1:(H2.push { cls:=.type "dict",data:=.dict #[] }).push { cls:=.type "cell",data:=.cell none }=h₁
 have hns₁:h₁.Ns H2.objs.size (fun _=>none):=by
  rw[<-hh1]
  exact⟨_,#[],_,Heap.get?_push_of_some _ (Heap.get?_push_size _ rfl),rfl,by intro e he;simp at he,fun _=>rfl⟩
 have hic:h₁.IsCell (H2.objs.size+1) none:=by
  rw[<-hh1]
  refine⟨{ cls:=.type "cell",data:=.cell none },?_,rfl⟩
  rw[<-Heap.size_push H2 { cls:=.type "dict",data:=.dict #[] }]
  exact Heap.get?_push_size _ rfl
 have hold:∀b o,H2.get? b=some o->h₁.get? b=some o:=fun b o e=>by
  rw[<-hh1]
  exact Heap.get?_push_of_some _ (Heap.get?_push_of_some _ e)
 generalize hCC:H2.objs.size=C at hns₁ hic hCs ⊢
 generalize hcc0:C+1=cc at hic ⊢
 generalize hDD:s₂.heap.objs.size=Dd at hCs ⊢
 obtain⟨⟨hDC,hC,hD⟩,below⟩:=sb2 hCs hDD
 obtain⟨⟨hcc,hcD⟩,belowc⟩:=sb3 hCs hDD hcc0
 have old:∀b o,s₂.heap.get? b=some o->h₁.get? b=some o:=fun b o e=>hold b o (hH2 ▸ Heap.get?_push_of_some _ e)
 have hacc:h₁.get? Dd=some { cls:=.type "list",dict:=none,data:=.seq ([]:List Value).toArray }:=by
  refine hold _ _ ?_
  rw[<-hH2,<-hDD]
  exact Heap.get?_push_size _ rfl
 have J0:∀tk,Inv (z1r X y scope C cc s₂ H₂ fp (X.pn++pins)) [(Dd,{ cls:=.type "list",dict:=none,data:=.seq ([]:List Value).toArray })] (none::σ) H₂ { s₂ with heap:=h₁,toks:=tk }:=fun tk =>
  y3i I c hC hD hDC hcc hic hf ho old hns₁ hacc (fun v z=>nomatch z)
 have t1:tn 0 h₁:=T.keep _ _ _ t0 fun b hb o e=>old b o e
 have fpY:∀{H':Hp} {o:Obj},(∀b∈fp,H' b=none)->∀b∈fp,FpOk (z1r X y scope C cc s₂ H₂ fp (X.pn++pins)) [(Dd,o)] H' b:=fun {H' o} hn b hb=>by
  obtain⟨f0,f1,f2,f3,f4,f5⟩:=hf b hb
  have lt:=ho b hb
  refine⟨hn b hb,(below b lt).1,fun z=>?_,.inl hb,fun x k e=>?_,fun p hp'=>?_⟩
  ·rcases List.mem_cons.mp (I.stkSub b z) with q | q
   ·exact f1 q
   ·exact f2 q
  ·rcases z1w e with ⟨_,q⟩ | ⟨_,q⟩
   ·rw[q];exact Ne.symm (belowc b lt)
   ·exact f4 x k q
  ·rcases List.mem_append.mp hp' with q | q
   ·exact f5 p q
   ·have e:p=(Dd,o):=by simpa using q
    subst e
    exact Ne.symm (below b lt).2
 have NdY:(z1r X y scope C cc s₂ H₂ fp (X.pn++pins)).N.Nodup:=by
  show(y::X.N.map (fun z=>if z=y then ("":Str) else z)).Nodup
  refine List.nodup_cons.mpr ⟨fun z=>?_,?_⟩
  ·obtain⟨z',hz,e⟩:=List.mem_map.mp z
   by_cases q:z'=y
   ·rw[if_pos q] at e
    subst e
    have:=c.loc.2;rw[c.nil] at this;cases this
   ·rw[if_neg q] at e;exact q e
  ·have inj:∀a∈X.N,∀b∈X.N,(if a=y then ("":Str) else a)=(if b=y then ("":Str) else b)->a=b:=fun a ha b hb e=>by
    by_cases qa:a=y
    ·by_cases qb:b=y
     ·rw[qa,qb]
     ·rw[if_pos qa,if_neg qb] at e;exact absurd e.symm (c.none b hb)
    ·by_cases qb:b=y
     ·rw[if_neg qa,if_pos qb] at e;exact absurd e (c.none a ha)
     ·rw[if_neg qa,if_neg qb] at e;exact e
   have gen:∀l:List Str,(∀a∈l,a∈X.N)->l.Nodup->(l.map (fun z=>if z=y then ("":Str) else z)).Nodup:=by
    intro l
    induction l with
    | nil=>intro _ _;exact List.nodup_nil
    | cons a l ih =>
      intro hs nd
      obtain⟨n1,n2⟩:=List.nodup_cons.mp nd
      rw[List.map_cons]
      refine List.nodup_cons.mpr ⟨fun z=>?_,ih (fun b hb=>hs b (List.mem_cons_of_mem _ hb)) n2⟩
      obtain⟨b,hb,e⟩:=List.mem_map.mp z
      exact n1 (inj b (hs b (List.mem_cons_of_mem _ hb)) a (hs a List.mem_cons_self) e ▸ hb)
   exact gen X.N (fun _ h=>h) hN
 let L:Nat->Shared->Prop:=fun n s'=>∃(i:Nat) (H':Hp) (o:Option V) (xs:List V) (its:List Value) (acc:List D) (k:Nat),n=items.length-i/\i<=items.length/\Inv (z1r X y scope C cc s₂ H₂ fp (X.pn++pins)) [(Dd,{ cls:=.type "list",dict:=none,data:=.seq its.toArray k })] (o::σ) H' s' /\
  Same H₂ H'/\(∀b∈fp,H' b=none)/\tn i s'.heap/\Vals xs its/\acc.length<=i/\IsAll X.K (hid F H') acc xs/\z0p (fun d=>f d Γ) (items.drop i) acc = .ok total
 have loop:∀s₄:Shared,L items.length s₄->codeAny (model X.prog X.w) X.A (.compLoop (.ListComp elt [⟨.Name y px,iter,ifs,0⟩] scope pos) 0 (.ref it) (.ref Dd) (compEnvC scope ((y,cc)::capt X.env scope.names []) C X.env)) (RR (.ref Dd) C) s₄:=fun s₄ h4=>by
  refine codeAny_compLoop_tests L (fun n s' hL=>wpAny_mono (E:=fun _ _=>False) ?_ (fun _ _ q=>q) fun _ _ z=>z.elim) items.length h4
  obtain⟨i,H',o,xs,its,acc,k,en,hi,J',S',fr',tn',rv,hal,ia,eg⟩:=hL
  obtain⟨jgo,jstop⟩:=hj H' S'
  have hpD:=J'.pin (Dd,{ cls:=.type "list",dict:=none,data:=.seq its.toArray k }) (List.mem_append_right _ (by simp))
  have hxl:xs.length<=100000:=by rw[<-ia.length];exact Nat.le_trans hal (Nat.le_trans hi hl)
  have hsl:(100000:Nat)<=sizeLine:=by rw[sizeLine_eq];decide
  by_cases hlt:i<items.length
  ·obtain⟨go,yl⟩:=jgo i hlt
   refine thn (T.item (z1r X y scope C cc s₂ H₂ fp (X.pn++pins)) rfl rfl rfl hcalm i _ s' _ H' (fun _ _=>False) J' (fpY fr') tn' go) fun r s2 ⟨u,hr,h1⟩=>?_
   subst hr
   refine y0z (a:=()) h1 fun⟨x,H5,J5,r5,y5,st5,fr5⟩=>?_
   obtain⟨e5,d,ed,iv⟩:=yl x H5 y5
   subst e5
   have J5':=J5.pinned (fpY fr5) (T.obj _ _ st5)
   have hdrop:items.drop i=d::items.drop (i+1):=by
    rw[List.drop_eq_getElem_cons hlt]
    have:items[i]=d:=by
     have:=List.getElem?_eq_getElem hlt
     rw[ed] at this;exact(Option.some.inj this).symm
    rw[this]
   rw[hdrop] at eg
   have hfo:∃od,f d Γ = .ok od/\(match od with | some e=>z0p (fun d=>f d Γ) (items.drop (i+1)) (acc++[e]) | none=>z0p (fun d=>f d Γ) (items.drop (i+1)) acc) = .ok total:=by
    unfold z0p at eg
    cases q:f d Γ with
    | no=>simp only[q] at eg;cases eg
    | er c'=>simp only[q] at eg;cases eg
    | ok od =>
      refine⟨od,rfl,?_⟩
      cases od with
      | none=>simp only[q] at eg;exact eg
      | some e=>simp only[q] at eg;exact eg
   obtain⟨od,eod,etot⟩:=hfo
   have hpg:PG (z1r X y scope C cc s₂ H₂ fp (X.pn++pins)).nox (.Name y px) (y1q 0):=z5t (X:=(z1r X y scope C cc s₂ H₂ fp (X.pn++pins)).nox) NdY rfl (.inr (z3v c.loc.2)) (.inl (show(y==y)=true from beq_self_eq_true y))
   refine wpAny_mono (hpg _ s2 (o::σ) H5 x u (fun σ' H'=>σ'=some x::σ/\H'=H5) (J5'.wish _) r5 ⟨rfl,rfl⟩) (fun _ s3 ⟨σ6,H6,J6,e6,e6'⟩=>?_) fun _ _ z=>z.elim
   subst e6 e6'
   have J6':=J6.unwish
   have fo6:=fo.same S'
   refine wpAny_mono (hp.run C cc s₂ H₂ fp (X.pn++pins) _ s3 _ H6 F Γ d J6' fo6 (z7k (rl.same S') iv) ⟨od,eod⟩) (fun ok s4 h4=>?_) fun _ _ z=>z.elim
   have back:∀{s5:Shared} {H7:Hp} {σ7:St},Inv (z1r X y scope C cc s₂ H₂ fp (X.pn++pins)) ([(Dd,{ cls:=.type "list",dict:=none,data:=.seq its.toArray k })]++z7b fp s2.heap) σ7 H7 s5->tn (i+1) s5.heap/\(∀b∈fp,H7 b=none):=fun {s5 H7 σ7} J7=>by
    refine⟨T.keep _ _ _ st5 fun b hb o' e=>(J7.pin (b,o') (List.mem_append_right _ (List.mem_append_right _ (z2a hb e)))).1,fun b hb=>?_⟩
    obtain⟨o',e,dd⟩:=T.obj _ _ st5 b hb
    exact(J7.pin (b,o') (List.mem_append_right _ (List.mem_append_right _ (z2a hb e)))).2.1
   cases ok with
   | false =>
     rw[if_neg Bool.false_ne_true] at h4 ⊢
     obtain⟨ef,H7,J7,S7⟩:=h4
     rw[eod] at ef;cases ef
     obtain⟨tn7,fr7⟩:=back J7
     exact⟨items.length-(i+1),sb1 en hlt,i+1,H7,some x,xs,its,acc,k,rfl,hlt,J7.unpinned,S'.trans S7,fr7,tn7,rv,Nat.le_succ_of_le hal,ia.same (z1i S7),etot⟩
   | true =>
     rw[if_pos rfl] at h4 ⊢
     refine wpAny_mono h4 (fun u7 s5 ⟨e,v7,H7,ef,J7,r7,S7,iv7⟩=>?_) fun _ _ z=>z.elim
     rw[eod] at ef;cases ef
     obtain⟨tn7,fr7⟩:=back J7
     have J8:=J7.unpinned
     have hpD7:=J8.pin (Dd,{ cls:=.type "list",dict:=none,data:=.seq its.toArray k }) (List.mem_append_right _ (by simp))
     have hlen:its.length=acc.length:=by rw[<-rv.length,<-ia.length]
     refine wpAny_list_append_plain (l:=Dd) (items:=its.toArray) (x:=u7) ⟨k,hpD7.1⟩ (fun h' hl' hs'=>?_) (by rw[List.size_toArray,<-rv.length];exact Nat.le_trans hxl hsl)
     obtain⟨k',hk'⟩:=hl'
     have epush:its.toArray.push u7=(its++[u7]).toArray:=by simp
     rw[epush] at hk'
     have J9:Inv (z1r X y scope C cc s₂ H₂ fp (X.pn++pins)) [] (some x::σ) H7 s5:=J8.pins_of fun p hp'=>by simp at hp'
     have J10:Inv (z1r X y scope C cc s₂ H₂ fp (X.pn++pins)) [] (some x::σ) H7 { s5 with heap:=h' }:=J9.turned (t':=s5.toks) (it:=Dd) (fun b o' hb e'=>(hs'.2 b hb).trans e') hpD7.2.1 hDC (.inr hD) (fun x' k'' e' z=>by
      rcases z1w e' with ⟨_,q⟩ | ⟨_,q⟩
      ·exact hcD (q ▸ z)
      ·obtain⟨v',o',ho',_⟩:=I.cell x' k'' q
       exact(below k'' (Heap.lt_size ho')).2 z) (fun p hp' z=>by
      rcases List.mem_append.mp hp' with q | q
      ·obtain⟨h1',_⟩:=I.pin p q
       exact(below p.1 (Heap.lt_size h1')).2 z
      ·simp at q)
     have J11:Inv (z1r X y scope C cc s₂ H₂ fp (X.pn++pins)) [(Dd,{ cls:=.type "list",dict:=none,data:=.seq (its++[u7]).toArray k' })] (some x::σ) H7 { s5 with heap:=h' }:=J10.pins_of fun p hp'=>by
      have e':p=(Dd,{ cls:=.type "list",dict:=none,data:=.seq (its++[u7]).toArray k' }):=by simpa using hp'
      subst e'
      exact⟨hk',hpD7.2.1,hDC,hpD7.2.2.2.1,fun v z=>nomatch z⟩
     refine⟨items.length-(i+1),sb1 en hlt,i+1,H7,some x,xs++[v7],its++[u7],acc++[e],k',rfl,hlt,J11,S'.trans S7,fr7,T.keep _ _ _ tn7 fun b hb o' e'=>(hs'.2 b (below b (ho b hb)).2).trans e',rv.append (.cons r7 .nil),by rw[List.length_append,List.length_singleton];exact Nat.succ_le_succ hal,(ia.same (z1i S7)).append (IsAll.cons iv7 IsAll.nil),etot⟩
  ·have hi':i=items.length:=Nat.le_antisymm hi (Nat.le_of_not_lt hlt)
   subst hi'
   refine thn (T.done (z1r X y scope C cc s₂ H₂ fp (X.pn++pins)) rfl rfl rfl hcalm _ _ s' _ H' (fun _ _=>False) J' (fpY fr') tn' jstop) fun r s1 ⟨hr,J1⟩=>?_
   subst hr
   have hpD1:=J1.pin (Dd,{ cls:=.type "list",dict:=none,data:=.seq its.toArray k }) (List.mem_append_right _ (by simp))
   rw[List.drop_length] at eg
   have:acc=total:=by unfold z0p at eg;cases eg;rfl
   subst this
   obtain⟨mC,hnC,_⟩:=J1.loc
   exact hR Dd C xs H' mC s1 hC hDC (I.hok.fresh hD) hpD1.2.1 J1.free hD S' ia (y5l I J1 hD hpD1.2.1 hpD1.1 rv (Nat.le_trans hxl hsl) hf) hnC
 have L0:∀tk,L items.length { s₂ with heap:=h₁,toks:=tk }:=fun tk=>⟨0,H₂,none,[],[],[],_,rfl,Nat.zero_le _,J0 tk,.refl _,fun b hb=>(hf b hb).1,t1,.nil,Nat.le_refl _,IsAll.nil,by rw[List.drop_zero];exact ht⟩
 exact codeAny_compStart_list (loop _ (L0 _)) (T.self _ 0 _ _ _ t1 (loop _ (L0 _)))
theorem y2l(i:Nat){p pos pos':Pos}{x:Str}{elt iter:Expr}{px:Pos}{ifs:List Expr}{f:D->G->R (Option D)}{gi:G->R (List D)}(hi':PIC X (.Name y px) iter gi)(hp:PC1C X y scope ifs elt f)(hN:X.N.Nodup)(hcalm:X.calm=true)(hi:X.N[i]? = some x:=by rfl)(hx:Loc X.env.scope x:=by first | exact Or.inl rfl | exact Or.inr rfl)
 (hsw:swapsWith (.ListComp elt [⟨.Name y px,iter,ifs,0⟩] scope p) (some (.Name x pos')) pos.line X.env=pure true:=by rfl) (hf:X.fn x=true∨X.env.scope.names.lookup x=some .local:=by first | exact .inl rfl | exact .inr rfl | assumption)
 (chk:y0j X.N X.env y scope=true:=by rfl) (hclos:closureFor scope X.env=pure (capt X.env scope.names []):=by rfl) (hs:∀x,foldedSetIterable iter X.env x=pure x:=by intro _;rfl) :
 PQ X (.Assign [.Name x pos'] (.ListComp elt [⟨.Name y px,iter,ifs,0⟩] scope p) pos) (z2i i (z2j gi f)):=by
 refine⟨fun pins s σ H F Γ I fo rl hg=>?_⟩
 have c:=y5k chk
 rw[exec_Assign_Name_used _ _ _ _ hsw]
 refine wpAny_bind (wpAny_standAt (wpAny_bind ?_))
 show wpAny _ X.A (do let _ <-comprehension (.ListComp elt [⟨.Name y px,iter,ifs,0⟩] scope p) scope X.env _ (newList []) false (eval iter X.env) (some (assign (.Name x pos') X.env))) _ _ s
 have hg0:=z1q hg
 refine wpAny_bind (wpAny_mono (wpAny_comprehension_free (use:=some (assign (.Name x pos') X.env)) (Q:=fun _ s'=>FlP X pins H F (z2i i (z2j gi f) Γ) .next s') rfl hs hclos c.kind c.names
  (wpAny_mono (hi'.run pins s σ H F Γ I fo rl (R.left hg0)) (fun xv s₁ h₁=>wpAny_mono h₁ (fun itv s₂ h₂=>?_) fun _ _ x=>(x.bind _).lift fo rl _) fun _ _ x=>(x.bind _).lift fo rl _)) (fun _ s' hq=>wpAny_pure (wpAny_pure hq)) fun _ _ e=>e)
 obtain⟨items,it,fp,tn,J,H₂,e1,rfl,I2,S2,T,t0,fk,jc⟩:=h₂
 have hgx:=R.next hg0 e1
 obtain⟨hl,e2⟩:=R.guard_ne hgx
 have hne:z0p (fun d=>f d Γ) items [] ≠ .no:=by
  have:=R.next hg0 e1
  rw[e2] at this;exact this
 obtain⟨total,et⟩:=z3y hne
 have eT:z2j gi f Γ = .ok total:=(R.step e1 _).trans (e2.trans et)
 refine y5m (RR:=fun acc C=>compPost (model X.prog X.w) X.A _ (some (assign (.Name x pos') X.env)) _ acc C) hp c hN hcalm I2 (fo.same S2) (rl.same S2) T t0 fk jc et hl ?_
 intro Dd C xs H' m s' hC hDC hn hn' hnC hD S' ia I' hnsC
 have nlt:∀{b:Addr} {o:Obj},s₂.heap.get? b=some o->b≠C:=fun e=>Nat.ne_of_lt (Nat.lt_of_lt_of_le (Heap.lt_size e) hC)
 have S3:=z1e hn' (.lst xs)
 have hall:Same H (upd H' Dd (.lst xs)):=(S2.trans S').trans S3
 have hH:H Dd=none:=S2.free hn
 have ia':IsAll X.K (hid (Dd::F) (upd H' Dd (.lst xs))) total xs:=ia.same fun b o hb=>by
  obtain⟨z1,z2⟩:=z2f hb
  have hbl:b≠Dd:=z0k z2 hn'
  rw[z1o fun z=>(List.mem_cons.mp z).elim hbl z1,z0l hbl]
  exact z2
 show wpAny _ X.A (assign (.Name x pos') X.env (.ref Dd)) _ _ s'
 refine wpAny_assign_Name (z6d (v:=.ref Dd) I' hN hi hx rfl (fun s3 I3 hsb=>?_) hf)
 obtain⟨aa,hsb,haa⟩:=hsb
 have haC:aa≠C:=by
  rcases haa with z | z
  ·subst z;exact Nat.ne_of_lt (Nat.lt_of_lt_of_le I2.lt hC)
  ·obtain⟨v,o,ho,_⟩:=I2.cell x aa z;exact nlt ho
 refine⟨m,hnsC.sameBut hsb (Ne.symm haC),fun h'' hs''=>?_⟩
 have I4:Inv X pins (σ.set i (some (.ref Dd))) (upd H' Dd (.lst xs)) { s3 with heap:=h'' }:=I3.turned (t':=s3.toks) (it:=C) (fun b o hb e=>hs''.extBut b o hb e) (by rw[z0l (Ne.symm hDC)];exact hnC) (Nat.ne_of_gt (Nat.lt_of_lt_of_le I2.lt hC)) (.inr (Nat.le_trans I2.sz hC))
  (fun x k e=>by obtain⟨v,o,ho,_⟩:=I2.cell x k e;exact nlt ho) (fun p hp'=>nlt (I2.pin p hp').1)
 exact⟨_,z2r eT,_,_,Dd::F,I4,(fo.same hall).cons z0n,rl.set_own fo hall hH z0n ia',⟨fun b o _ h=>hall _ _ h,fun b hb=>(List.mem_cons.mp hb).elim (fun z=>.inr (z ▸ hH)) .inl⟩⟩
end
section
variable {X:Cx}{e:Expr}{pos p:Pos}{x:Str}{es:List Expr}{gs:G->R (List D)}
end
section
variable {M:Model}{A:Around}{E:Value->Shared->Prop}{env:Env}{s:Shared}
end
section
variable {X:Cx}{y:Str}{scope:Scope}
structure PC1X (X:Cx) (y:Str) (scope:Scope) (ifs:List Expr) (elt:Expr) (f:D->G->R (Option D)):Prop where
 run:∀(C:Addr) (s₂:Shared) (H₂:Hp) (fp:List Addr) (pn:List (Addr×Obj)),(∀b∈fp,∃o,(b,o)∈pn)->∀(pins:List (Addr×Obj)) (s:Shared) (σ:St) (H:Hp) (F:List Addr) (Γ:G) (d:D),Inv (z1p X y scope C s₂ H₂ fp pn) pins σ H s->FOk H F->Rel X.K H F (.ro d::Γ) σ->f d Γ ≠ .no ->
  wpAny (model X.prog X.w) X.A (forIn ifs true fun c r=>if r=true then do let ok <-isTrue c (compEnvC scope (capt X.env scope.names []) C X.env) (eval c (compEnvC scope (capt X.env scope.names []) C X.env));pure (ForInStep.yield ok) else pure (ForInStep.yield r)) (fun ok s₃ =>
   if ok=true then wpAny (model X.prog X.w) X.A (eval elt (compEnvC scope (capt X.env scope.names []) C X.env)) (fun u s₄=>∃e v H',f d Γ = .ok (some e)/\Inv (z1p X y scope C s₂ H₂ fp pn) pins σ H' s₄/\RelV v u/\Same H H'/\Is X.K (hid F H') e v) (fun x s'=>∃c H',f d Γ = .er c/\Same H H'/\y2h (z1p X y scope C s₂ H₂ fp pn) pins σ H' c x s') s₃
   else f d Γ = .ok none/\∃H',Inv (z1p X y scope C s₂ H₂ fp pn) pins σ H' s₃/\Same H H') (fun x s'=>∃c H',f d Γ = .er c/\Same H H'/\y2h (z1p X y scope C s₂ H₂ fp pn) pins σ H' c x s') s
end
section
variable {X:Cx}{e a b c:Expr}{g ga gb gc:G->R D}{pos p:Pos}{x:Str}{es:List Expr}{gs:G->R (List D)}
end
theorem IsAll.eraseIdx{K:PySem.W.Frag}{H:Hp}:∀{ds:List D} {xs:List V} (k:Nat),IsAll K H ds xs->IsAll K H (ds.eraseIdx k) (xs.eraseIdx k)
 | [],[],_,h=>h
 | [],_::_,_,h=>by have:=h.length;simp at this
 | _::_,[],_,h=>by have:=h.length;simp at this
 | d::ds,x::xs,0,h=>by
   obtain⟨_,_,e,_,h2⟩:=IsAll.cons_iff.mp h
   cases e;exact h2
 | d::ds,x::xs,k+1,h=>by
   obtain⟨_,_,e,h1,h2⟩:=IsAll.cons_iff.mp h
   cases e;exact IsAll.cons h1 (IsAll.eraseIdx k h2)
section
variable {X:Cx}{e:Expr}{g:G->R D}{pos p pos':Pos}
theorem x3h(j i:Nat){x l:Str}{apos cpos:Pos}(he:PD X e g)(hN:X.N.Nodup)(hj:X.N[j]? = some x:=by rfl)(hi:X.N[i]? = some l:=by rfl)(hx:Loc X.env.scope x:=by first | exact Or.inl rfl | exact Or.inr rfl)(hv:Vis X.env.scope l:=by first | exact Or.inl rfl | exact Or.inr (Or.inl rfl) | exact Or.inr (Or.inr rfl))(hd:(l==("__debug__":Str))=false:=by decide)(hcd:(l==("__classdict__":Str))=false:=by decide)
 (hsw:swapsWith (.Call (.Attribute (.Name l p) "pop" apos) [e] [] cpos) (some (.Name x pos')) pos.line X.env=pure false:=by rfl) (hf:X.fn x=true∨X.env.scope.names.lookup x=some .local:=by first | exact .inl rfl | exact .inr rfl | assumption)
 (hbase:attributeBase (.Name l p) "pop" X.env (eval (.Name l p) X.env)=eval (.Name l p) X.env:=by rfl)
 (hfew:((backTo cpos (starEach [e] X.env)).all (fun x=>!x.1)&&(backToKw cpos (keywordEach [] X.env)).all (fun x=>x.1.isSome)&&decide ([e].length+([]:List Keyword).length+(if ([]:List Keyword).isEmpty then 0 else 1)<30))=true:=by rfl)
 (hline:(apos.endLine==cpos.line)=true:=by rfl) (hs:starEach [e] X.env=(false,eval e X.env)::starEach [] X.env:=by rfl) :
 PQ X (.Assign [.Name x pos'] (.Call (.Attribute (.Name l p) "pop" apos) [e] [] cpos) pos) (gPop j i g):=by
 refine⟨fun pins s σ H F Γ I fo rl hg=>?_⟩
 have hown:∃ds,Γ[i]? = some (.own ds):=by
  unfold gPop at hg
  split at hg
  ·rename_i ds e1;exact⟨ds,e1⟩
  ·exact absurd rfl hg
 obtain⟨ds,eo⟩:=hown
 have egA:gPop j i g Γ=lift (g Γ) Γ (popK j i ds Γ):=by unfold gPop;rw[eo]
 rw[egA] at hg ⊢
 obtain⟨a',xs,h1,hF,h3,h4⟩:=rl.own i ds eo
 refine wpAny_Assign_Name (wpAny_Call_method_late hbase hfew hline rfl (wpAny_mono (y1d (X:=X.nox) hi hv hd hcd pins s σ H (fun v' H'=>v' = .ref a'/\H'=H) (I.wish _) ⟨.ref a',h1,rfl,rfl⟩) (fun v s1 ⟨v',H',I1,r1,e1,e2⟩=>?_) fun _ _ z=>False.elim z)) hsw
 subst e1 e2
 have I1':=I1.unwish
 obtain⟨t1,t2⟩:=x0d (T:="list") I1' r1 (.inl ⟨rfl,xs,SqL.of h3⟩)
 refine⟨"list",_,PySem.F.plainAttrs_list,PySem.F.slot_list_pop,PySem.F.type_list_pop,t1,t2,?_⟩
 rw[hs]
 refine Calls.callWith_builtin rfl (Calls.evalArgs_plain ?_)
 show wpAny _ _ (spliced ((false,eval e X.env)::backTo cpos [])) _ _ s1
 refine Calls.spliced_cons (wpAny_mono (he.run pins s1 σ H' F Γ I1' fo rl (z1q hg)) (fun u s2 ⟨d,y,H2,e3,I2,r2,S2,i2⟩=>Calls.spliced_nil ?_) fun _ _ x=>x.lift fo rl _)
 have hgx:=y1k hg e3
 obtain⟨k,dk,rfl,⟨k0,k1⟩,eq⟩:=x1k hgx
 have hxl:=h4.length
 ··have hk:k.toNat<ds.length:=(List.getElem?_eq_some_iff.mp eq).1
   have hx2:=S2 _ _ h3
   rw[Is.int_iff.mp i2] at r2
   have h4':=h4.same (z1i S2)
   obtain⟨yk,ey⟩:∃yk,xs[k.toNat]? = some yk:=⟨_,List.getElem?_eq_getElem (by omega)⟩
   obtain⟨dk',edk,ik⟩:=h4'.getX ey
   rw[eq] at edk;cases edk
   refine wpAny_mono (y9h (X:=X.nox) pins s2 σ H2 (.ref a') [.int k] v [u] (fun z H''=>z=yk/\H''=upd H2 a' (.lst (xs.eraseIdx k.toNat))) (I2.wish _) r1 (.cons r2 .nil) ⟨a',xs,k,k.toNat,yk,rfl,rfl,hx2,by omega,by omega,?_,ey,rfl,rfl⟩) (fun w' s3 ⟨z,H'',I3,rz,ez,eH⟩=>?_) fun _ _ z=>False.elim z
   ·unfold seqIndex?
    have c1:¬k<0:=by omega
    have c2:k<(xs.length:Int):=by omega
    simp only[if_neg c1,decide_eq_true k0,decide_eq_true c2,Bool.and_self,if_true]
   ·subst ez eH
    obtain⟨rl',hF'⟩:=(rl.same S2).put eo h1 (xs':=xs.eraseIdx k.toNat) (ds':=ds.eraseIdx k.toNat) (IsAll.eraseIdx _ h4')
    have hh:hid F (upd H2 a' (.lst (xs.eraseIdx k.toNat)))=hid F H2:=by
     funext b
     by_cases hb:b∈F
     ·rw[y4e hb,y4e hb]
     ·rw[z1o hb,z1o hb,z0l fun z=>hb (by rw[z];exact hF)]
    have e5:lift (g Γ) Γ (popK j i ds Γ) = .ok (.nx ((Γ.set i (.own (ds.eraseIdx k.toNat))).set j (.ro dk))):=(z2r e3).trans (y6j ⟨k0,k1⟩ eq)
    refine z7j I3.unwish hN hj hx rz (fun s4 I4=>⟨_,e5,_,_,F,I4,fun b hb=>?_,rl'.set_ro (by rw[hh];exact ik),⟨fun b o hb h=>?_,fun b hb=>.inl hb⟩⟩) hf
    ·by_cases hba:b=a'
     ·exact⟨_,by rw[hba];exact z0n⟩
     ·obtain⟨ys,q⟩:=fo b hb
      exact⟨ys,by rw[z0l hba];exact S2 _ _ q⟩
    ·rw[z0l (fun z=>hb (by rw[z];exact hF))];exact S2 _ _ h
end
section
variable {X:Cx}{e a b c:Expr}{g ga gb gc:G->R D}{pos:Pos}
end
namespace Rv
end Rv
section
variable {prog:Program}{w:World}{A:Around}{E:Value->Shared->Prop}{s:Shared}
end
section
variable {X:Cx}{a:Expr}{ga:G->R D}
end
section
variable {X:Cx}{e:Expr}{pos p:Pos}{x:Str}{es:List Expr}{gs:G->R (List D)}
end
section
variable {X:Cx}{e:Expr}{g:G->R D}{pos pt:Pos}
end
section
variable {prog:Program}{w:World}{A:Around}{E:Value->Shared->Prop}{s:Shared}
end
section
variable {X:Cx}{a:Expr}{ga:G->R D}{st:Expr}{gt:G->R (Option Int)}{pos p2:Pos}
end
section
variable {X:Cx}{e a b c:Expr}{g ga gb gc:G->R D}{pos:Pos}
end
theorem vals_ints:∀{ns:List Int} {us:List Value},IntsAre us ns->Vals (ns.map V.int) us
 | _,_,.nil=>.nil
 | _,_,.cons n t h=>.cons ⟨t,rfl⟩ (vals_ints h)
section
variable {X:Cx}{e a b c:Expr}{g ga gb gc:G->R D}{pos:Pos}
end
section
variable {X:Cx}
end
section
variable {prog:Program}{w:World}{A:Around}{E:Value->Shared->Prop}{s:Shared}
end
section
variable {X:Cx}{a b:Expr}{ga gb:G->R D}
end
section
variable {X:Cx}{e a b c:Expr}{g ga gb gc:G->R D}{gs:G->R (List D)}{pos pos' p:Pos}
end
structure TabK (led:Bool) (t:SetTable):Prop where
 led:t.led=led
 dum:t.dummies=#[]
 up:t.plain=true->t.place.toList.Pairwise (·<·)
section
variable {prog:Program}{w:World}{A:Around}{E:Value->Shared->Prop}{s:Shared}
end
section
variable {prog:Program}{w:World}{A:Around}{E:Value->Shared->Prop}{s:Shared}
end
section
variable {prog:Program}{w:World}{A:Around}{E:Value->Shared->Prop}{s:Shared}
end
section
variable {prog:Program}{w:World}{A:Around}{E:Value->Shared->Prop}{s:Shared}
end
section
variable {prog:Program}{w:World}{A:Around}{E:Value->Shared->Prop}{s:Shared}
end
section
variable {prog:Program}{w:World}{A:Around}{E:Value->Shared->Prop}{s:Shared}
end
section
variable {prog:Program}{w:World}{A:Around}{E:Value->Shared->Prop}{s:Shared}
end
section
variable {prog:Program}{w:World}{A:Around}{E:Value->Shared->Prop}{s:Shared}
end
section
variable {X:Cx}{e a b c:Expr}{g ga gb gc:G->R D}{gs:G->R (List D)}{pos pos' p p2:Pos}
end
section
variable {X:Cx}
end
section
variable {prog:Program}{w:World}{A:Around}{E:Value->Shared->Prop}{s:Shared}
end
section
variable {prog:Program}{w:World}{A:Around}{E:Value->Shared->Prop}{s:Shared}
end
section
variable {X:Cx}{a b:Expr}{ga gb:G->R D}
end
end L3
namespace Row
open PySem PySem.Spec PyProof.Rows L2 L3
noncomputable def top(i:Nat):Stmt:=PySem.Challenge.pw_longrounds_k96_whole_any_rows.main.body.getD i (.Pass ⟨0,0,0,0⟩)
noncomputable abbrev s_l:Stmt:=top 19
theorem sc_l:FnScope ["script","k"] ["script","k"] (z0e s_l):=⟨rfl,rfl,rfl,by decide +kernel,rfl,by decide +kernel,by decide +kernel⟩
noncomputable abbrev s_e:Stmt:=top 21
theorem sc_e:FnScope ["cell","P","size","out","k"] ["cell","P","size"] (z0e s_e):=⟨rfl,rfl,rfl,by decide +kernel,rfl,by decide +kernel,by decide +kernel⟩
noncomputable abbrev s_k:Stmt:=top 23
theorem sc_k:FnScope ["P","x","found","n"] ["P","x"] (z0e s_k):=⟨rfl,rfl,rfl,by decide +kernel,rfl,by decide +kernel,by decide +kernel⟩
noncomputable abbrev s_d:Stmt:=top 24
theorem sc_d:FnScope ["P","row","first","at"] ["P","row","first","at"] (z0e s_d):=⟨rfl,rfl,rfl,by decide +kernel,rfl,by decide +kernel,by decide +kernel⟩
noncomputable abbrev s_b:Stmt:=top 25
theorem sc_b:FnScope ["P","rows","left","ready","at","some","first","c"] ["P","rows"] (z0e s_b):=⟨rfl,rfl,rfl,by decide +kernel,rfl,by decide +kernel,by decide +kernel⟩
noncomputable abbrev s_n:Stmt:=top 26
theorem sc_n:FnScope ["P","rows","wide","size","longer"] ["P","rows"] (z0e s_n):=⟨rfl,rfl,rfl,by decide +kernel,rfl,by decide +kernel,by decide +kernel⟩
noncomputable abbrev s_f:Stmt:=top 22
theorem sc_f:FnScope ["script","number","cell"] ["script"] (z0e s_f):=⟨rfl,rfl,rfl,by decide +kernel,rfl,by decide +kernel,by decide +kernel⟩
noncomputable abbrev s_j:Stmt:=top 20
theorem sc_j:FnScope ["cell","n"] ["cell"] (z0e s_j):=⟨rfl,rfl,rfl,by decide +kernel,rfl,by decide +kernel,by decide +kernel⟩
noncomputable abbrev s_i:Stmt:=top 27
theorem sc_i:FnScope ["P","rows","goal","told","free","marks","total","row","c"] ["P","rows","goal","told","free"] (z0e s_i):=⟨rfl,rfl,rfl,by decide +kernel,rfl,by decide +kernel,by decide +kernel⟩
noncomputable abbrev s_r:Stmt:=top 7
theorem sc_r:FnScope ["width","place"] ["width","place"] (z0e s_r):=⟨rfl,rfl,rfl,by decide +kernel,rfl,by decide +kernel,by decide +kernel⟩
noncomputable abbrev s_on:Stmt:=top 4
theorem x3e:FnScope ["P","n"] ["P","n"] (z0e s_on):=⟨rfl,rfl,rfl,by decide +kernel,rfl,by decide +kernel,by decide +kernel⟩
noncomputable abbrev s_p:Stmt:=top 11
theorem sc_p:FnScope ["P","row","lead","place"] ["P","row","lead","place"] (z0e s_p):=⟨rfl,rfl,rfl,by decide +kernel,rfl,by decide +kernel,by decide +kernel⟩
noncomputable abbrev s_t:Stmt:=top 5
theorem sc_t:FnScope ["P","n","number","answer"] ["P","n"] (z0e s_t):=⟨rfl,rfl,rfl,by decide +kernel,rfl,by decide +kernel,by decide +kernel⟩
noncomputable abbrev s_s:Stmt:=top 9
theorem sc_s:FnScope ["P","row","number"] ["P","row","number"] (z0e s_s):=⟨rfl,rfl,rfl,by decide +kernel,rfl,by decide +kernel,by decide +kernel⟩
noncomputable abbrev s_o:Stmt:=top 10
theorem sc_o:FnScope ["P","rows","place","row"] ["P","rows","place"] (z0e s_o):=⟨rfl,rfl,rfl,by decide +kernel,rfl,by decide +kernel,by decide +kernel⟩
noncomputable abbrev s_g:Stmt:=top 12
theorem sc_g:FnScope ["P","rows","left","steps","place","lead"] ["P","rows"] (z0e s_g):=⟨rfl,rfl,rfl,by decide +kernel,rfl,by decide +kernel,by decide +kernel⟩
noncomputable abbrev s_m:Stmt:=top 13
theorem sc_m:FnScope ["P","rows","width","marked"] ["P","rows"] (z0e s_m):=⟨rfl,rfl,rfl,by decide +kernel,rfl,by decide +kernel,by decide +kernel⟩
noncomputable abbrev s_a:Stmt:=top 15
theorem sc_a:FnScope ["P","row","other"] ["P","row","other"] (z0e s_a):=⟨rfl,rfl,rfl,by decide +kernel,rfl,by decide +kernel,by decide +kernel⟩
noncomputable abbrev s_c:Stmt:=top 16
theorem sc_c:FnScope ["P","rows","goal","columns","row","number"] ["P","rows","goal"] (z0e s_c):=⟨rfl,rfl,rfl,by decide +kernel,rfl,by decide +kernel,by decide +kernel⟩
noncomputable abbrev s_h:Stmt:=top 14
theorem sc_h:FnScope ["P","rows","goal","sums"] ["P","rows","goal"] (z0e s_h):=⟨rfl,rfl,rfl,by decide +kernel,rfl,by decide +kernel,by decide +kernel⟩
noncomputable abbrev s_q:Stmt:=top 17
theorem sc_q:FnScope ["P","rows","goal","weights"] ["P","rows","goal"] (z0e s_q):=⟨rfl,rfl,rfl,by decide +kernel,rfl,by decide +kernel,by decide +kernel⟩
noncomputable abbrev z9p:Stmt:=top 28
theorem x0e:FnScope ["script","P","wide","size","digits","rows","goal","found","idle_rows","free"] ["script"] (z0e z9p):=⟨rfl,rfl,rfl,by decide +kernel,rfl,by decide +kernel,by decide +kernel⟩
section
variable {P:Program}{w:World}{K:PySem.W.Frag}{mg:Str->Option Value}{base:Heap}
theorem f_l{f:Addr}{fd:FuncData}(Fu:Fun K "_law_cell" "_law_cell" s_l f fd)(hb:z2t K fd ["script","k"] [])
 (m_len:mg "len"=none)
 : FnD P w K mg base 1 f fd ["script","k"] c_l:=by
 refine z2v Fu sc_l hb (fun ds h=>z0o h) fun cdv A outer s H E hr=>?_
 have nd:=sc_l.nd
 have hu:=hr.units
 refine⟨g_l,?_,fun ds hne=>(z2q (z0o hne)).symm⟩
 exact(z0d (z5s (z1n x3w (z0b 1) (z0r z2x m_len (by decide +kernel) (z0a (z0b 0) z0c)) (z1z _)) (z0h (z1m (z3l (z0b 0) (z0b 1)))) z2l)
  (z0h (z1m z0g)))
theorem f_e{f:Addr}{fd:FuncData}(Fu:Fun K "_law_digits" "_law_digits" s_e f fd)(hb:z2t K fd ["cell","P","size"] [])
 (m_range:mg "range"=none)
 (m_tuple:mg "tuple"=none)
 : FnD P w K mg base 1 f fd ["cell","P","size"] c_e:=by
 refine z2v Fu sc_e hb (fun ds h=>z0o h) fun cdv A outer s H E hr=>?_
 have nd:=sc_e.nd
 have hu:=hr.units
 refine⟨g_e,?_,fun ds hne=>(z2q (z0o hne)).symm⟩
 exact(z0d (z4p 3 (z5c z0c) nd)
  (z0d (z8z 4 z4c rfl (z2o (z0b 2) m_range)
  (z0d (y1b 3 (PD.ro (z0u z3i (z0b 0) (z0b 1))))
  (z0h (z1k 0 (PD.ro (z0u y1h (z0b 0) (z0b 1))) nd))) nd)
  (z0h (z1m (z2c z3n m_tuple (by decide +kernel) (z0a (z0b 3) z0c))))))
theorem f_k{f:Addr}{fd:FuncData}(Fu:Fun K "_law_back" "_law_back" s_k f fd)(hb:z2t K fd ["P","x"] [])
 : FnD P w K mg base 1 f fd ["P","x"] c_k:=by
 refine z2v Fu sc_k hb (fun ds h=>z0o h) fun cdv A outer s H E hr=>?_
 have nd:=sc_k.nd
 have hu:=hr.units
 refine⟨g_k,?_,fun ds hne=>(z2q (z0o hne)).symm⟩
 exact(z0d (z1k 2 (PD.ro z0g) nd)
  (z0d (z1k 3 (PD.ro (z0u y1g (z0b 0) z0g)) nd)
  (z0d (z9s 20000 z4c (z1n x1u (z0b 3) z0g (z1z _)) (z0d (z5s (z1n (z9x hu) (z0u z3i (z0b 3) z0g) z0g (z1z _)) (z0h (z1k 2 (PD.ro (z0u z3i (z0u z3e (z0b 2) (z0b 1)) (z0b 0))) nd)) z2l)
  (z0d (z1k 1 (PD.ro (z0u z3i (z0u z3e (z0b 1) (z0b 1)) (z0b 0))) nd)
  (z0h (z1k 3 (PD.ro (z0u y1h (z0b 3) z0g)) nd)))))
  (z0h (z1m (z0b 2))))))
theorem f_d{f:Addr}{fd:FuncData}(Fu:Fun K "_law_cleared" "_law_cleared" s_d f fd)(hb:z2t K fd ["P","row","first","at"] [])
 (m_tuple:mg "tuple"=none)
 (m_zip:mg "zip"=none)
 : FnD P w K mg base 1 f fd ["P","row","first","at"] z1s:=by
 refine z2v Fu sc_d hb (fun ds h=>z0o h) fun cdv A outer s H E hr=>?_
 have nd:=sc_d.nd
 have hu:=hr.units
 refine⟨z3w,?_,fun ds hne=>(z2q (z0o hne)).symm⟩
 exact(z0h (z1m (z2c z3n m_tuple (by decide +kernel) (z0a (PF.pd (z6h (z6g (z0b 1) (z0b 2) m_zip) (z6t (fun _ _ _ _ _=>(PD.ro (z0u z3i (z0u y1g (z0b 0) (z0u z3e (z3l (z0b 3) (z0b 5)) (z0b 1))) (z0b 2))))) nd rfl)) z0c))))
theorem f_b{f:Addr}{fd:FuncData}(Fu:Fun K "_law_reduced" "_law_reduced" s_b f fd)(hb:z2t K fd ["P","rows"] [])
 {a_k:Addr} {d_k:FuncData} (G_k:FnD P w K mg base 1 a_k d_k ["P","x"] c_k) (m_k:mg "_law_back"=some (.ref a_k))
 {a_d:Addr} {d_d:FuncData} (G_d:FnD P w K mg base 1 a_d d_d ["P","row","first","at"] z1s) (m_d:mg "_law_cleared"=some (.ref a_d))
 (m_len:mg "len"=none)
 (m_list:mg "list"=none)
 (m_range:mg "range"=none)
 (m_tuple:mg "tuple"=none)
 : FnF P w K mg base 2 f fd ["P","rows"] c_b:=by
 have F_k:=G_k.mono (k:=1) (by omega)
 have F_d:=G_d.mono (k:=1) (by omega)
 refine y4h Fu sc_b hb (fun ds h=>z5i h) fun cdv A outer s H E hr=>?_
 have nd:=sc_b.nd
 have hu:=hr.units
 refine⟨g_b,?_,fun ds hne=>(y1r (z5i hne)).symm⟩
 exact(z0d (z4p 2 (z7y (z0b 1) m_list (by decide +kernel)) nd)
  (z0d (z4p 3 (z5c z0c) nd)
  (z0d (z8z 4 z4c rfl (z2o (z0r z2x m_len (by decide +kernel) (z0a (z3l (z0b 1) z0g) z0c)) m_range)
  (z0d (z2z 5 (PIx.pic (z2o (z0r z2x m_len (by decide +kernel) (z0a (z0b 2) z0c)) m_range)) (z9u (fun _ _ _ _ _=>(z1n (z9w hu) (z3l (z3l (z0b 3) (z0b 0)) (z0b 5)) z0g (z1z _))) (fun _ _ _ _ _=>(PD.ro (z0b 0)))) nd rfl)
  (z0h (z5s (z1n x1u (z0r z2x m_len (by decide +kernel) (z0a (z0b 5) z0c)) z0g (z1z _)) (z0d (x3h 6 2 (z3l (z0b 5) z0g) nd)
  (z0d (z1k 7 (PD.ro (z1c F_k hr m_k (z0a (z0b 0) (z0a (z3l (z0b 6) (z0b 4)) z0c)))) nd)
  (z0d (z1k 6 (PD.ro (z2c z3n m_tuple (by decide +kernel) (z0a (PF.pd (z4q (z3t (z0b 6)) (z5a (fun _ _ _ _ _=>(PD.ro (z0u z3i (z0u z3e (z0b 8) (z0b 0)) (z0b 1))))) nd rfl)) z0c))) nd)
  (z0d (z4p 2 (z4q (z3t (z0b 2)) (z5a (fun _ _ _ _ _=>(PD.ro (z3z F_d hr m_d (z0a (z0b 1) (z0a (z0b 0) (z0a (z0b 7) (z0a (z0b 5) z0c)))))))) nd rfl) nd)
  (z0h (z4p 3 (y6o (z4q (z3t (z0b 3)) (z5a (fun _ _ _ _ _=>(PD.ro (z3z F_d hr m_d (z0a (z0b 1) (z0a (z0b 0) (z0a (z0b 7) (z0a (z0b 5) z0c)))))))) nd rfl) (z5c (z0a (z0b 6) z0c))) nd)))))) z2l))) nd)
  (z0h (y6g 3)))))
theorem f_n{f:Addr}{fd:FuncData}(Fu:Fun K "_law_idle" "_law_idle" s_n f fd)(hb:z2t K fd ["P","rows"] [])
 {a_b:Addr} {d_b:FuncData} (G_b:FnF P w K mg base 2 a_b d_b ["P","rows"] c_b) (m_b:mg "_law_reduced"=some (.ref a_b))
 (m_len:mg "len"=none)
 (m_range:mg "range"=none)
 : FnF P w K mg base 3 f fd ["P","rows"] c_n:=by
 have F_b:=G_b.mono (k:=2) (by omega)
 refine y4h Fu sc_n hb (fun ds h=>z5i h) fun cdv A outer s H E hr=>?_
 have nd:=sc_n.nd
 have hu:=hr.units
 refine⟨g_n,?_,fun ds hne=>(y1r (z5i hne)).symm⟩
 exact(z0d (z1k 2 (PD.ro (z0r z2x m_len (by decide +kernel) (z0a (z3l (z0b 1) z0g) z0c))) nd)
  (z0d (z1k 3 (PD.ro (z0r z2x m_len (by decide +kernel) (z0a (z0b 1) z0c))) nd)
  (z0d (z2z 4 (PIx.pic (z2o (z0b 3) m_range)) (z5a (fun _ _ _ _ _=>(PD.ro (z0u z5d (z0u z5d (z0u z5d (z3l (z0b 2) (z0b 0)) (z0u z3e (z7z (z0a z0g z0c)) (z0b 0))) (z7z (z0a z0g z0c))) (z0u z3e (z7z (z0a z0g z0c)) (z0u y1g (z0u y1g (z0b 4) z0g) (z0b 0))))))) nd rfl)
  (z0h (y6h (z4q (z3t (PF.pd (z4r F_b hr m_b (z0a (z0b 0) (z0a (z0b 4) z0c))))) (z9u (fun _ _ _ _ _=>(z1n (z9x hu) (y5b (z0b 0) podN (podS (z0b 3))) (z0u z3e (z7z (z0a z0g z0c)) (z0b 3)) (z1z _))) (fun _ _ _ _ _=>(PD.ro (y5b (z0b 0) (podS (z0b 3)) podN)))) nd rfl))))))
theorem f_f{f:Addr}{fd:FuncData}(Fu:Fun K "_law_number" "_law_number" s_f f fd)(hb:z2t K fd ["script"] [])
 {a_l:Addr} {d_l:FuncData} (G_l:FnD P w K mg base 1 a_l d_l ["script","k"] c_l) (m_l:mg "_law_cell"=some (.ref a_l))
 (m_abs:mg "abs"=none)
 : FnD P w K mg base 2 f fd ["script"] z3c:=by
 have F_l:=G_l.mono (k:=1) (by omega)
 refine z2v Fu sc_f hb (fun ds h=>z0o h) fun cdv A outer s H E hr=>?_
 have nd:=sc_f.nd
 have hu:=hr.units
 refine⟨z3b,?_,fun ds hne=>(z2q (z0o hne)).symm⟩
 exact(z0d (z5s (z1n (z9x hu) (z0u z3i (z0u y1h (z1c F_l hr m_l (z0a (z0b 0) (z0a z0g z0c))) z0g) z0g) z0g (z1z _)) (z0h (z1m (z0r x4m m_abs (by decide +kernel) (z0a (z1c F_l hr m_l (z0a (z0b 0) (z0a z0g z0c))) z0c)))) z2l)
  (z0d (z1k 1 (PD.ro z0g) nd)
  (z0d (z8z 2 z4c rfl (y2o (z9t 0))
  (z0h (z1k 1 (PD.ro (z0u z5d (z0u y6s (z0b 1) z0g) (z0u z3i (z0b 2) (z0u x3v z0g z0g)))) nd)) nd)
  (z0h (z1m (z0u y6s (z0b 1) (z0b 1)))))))
theorem f_j{f:Addr}{fd:FuncData}(Fu:Fun K "_law_prime" "_law_prime" s_j f fd)(hb:z2t K fd ["cell"] [])
 (m_any:mg "any"=none)
 (m_range:mg "range"=none)
 : FnD P w K mg base 1 f fd ["cell"] z2s:=by
 refine z2v Fu sc_j hb (fun ds h=>z0o h) fun cdv A outer s H E hr=>?_
 have nd:=sc_j.nd
 have hu:=hr.units
 refine⟨z4u,?_,fun ds hne=>(z2q (z0o hne)).symm⟩
 exact(z0d (z1k 1 (PD.ro (z0u z5d z0g (z0u z3i (z0b 0) z0g))) nd)
  (z0d (z9s 10000 z4c (z5r (z0r (x4l rfl) m_any (by decide +kernel) (z0a (PF.pd (z4q (PIx.pic (y5a z0g z0g m_range)) (z9u (fun _ _ _ _ _=>(z1n x3w (z0b 0) (z0b 2) (z1z _))) (fun _ _ _ _ _=>(PD.ro (y3u (z9x hu) (z0u z3i (z0b 2) (z0b 0)) z0g (z1z _))))) nd rfl)) z0c))) (z0h (z1k 1 (PD.ro (z0u z5d (z0b 1) z0g)) nd)))
  (z0h (z1m (z0b 1)))))
theorem f_i{f:Addr}{fd:FuncData}(Fu:Fun K "_law_tells" "_law_tells" s_i f fd)(hb:z2t K fd ["P","rows","goal","told","free"] [])
 (m_int:mg "int"=none)
 (m_isinstance:mg "isinstance"=none)
 (m_len:mg "len"=none)
 (m_sum:mg "sum"=none)
 (m_tuple:mg "tuple"=none)
 (m_zip:mg "zip"=none)
 : FnD P w K mg base 1 f fd ["P","rows","goal","told","free"] c_i:=by
 refine z2v Fu sc_i hb (fun ds h=>z0o h) fun cdv A outer s H E hr=>?_
 have nd:=sc_i.nd
 have hu:=hr.units
 refine⟨g_i,?_,fun ds hne=>(z2q (z0o hne)).symm⟩
 exact(z0d (z5s (PWD.pt (z8y (z6s (z5r (y3t z3m (z0b 3) m_isinstance (fun I q=>z4j I rfl m_tuple (by decide +kernel) q) y7g))) (z8y (z1n (z9w hu) (z0r z2x m_len (by decide +kernel) (z0a (z0b 3) z0c)) z0g (z1z _)) (z7x (z1n (z9w hu) (z3l (z0b 3) z0g) (z3l (PF.pd (z5c (z0a y1e (z0a y1e z0c)))) (z2c x0v m_int (by decide +kernel) (z0a (z0b 4) z0c))) (z1z _)))))) (z0h (z1m y8z)) z2l)
  (z0d (z5s (PWD.pt (z8y (z6s (z5r (y3t z3m (z3l (z0b 3) z0g) m_isinstance (fun I q=>z4j I rfl m_tuple (by decide +kernel) q) y7g))) (z7x (z1n (z9w hu) (z0r z2x m_len (by decide +kernel) (z0a (z3l (z0b 3) z0g) z0c)) (z3l (PF.pd (z5c (z0a (z0r z2x m_len (by decide +kernel) (z0a (z0b 1) z0c)) (z0a (z0r z2x m_len (by decide +kernel) (z0a (z0b 2) z0c)) z0c)))) (z2c x0v m_int (by decide +kernel) (z0a (z0b 4) z0c))) (z1z _))))) (z0h (z1m y8z)) z2l)
  (z0d (z5s (z5r (z0b 4)) (z0d (z2z 5 (z3t (PF.pd (y6n (z0b 1) (PF.pd (z5c (z0a (z0b 2) z0c)))))) (z5a (fun _ _ _ _ _=>(PD.ro (z0u z3i (z0r (x0u rfl) m_sum (by decide +kernel) (z0a (PF.pd (z6h (z6g (z0b 0) (z3l (z0b 4) z0g) m_zip) (z6t (fun _ _ _ _ _=>(PD.ro (z0u z3e (z0b 0) (z0b 1))))) (show List.Nodup (α:=Str) ["row","P","rows","goal","told","free","marks","total","","c"] from by decide +kernel) rfl)) z0c)) (z0b 1))))) nd rfl)
  (z0h (z1m (y3u (z9x hu) (z0b 5) (PF.pd (y6o (x3j (z5c (z0a z0g z0c)) (z0r z2x m_len (by decide +kernel) (z0a (z0b 1) z0c))) (z5c (z0a z0g z0c)))) (z1z _))))) z2l)
  (z0d (z1k 6 (PD.ro (z0u z3e (z7z (z0a z0g z0c)) (z0r z2x m_len (by decide +kernel) (z0a (z0b 2) z0c)))) nd)
  (z0d (x1j 7 8 z4c rfl (y8x (z9t 1) (x3n (z9t 3) z0g) m_zip)
  (z0h (z1k 6 (PD.ro (z2c z3n m_tuple (by decide +kernel) (z0a (PF.pd (z6h (z6g (z0b 6) (z0b 7) m_zip) (z6t (fun _ _ _ _ _=>(PD.ro (z0u z3i (z0u z5d (z0b 0) (z0u z3e (z0b 10) (z0b 1))) (z0b 2))))) nd rfl)) z0c))) nd)) nd)
  (z0h (z1m (y3u (z9x hu) (z0b 6) (z0b 2) (z1z _)))))))))
theorem f_r{f:Addr}{fd:FuncData}(Fu:Fun K "one_at" "one_at" s_r f fd)(hb:z2t K fd ["width","place"] [])
 (m_range:mg "range"=none)
 (m_tuple:mg "tuple"=none)
 : FnD P w K mg base 1 f fd ["width","place"] c_r:=by
 refine z2v Fu sc_r hb (fun ds h=>z0o h) fun cdv A outer s H E hr=>?_
 have nd:=sc_r.nd
 have hu:=hr.units
 refine⟨g_r,?_,fun ds hne=>(z2q (z0o hne)).symm⟩
 exact(z0h (z1m (z2c z3n m_tuple (by decide +kernel) (z0a (PF.pd (z4q (PIx.pic (z2o (z0b 0) m_range)) (z5a (fun _ _ _ _ _=>(PD.ro (x4y (z1n (z9x hu) (z0b 0) (z0b 2) (z1z _)) z0g z0g)))) nd rfl)) z0c))))
theorem f_on{f:Addr}{fd:FuncData}(Fu:Fun K "on" "on" s_on f fd)(hb:z2t K fd ["P","n"] [])
 : FnD P w K mg base 1 f fd ["P","n"] c_on:=by
 refine z2v Fu x3e hb (fun ds h=>z0o h) fun cdv A outer s H E hr=>?_
 have nd:=x3e.nd
 have hu:=hr.units
 refine⟨g_on,?_,fun ds hne=>(z2q (z0o hne)).symm⟩
 exact(z0h (z1m (z0u z3i (z0b 1) (z0b 0))))
theorem f_p{f:Addr}{fd:FuncData}(Fu:Fun K "cleared" "cleared" s_p f fd)(hb:z2t K fd ["P","row","lead","place"] [])
 {a_on:Addr} {d_on:FuncData} (G_on:FnD P w K mg base 1 a_on d_on ["P","n"] c_on) (m_on:mg "on"=some (.ref a_on))
 (m_tuple:mg "tuple"=none)
 (m_zip:mg "zip"=none)
 : FnD P w K mg base 2 f fd ["P","row","lead","place"] c_p:=by
 have F_on:=G_on.mono (k:=1) (by omega)
 refine z2v Fu sc_p hb (fun ds h=>z0o h) fun cdv A outer s H E hr=>?_
 have nd:=sc_p.nd
 have hu:=hr.units
 refine⟨g_p,?_,fun ds hne=>(z2q (z0o hne)).symm⟩
 exact(z0h (z1m (z2c z3n m_tuple (by decide +kernel) (z0a (PF.pd (z6h (z6g (z0b 1) (z0b 2) m_zip) (z6t (fun _ _ _ _ _=>(PD.ro (z3z F_on hr m_on (z0a (z0b 2) (z0a (z0u y1g (z0b 0) (z0u z3e (z3l (z0b 3) (z0b 5)) (z0b 1))) z0c)))))) nd rfl)) z0c))))
theorem f_t{f:Addr}{fd:FuncData}(Fu:Fun K "back" "back" s_t f fd)(hb:z2t K fd ["P","n"] [])
 {a_NoNumber:Addr} (m_NoNumber:mg "NoNumber"=some (.ref a_NoNumber))
 {a_on:Addr} {d_on:FuncData} (G_on:FnD P w K mg base 1 a_on d_on ["P","n"] c_on) (m_on:mg "on"=some (.ref a_on))
 (X_NoNumber:XOk K mg .noNumber a_NoNumber)
 : FnD P w K mg base 2 f fd ["P","n"] c_t:=by
 have F_on:=G_on.mono (k:=1) (by omega)
 refine z2v Fu sc_t hb (fun ds h=>z0o h) fun cdv A outer s H E hr=>?_
 have nd:=sc_t.nd
 have hu:=hr.units
 refine⟨g_t,?_,fun ds hne=>(z2q (z0o hne)).symm⟩
 exact(z0d (z1k 2 (PD.ro (z1c F_on hr m_on (z0a (z0b 0) (z0a (z0b 1) z0c)))) nd)
  (z0d (z5s (z1n (z9x hu) (z0b 2) z0g (z1z _)) (z0h (y8v X_NoNumber y1e rfl)) z2l)
  (z0d (z1k 3 (PD.ro z0g) nd)
  (z0d (z9s 100000 z4c (z1n (z9w hu) (z0b 2) z0g (z1z _)) (z0d (z1k 3 (PD.ro (z1c F_on hr m_on (z0a (z0b 0) (z0a (z0u z3e (x0j (z0b 3)) (z0u y1h (z0b 0) (z0b 2))) z0c)))) nd)
  (z0h (z1k 2 (PD.ro (z0u z3i (z0b 0) (z0b 2))) nd))))
  (z0h (z1m (z0b 3)))))))
theorem f_s{f:Addr}{fd:FuncData}(Fu:Fun K "times" "times" s_s f fd)(hb:z2t K fd ["P","row","number"] [])
 {a_on:Addr} {d_on:FuncData} (G_on:FnD P w K mg base 1 a_on d_on ["P","n"] c_on) (m_on:mg "on"=some (.ref a_on))
 (m_tuple:mg "tuple"=none)
 : FnD P w K mg base 2 f fd ["P","row","number"] c_s:=by
 have F_on:=G_on.mono (k:=1) (by omega)
 refine z2v Fu sc_s hb (fun ds h=>z0o h) fun cdv A outer s H E hr=>?_
 have nd:=sc_s.nd
 have hu:=hr.units
 refine⟨g_s,?_,fun ds hne=>(z2q (z0o hne)).symm⟩
 exact(z0h (z1m (z2c z3n m_tuple (by decide +kernel) (z0a (PF.pd (z4q (z3t (z0b 1)) (z5a (fun _ _ _ _ _=>(PD.ro (z3z F_on hr m_on (z0a (z0b 1) (z0a (z0u z3e (z0b 3) (z0b 0)) z0c)))))) nd rfl)) z0c))))
theorem f_o{f:Addr}{fd:FuncData}(Fu:Fun K "lead_row" "lead_row" s_o f fd)(hb:z2t K fd ["P","rows","place"] [])
 {a_t:Addr} {d_t:FuncData} (G_t:FnD P w K mg base 2 a_t d_t ["P","n"] c_t) (m_t:mg "back"=some (.ref a_t))
 {a_s:Addr} {d_s:FuncData} (G_s:FnD P w K mg base 2 a_s d_s ["P","row","number"] c_s) (m_s:mg "times"=some (.ref a_s))
 : FnD P w K mg base 3 f fd ["P","rows","place"] c_o:=by
 have F_t:=G_t.mono (k:=2) (by omega)
 have F_s:=G_s.mono (k:=2) (by omega)
 refine z2v Fu sc_o hb (fun ds h=>z0o h) fun cdv A outer s H E hr=>?_
 have nd:=sc_o.nd
 have hu:=hr.units
 refine⟨g_o,?_,fun ds hne=>(z2q (z0o hne)).symm⟩
 exact(z0d (z8z 3 z4c rfl (y2o (z9t 1))
  (z0h (z5s (z1n (z9w hu) (z3l (z0b 3) (z0b 2)) z0g (z1z _)) (z0h (z1m (z1c F_s hr m_s (z0a (z0b 0) (z0a (z0b 3) (z0a (z1c F_t hr m_t (z0a (z0b 0) (z0a (z3l (z0b 3) (z0b 2)) z0c))) z0c)))))) z2l)) nd)
  (z0h (z1m y1f)))
theorem f_g{f:Addr}{fd:FuncData}(Fu:Fun K "steps_form" "steps_form" s_g f fd)(hb:z2t K fd ["P","rows"] [])
 {a_p:Addr} {d_p:FuncData} (G_p:FnD P w K mg base 2 a_p d_p ["P","row","lead","place"] c_p) (m_p:mg "cleared"=some (.ref a_p))
 {a_o:Addr} {d_o:FuncData} (G_o:FnD P w K mg base 3 a_o d_o ["P","rows","place"] c_o) (m_o:mg "lead_row"=some (.ref a_o))
 (m_len:mg "len"=none)
 (m_range:mg "range"=none)
 {a_s:Addr} {d_s:FuncData} (G_s:FnD P w K mg base 2 a_s d_s ["P","row","number"] c_s) (m_s:mg "times"=some (.ref a_s))
 : FnF P w K mg base 4 f fd ["P","rows"] c_g:=by
 have F_p:=G_p.mono (k:=3) (by omega)
 have F_o:=G_o.mono (k:=3) (by omega)
 have F_s:=G_s.mono (k:=3) (by omega)
 refine y4h Fu sc_g hb (fun ds h=>z5i h) fun cdv A outer s H E hr=>?_
 have nd:=sc_g.nd
 have hu:=hr.units
 refine⟨g_g,?_,fun ds hne=>(y1r (z5i hne)).symm⟩
 exact(z0d (z2z 2 (z3t (z0b 1)) (z5a (fun _ _ _ _ _=>(PD.ro (z3z F_s hr m_s (z0a (z0b 1) (z0a (z0b 0) (z0a z0g z0c))))))) nd rfl)
  (z0d (z4p 3 (z5c z0c) nd)
  (z0d (z8z 4 z4c rfl (z2o (z0r z2x m_len (by decide +kernel) (z0a (z3l (z0b 1) z0g) z0c)) m_range)
  (z0d (z1k 5 (PD.ro (z1c F_o hr m_o (z0a (z0b 0) (z0a (z0b 2) (z0a (z0b 4) z0c))))) nd)
  (z0h (z5s (z1n y6r (z0b 5) y1f (z1z _)) (z0d (z2z 2 (z3t (z0b 2)) (z5a (fun _ _ _ _ _=>(PD.ro (z3z F_p hr m_p (z0a (z0b 1) (z0a (z0b 0) (z0a (z0b 6) (z0a (z0b 5) z0c)))))))) nd rfl)
  (z0d (z2z 3 (z3t (z0b 3)) (z5a (fun _ _ _ _ _=>(PD.ro (z3z F_p hr m_p (z0a (z0b 1) (z0a (z0b 0) (z0a (z0b 6) (z0a (z0b 5) z0c)))))))) nd rfl)
  (z0h (y1b 3 (PD.ro (z0b 5)))))) z2l))) nd)
  (z0h (y6g 3)))))
theorem f_m{f:Addr}{fd:FuncData}(Fu:Fun K "idle_sums" "idle_sums" s_m f fd)(hb:z2t K fd ["P","rows"] [])
 (m_any:mg "any"=none)
 (m_enumerate:mg "enumerate"=none)
 (m_len:mg "len"=none)
 {a_r:Addr} {d_r:FuncData} (G_r:FnD P w K mg base 1 a_r d_r ["width","place"] c_r) (m_r:mg "one_at"=some (.ref a_r))
 {a_g:Addr} {d_g:FuncData} (G_g:FnF P w K mg base 4 a_g d_g ["P","rows"] c_g) (m_g:mg "steps_form"=some (.ref a_g))
 (m_tuple:mg "tuple"=none)
 : FnF P w K mg base 5 f fd ["P","rows"] c_m:=by
 have F_r:=G_r.mono (k:=4) (by omega)
 have F_g:=G_g.mono (k:=4) (by omega)
 refine y4h Fu sc_m hb (fun ds h=>z5i h) fun cdv A outer s H E hr=>?_
 have nd:=sc_m.nd
 have hu:=hr.units
 refine⟨g_m,?_,fun ds hne=>(y1r (z5i hne)).symm⟩
 exact(z0d (z1k 2 (PD.ro (z0r z2x m_len (by decide +kernel) (z0a (z3l (z0b 1) z0g) z0c))) nd)
  (z0d (y2m 3 (y6l (z0b 1) m_enumerate) (z6t (fun _ _ _ _ _=>(PD.ro (z0u z5d (z2c z3n m_tuple (by decide +kernel) (z0a (z0b 1) z0c)) (z3z F_r hr m_r (z0a (z0r z2x m_len (by decide +kernel) (z0a (z0b 3) z0c)) (z0a (z0b 0) z0c))))))) nd rfl)
  (z0h (y6h (z4q (z3t (PF.pd (z4r F_g hr m_g (z0a (z0b 0) (z0a (z0b 3) z0c))))) (z9u (fun _ _ _ _ _=>(z6s (z5r (z0r (x2s rfl) m_any (by decide +kernel) (z0a (y5b (z0b 0) podN (podS (z0b 3))) z0c))))) (fun _ _ _ _ _=>(PD.ro (y5b (z0b 0) (podS (z0b 3)) podN)))) nd rfl)))))
theorem f_a{f:Addr}{fd:FuncData}(Fu:Fun K "brought_together" "brought_together" s_a f fd)(hb:z2t K fd ["P","row","other"] [])
 {a_on:Addr} {d_on:FuncData} (G_on:FnD P w K mg base 1 a_on d_on ["P","n"] c_on) (m_on:mg "on"=some (.ref a_on))
 (m_sum:mg "sum"=none)
 (m_zip:mg "zip"=none)
 : FnD P w K mg base 2 f fd ["P","row","other"] c_a:=by
 have F_on:=G_on.mono (k:=1) (by omega)
 refine z2v Fu sc_a hb (fun ds h=>z0o h) fun cdv A outer s H E hr=>?_
 have nd:=sc_a.nd
 have hu:=hr.units
 refine⟨g_a,?_,fun ds hne=>(z2q (z0o hne)).symm⟩
 exact(z0h (z1m (z1c F_on hr m_on (z0a (z0b 0) (z0a (z0r (x0u rfl) m_sum (by decide +kernel) (z0a (PF.pd (z6h (z6g (z0b 1) (z0b 2) m_zip) (z6t (fun _ _ _ _ _=>(PD.ro (z0u z3e (z0b 0) (z0b 1))))) nd rfl)) z0c)) z0c)))))
theorem f_c{f:Addr}{fd:FuncData}(Fu:Fun K "shutting_row" "shutting_row" s_c f fd)(hb:z2t K fd ["P","rows","goal"] [])
 {a_t:Addr} {d_t:FuncData} (G_t:FnD P w K mg base 2 a_t d_t ["P","n"] c_t) (m_t:mg "back"=some (.ref a_t))
 {a_a:Addr} {d_a:FuncData} (G_a:FnD P w K mg base 2 a_a d_a ["P","row","other"] c_a) (m_a:mg "brought_together"=some (.ref a_a))
 {a_m:Addr} {d_m:FuncData} (G_m:FnF P w K mg base 5 a_m d_m ["P","rows"] c_m) (m_m:mg "idle_sums"=some (.ref a_m))
 (m_len:mg "len"=none)
 (m_range:mg "range"=none)
 {a_s:Addr} {d_s:FuncData} (G_s:FnD P w K mg base 2 a_s d_s ["P","row","number"] c_s) (m_s:mg "times"=some (.ref a_s))
 (m_tuple:mg "tuple"=none)
 : FnD P w K mg base 6 f fd ["P","rows","goal"] c_c:=by
 have F_t:=G_t.mono (k:=5) (by omega)
 have F_a:=G_a.mono (k:=5) (by omega)
 have F_m:=G_m.mono (k:=5) (by omega)
 have F_s:=G_s.mono (k:=5) (by omega)
 refine z2v Fu sc_c hb (fun ds h=>z0o h) fun cdv A outer s H E hr=>?_
 have nd:=sc_c.nd
 have hu:=hr.units
 refine⟨g_c,?_,fun ds hne=>(z2q (z0o hne)).symm⟩
 exact(z0d (y2l 3 (PIx.pic (z2o (z0r z2x m_len (by decide +kernel) (z0a (z0b 2) z0c)) m_range)) (x1m (fun _ _ _ _ _ _=>(PD.ro (z2c z3n m_tuple (by decide +kernel) (z0a (PF.pd (z4q (z3t (z0b 2)) (z5a (fun _ _ _ _ _=>(PD.ro (z3l (z0b 0) (z0b 1))))) (show List.Nodup (α:=Str) ["place","P","rows","goal","columns","row","number"] from by decide +kernel) rfl)) z0c))))) nd rfl)
  (z0d (z8z 4 z4c rfl (y2o (PF.ro (z4r F_m hr m_m (z0a (z0b 0) (z0a (z0b 3) z0c)))))
  (z0d (z1k 5 (PD.ro (z1c F_a hr m_a (z0a (z0b 0) (z0a (z0b 4) (z0a (z0b 2) z0c))))) nd)
  (z0h (z5s (z1n (z9w hu) (z0b 5) z0g (z1z _)) (z0h (z1m (z1c F_s hr m_s (z0a (z0b 0) (z0a (z0b 4) (z0a (z1c F_t hr m_t (z0a (z0b 0) (z0a (z0b 5) z0c))) z0c)))))) z2l))) nd)
  (z0h (z1m y1f))))
theorem f_h{f:Addr}{fd:FuncData}(Fu:Fun K "weights_to" "weights_to" s_h f fd)(hb:z2t K fd ["P","rows","goal"] [])
 {a_m:Addr} {d_m:FuncData} (G_m:FnF P w K mg base 5 a_m d_m ["P","rows"] c_m) (m_m:mg "idle_sums"=some (.ref a_m))
 (m_list:mg "list"=none)
 {a_s:Addr} {d_s:FuncData} (G_s:FnD P w K mg base 2 a_s d_s ["P","row","number"] c_s) (m_s:mg "times"=some (.ref a_s))
 : FnD P w K mg base 6 f fd ["P","rows","goal"] c_h:=by
 have F_m:=G_m.mono (k:=5) (by omega)
 have F_s:=G_s.mono (k:=5) (by omega)
 refine z2v Fu sc_h hb (fun ds h=>z0o h) fun cdv A outer s H E hr=>?_
 have nd:=sc_h.nd
 have hu:=hr.units
 refine⟨g_h,?_,fun ds hne=>(z2q (z0o hne)).symm⟩
 exact(z0d (z4p 3 (z4r F_m hr m_m (z0a (z0b 0) (z0a (PF.pd (y6o (z5c (z0a (z0b 2) z0c)) (z7y (z0b 1) m_list (by decide +kernel)))) z0c))) nd)
  (z0d (z5s (PWD.pt (z8y (z6s (x1i (z0b 3))) (z7x (z1n (z9x hu) (z3l (z3l (z0b 3) z0g) z0g) z0g (z1z _))))) (z0h (z1m y1f)) z2l)
  (z0h (z1m (z1c F_s hr m_s (z0a (z0b 0) (z0a (y5b (z3l (z0b 3) z0g) (podS z0g) podN) (z0a (x0j z0g) z0c))))))))
theorem f_q{f:Addr}{fd:FuncData}(Fu:Fun K "solved" "solved" s_q f fd)(hb:z2t K fd ["P","rows","goal"] [])
 {a_c:Addr} {d_c:FuncData} (G_c:FnD P w K mg base 6 a_c d_c ["P","rows","goal"] c_c) (m_c:mg "shutting_row"=some (.ref a_c))
 {a_h:Addr} {d_h:FuncData} (G_h:FnD P w K mg base 6 a_h d_h ["P","rows","goal"] c_h) (m_h:mg "weights_to"=some (.ref a_h))
 : FnD P w K mg base 7 f fd ["P","rows","goal"] c_q:=by
 have F_c:=G_c.mono (k:=6) (by omega)
 have F_h:=G_h.mono (k:=6) (by omega)
 refine z2v Fu sc_q hb (fun ds h=>z0o h) fun cdv A outer s H E hr=>?_
 have nd:=sc_q.nd
 have hu:=hr.units
 refine⟨g_q,?_,fun ds hne=>(z2q (z0o hne)).symm⟩
 exact(z0d (z1k 3 (PD.ro (z1c F_h hr m_h (z0a (z0b 0) (z0a (z0b 1) (z0a (z0b 2) z0c))))) nd)
  (z0d (z5s (z1n y6r (z0b 3) y1f (z1z _)) (z0h (z1m (z7z (z0a y1e (z0a (z0b 3) z0c))))) z2l)
  (z0h (z1m (z7z (z0a y1e (z0a (z1c F_c hr m_c (z0a (z0b 0) (z0a (z0b 1) (z0a (z0b 2) z0c)))) z0c)))))))
theorem x5j{f:Addr}{fd:FuncData}(Fu:Fun K "law" "law" z9p f fd)(hb:z2t K fd ["script"] [])
 {a_l:Addr} {d_l:FuncData} (G_l:FnD P w K mg base 1 a_l d_l ["script","k"] c_l) (m_l:mg "_law_cell"=some (.ref a_l))
 {a_e:Addr} {d_e:FuncData} (G_e:FnD P w K mg base 1 a_e d_e ["cell","P","size"] c_e) (m_e:mg "_law_digits"=some (.ref a_e))
 {a_n:Addr} {d_n:FuncData} (G_n:FnF P w K mg base 3 a_n d_n ["P","rows"] c_n) (m_n:mg "_law_idle"=some (.ref a_n))
 {a_f:Addr} {d_f:FuncData} (G_f:FnD P w K mg base 2 a_f d_f ["script"] z3c) (m_f:mg "_law_number"=some (.ref a_f))
 {a_j:Addr} {d_j:FuncData} (G_j:FnD P w K mg base 1 a_j d_j ["cell"] z2s) (m_j:mg "_law_prime"=some (.ref a_j))
 {a_b:Addr} {d_b:FuncData} (G_b:FnF P w K mg base 2 a_b d_b ["P","rows"] c_b) (m_b:mg "_law_reduced"=some (.ref a_b))
 {a_i:Addr} {d_i:FuncData} (G_i:FnD P w K mg base 1 a_i d_i ["P","rows","goal","told","free"] c_i) (m_i:mg "_law_tells"=some (.ref a_i))
 {a_m:Addr} {d_m:FuncData} (G_m:FnF P w K mg base 5 a_m d_m ["P","rows"] c_m) (m_m:mg "idle_sums"=some (.ref a_m))
 (m_isinstance:mg "isinstance"=none)
 (m_len:mg "len"=none)
 (m_list:mg "list"=none)
 (m_range:mg "range"=none)
 {a_q:Addr} {d_q:FuncData} (G_q:FnD P w K mg base 7 a_q d_q ["P","rows","goal"] c_q) (m_q:mg "solved"=some (.ref a_q))
 {a_g:Addr} {d_g:FuncData} (G_g:FnF P w K mg base 4 a_g d_g ["P","rows"] c_g) (m_g:mg "steps_form"=some (.ref a_g))
 : FnD P w K mg base 8 f fd ["script"] c_law:=by
 have F_l:=G_l.mono (k:=7) (by omega)
 have F_e:=G_e.mono (k:=7) (by omega)
 have F_n:=G_n.mono (k:=7) (by omega)
 have F_f:=G_f.mono (k:=7) (by omega)
 have F_j:=G_j.mono (k:=7) (by omega)
 have F_b:=G_b.mono (k:=7) (by omega)
 have F_i:=G_i.mono (k:=7) (by omega)
 have F_m:=G_m.mono (k:=7) (by omega)
 have F_q:=G_q.mono (k:=7) (by omega)
 have F_g:=G_g.mono (k:=7) (by omega)
 refine z2v Fu x0e hb (fun ds h=>z0o h) fun cdv A outer s H E hr=>?_
 have nd:=x0e.nd
 have hu:=hr.units
 refine⟨x2k,?_,fun ds hne=>(z2q (z0o hne)).symm⟩
 exact(z0d (z1k 1 (PD.ro (z1c F_j hr m_j (z0a (z1c F_l hr m_l (z0a (z0b 0) (z0a z0g z0c))) z0c))) nd)
  (z0d (z1k 2 (PD.ro (z0u z5d z0g (z0u z3i (z1c F_l hr m_l (z0a (z0b 0) (z0a z0g z0c))) z0g))) nd)
  (z0d (z1k 3 (PD.ro (z0u z5d z0g (z0u z3i (z0u y1h (z1c F_l hr m_l (z0a (z0b 0) (z0a z0g z0c))) z0g) z0g))) nd)
  (z0d (z1k 4 (PD.ro (z1c F_e hr m_e (z0a (z1c F_f hr m_f (z0a (z0b 0) z0c)) (z0a (z0b 1) (z0a (z0u z3e (z0b 2) (z0b 3)) z0c))))) nd)
  (z0d (z2z 5 (PIx.pic (z2o (z0b 3) m_range)) (z5a (fun _ _ _ _ _=>(PD.ro (y5b (z0b 5) (podS (z0u z3e (z0b 0) (z0b 3))) (podS (z0u z5d (z0u z3e (z0b 0) (z0b 3)) (z0b 3))))))) nd rfl)
  (z0d (z1k 6 (PD.ro (z1c F_e hr m_e (z0a (z1c F_l hr m_l (z0a (z0b 0) (z0a z0g z0c))) (z0a (z0b 1) (z0a (z0b 2) z0c))))) nd)
  (z0d (z4p 7 (z4r F_g hr m_g (z0a (z0b 1) (z0a (PF.pd (z7y (z0b 5) m_list (by decide +kernel))) z0c))) nd)
  (z0d (z5s (PWD.pt (z8y (z6s (z5r (y3t z4w (z0b 7) m_isinstance (fun I q=>z4j I rfl m_list (by decide +kernel) q) x0o))) (z7x (z1n (z9w hu) (z0b 7) (PF.pd (z4r F_b hr m_b (z0a (z0b 1) (z0a (z0b 5) z0c)))) (z1z _))))) (z0h (z1m y8z)) z2l)
  (z0d (z4p 8 (z4r F_m hr m_m (z0a (z0b 1) (z0a (PF.pd (z7y (z0b 5) m_list (by decide +kernel))) z0c))) nd)
  (z0d (z5s (PWD.pt (z8y (z6s (z5r (y3t z4w (z0b 8) m_isinstance (fun I q=>z4j I rfl m_list (by decide +kernel) q) x0o))) (z7x (z1n (z9w hu) (z0b 8) (PF.pd (z4r F_n hr m_n (z0a (z0b 1) (z0a (z0b 5) z0c)))) (z1z _))))) (z0h (z1m y8z)) z2l)
  (z0d (z1k 9 (PD.ro (y3u x1u (z0r z2x m_len (by decide +kernel) (z0a (PF.pd (z4r F_b hr m_b (z0a (z0b 1) (z0a (PF.pd (y6n (z0b 5) (PF.pd (z5c (z0a (z0b 6) z0c))))) z0c)))) z0c)) (z0r z2x m_len (by decide +kernel) (z0a (z0b 7) z0c)) (z1z _))) nd)
  (z0h (z1m (z1c F_i hr m_i (z0a (z0b 1) (z0a (z0b 5) (z0a (z0b 6) (z0a (z1c F_q hr m_q (z0a (z0b 1) (z0a (PF.pd (z7y (z0b 5) m_list (by decide +kernel))) (z0a (z0b 6) z0c)))) (z0a (z0b 9) z0c)))))))))))))))))))
end
theorem x1z{α:Type}{p:List α->Prop}(h:∀a,p [a])(us:List α)(hl:us.length=1):p us:=by
 obtain⟨a,rfl⟩:∃a,us=[a]:=by
  match us,hl with
  | [a],_=>exact⟨a,rfl⟩
 exact h a
theorem y0b{α:Type}{p:List α->Prop}(h:∀a b,p [a,b])(us:List α)(hl:us.length=2):p us:=by
 obtain⟨a,b,rfl⟩:∃a b,us=[a,b]:=by
  match us,hl with
  | [a,b],_=>exact⟨a,b,rfl⟩
 exact h a b
theorem y2w{α:Type}{p:List α->Prop}(h:∀a b c,p [a,b,c])(us:List α)(hl:us.length=3):p us:=by
 obtain⟨a,b,c,rfl⟩:∃a b c,us=[a,b,c]:=by
  match us,hl with
  | [a,b,c],_=>exact⟨a,b,c,rfl⟩
 exact h a b c
theorem x3z{α:Type}{p:List α->Prop}(h:∀a b c d,p [a,b,c,d])(us:List α)(hl:us.length=4):p us:=by
 obtain⟨a,b,c,d,rfl⟩:∃a b c d,us=[a,b,c,d]:=by
  match us,hl with
  | [a,b,c,d],_=>exact⟨a,b,c,d,rfl⟩
 exact h a b c d
theorem x5c{α:Type}{p:List α->Prop}(h:∀a b c d e,p [a,b,c,d,e])(us:List α)(hl:us.length=5):p us:=by
 obtain⟨a,b,c,d,e,rfl⟩:∃a b c d e,us=[a,b,c,d,e]:=by
  match us,hl with
  | [a,b,c,d,e],_=>exact⟨a,b,c,d,e,rfl⟩
 exact h a b c d e
theorem all_mk{l:PySem.W.OpenLaw}{w:World}{K:PySem.W.Frag}{h:Heap}{mg:Str->Option Value}{fa:Addr}(X:K.In h)(G:h.Ns mainGlobals mg)(hfa:mg "law"=some (.ref fa))
 {a_l:Addr} {od_l an_l:Option Addr} {sl_l:Array (Option Value)} {oc_l kV_l dc_l pm_l cd_l ct_l:Value}
 {a_e:Addr} {od_e an_e:Option Addr} {sl_e:Array (Option Value)} {oc_e kV_e dc_e pm_e cd_e ct_e:Value}
 {a_k:Addr} {od_k an_k:Option Addr} {sl_k:Array (Option Value)} {oc_k kV_k dc_k pm_k cd_k ct_k:Value}
 {a_d:Addr} {od_d an_d:Option Addr} {sl_d:Array (Option Value)} {oc_d kV_d dc_d pm_d cd_d ct_d:Value}
 {a_b:Addr} {od_b an_b:Option Addr} {sl_b:Array (Option Value)} {oc_b kV_b dc_b pm_b cd_b ct_b:Value}
 {a_n:Addr} {od_n an_n:Option Addr} {sl_n:Array (Option Value)} {oc_n kV_n dc_n pm_n cd_n ct_n:Value}
 {a_f:Addr} {od_f an_f:Option Addr} {sl_f:Array (Option Value)} {oc_f kV_f dc_f pm_f cd_f ct_f:Value}
 {a_j:Addr} {od_j an_j:Option Addr} {sl_j:Array (Option Value)} {oc_j kV_j dc_j pm_j cd_j ct_j:Value}
 {a_i:Addr} {od_i an_i:Option Addr} {sl_i:Array (Option Value)} {oc_i kV_i dc_i pm_i cd_i ct_i:Value}
 {a_r:Addr} {od_r an_r:Option Addr} {sl_r:Array (Option Value)} {oc_r kV_r dc_r pm_r cd_r ct_r:Value}
 {a_on:Addr} {od_on an_on:Option Addr} {sl_on:Array (Option Value)} {oc_on kV_on dc_on pm_on cd_on ct_on:Value}
 {a_p:Addr} {od_p an_p:Option Addr} {sl_p:Array (Option Value)} {oc_p kV_p dc_p pm_p cd_p ct_p:Value}
 {a_t:Addr} {od_t an_t:Option Addr} {sl_t:Array (Option Value)} {oc_t kV_t dc_t pm_t cd_t ct_t:Value}
 {a_s:Addr} {od_s an_s:Option Addr} {sl_s:Array (Option Value)} {oc_s kV_s dc_s pm_s cd_s ct_s:Value}
 {a_o:Addr} {od_o an_o:Option Addr} {sl_o:Array (Option Value)} {oc_o kV_o dc_o pm_o cd_o ct_o:Value}
 {a_g:Addr} {od_g an_g:Option Addr} {sl_g:Array (Option Value)} {oc_g kV_g dc_g pm_g cd_g ct_g:Value}
 {a_m:Addr} {od_m an_m:Option Addr} {sl_m:Array (Option Value)} {oc_m kV_m dc_m pm_m cd_m ct_m:Value}
 {a_a:Addr} {od_a an_a:Option Addr} {sl_a:Array (Option Value)} {oc_a kV_a dc_a pm_a cd_a ct_a:Value}
 {a_c:Addr} {od_c an_c:Option Addr} {sl_c:Array (Option Value)} {oc_c kV_c dc_c pm_c cd_c ct_c:Value}
 {a_h:Addr} {od_h an_h:Option Addr} {sl_h:Array (Option Value)} {oc_h kV_h dc_h pm_h cd_h ct_h:Value}
 {a_q:Addr} {od_q an_q:Option Addr} {sl_q:Array (Option Value)} {oc_q kV_q dc_q pm_q cd_q ct_q:Value}
 {a_law:Addr} {od_law an_law:Option Addr} {sl_law:Array (Option Value)} {oc_law kV_law dc_law pm_law cd_law ct_law:Value}
 (a1_l:PySem.W.nsIn K mainGlobals "_law_cell"=some (some (.ref a_l))) (l1_l:K.lookup a_l=some ⟨oc_l,od_l,.func (PySem.W.fnOf "_law_cell" "_law_cell" (z0x s_l) (z0q s_l) (z0e s_l) .none kV_l dc_l pm_l an_l cd_l ct_l),sl_l⟩) (c1_l:PySem.W.codeIn K cd_l "_law_cell"=true) (k1_l:PySem.W.keepIn K (.ref a_l)=true)
 (a1_e:PySem.W.nsIn K mainGlobals "_law_digits"=some (some (.ref a_e))) (l1_e:K.lookup a_e=some ⟨oc_e,od_e,.func (PySem.W.fnOf "_law_digits" "_law_digits" (z0x s_e) (z0q s_e) (z0e s_e) .none kV_e dc_e pm_e an_e cd_e ct_e),sl_e⟩) (c1_e:PySem.W.codeIn K cd_e "_law_digits"=true) (k1_e:PySem.W.keepIn K (.ref a_e)=true)
 (a1_k:PySem.W.nsIn K mainGlobals "_law_back"=some (some (.ref a_k))) (l1_k:K.lookup a_k=some ⟨oc_k,od_k,.func (PySem.W.fnOf "_law_back" "_law_back" (z0x s_k) (z0q s_k) (z0e s_k) .none kV_k dc_k pm_k an_k cd_k ct_k),sl_k⟩) (c1_k:PySem.W.codeIn K cd_k "_law_back"=true) (k1_k:PySem.W.keepIn K (.ref a_k)=true)
 (a1_d:PySem.W.nsIn K mainGlobals "_law_cleared"=some (some (.ref a_d))) (l1_d:K.lookup a_d=some ⟨oc_d,od_d,.func (PySem.W.fnOf "_law_cleared" "_law_cleared" (z0x s_d) (z0q s_d) (z0e s_d) .none kV_d dc_d pm_d an_d cd_d ct_d),sl_d⟩) (c1_d:PySem.W.codeIn K cd_d "_law_cleared"=true) (k1_d:PySem.W.keepIn K (.ref a_d)=true)
 (a1_b:PySem.W.nsIn K mainGlobals "_law_reduced"=some (some (.ref a_b))) (l1_b:K.lookup a_b=some ⟨oc_b,od_b,.func (PySem.W.fnOf "_law_reduced" "_law_reduced" (z0x s_b) (z0q s_b) (z0e s_b) .none kV_b dc_b pm_b an_b cd_b ct_b),sl_b⟩) (c1_b:PySem.W.codeIn K cd_b "_law_reduced"=true) (k1_b:PySem.W.keepIn K (.ref a_b)=true)
 (a1_n:PySem.W.nsIn K mainGlobals "_law_idle"=some (some (.ref a_n))) (l1_n:K.lookup a_n=some ⟨oc_n,od_n,.func (PySem.W.fnOf "_law_idle" "_law_idle" (z0x s_n) (z0q s_n) (z0e s_n) .none kV_n dc_n pm_n an_n cd_n ct_n),sl_n⟩) (c1_n:PySem.W.codeIn K cd_n "_law_idle"=true) (k1_n:PySem.W.keepIn K (.ref a_n)=true)
 (a1_f:PySem.W.nsIn K mainGlobals "_law_number"=some (some (.ref a_f))) (l1_f:K.lookup a_f=some ⟨oc_f,od_f,.func (PySem.W.fnOf "_law_number" "_law_number" (z0x s_f) (z0q s_f) (z0e s_f) .none kV_f dc_f pm_f an_f cd_f ct_f),sl_f⟩) (c1_f:PySem.W.codeIn K cd_f "_law_number"=true) (k1_f:PySem.W.keepIn K (.ref a_f)=true)
 (a1_j:PySem.W.nsIn K mainGlobals "_law_prime"=some (some (.ref a_j))) (l1_j:K.lookup a_j=some ⟨oc_j,od_j,.func (PySem.W.fnOf "_law_prime" "_law_prime" (z0x s_j) (z0q s_j) (z0e s_j) .none kV_j dc_j pm_j an_j cd_j ct_j),sl_j⟩) (c1_j:PySem.W.codeIn K cd_j "_law_prime"=true) (k1_j:PySem.W.keepIn K (.ref a_j)=true)
 (a1_i:PySem.W.nsIn K mainGlobals "_law_tells"=some (some (.ref a_i))) (l1_i:K.lookup a_i=some ⟨oc_i,od_i,.func (PySem.W.fnOf "_law_tells" "_law_tells" (z0x s_i) (z0q s_i) (z0e s_i) .none kV_i dc_i pm_i an_i cd_i ct_i),sl_i⟩) (c1_i:PySem.W.codeIn K cd_i "_law_tells"=true) (k1_i:PySem.W.keepIn K (.ref a_i)=true)
 (a1_r:PySem.W.nsIn K mainGlobals "one_at"=some (some (.ref a_r))) (l1_r:K.lookup a_r=some ⟨oc_r,od_r,.func (PySem.W.fnOf "one_at" "one_at" (z0x s_r) (z0q s_r) (z0e s_r) .none kV_r dc_r pm_r an_r cd_r ct_r),sl_r⟩) (c1_r:PySem.W.codeIn K cd_r "one_at"=true) (k1_r:PySem.W.keepIn K (.ref a_r)=true)
 (a1_on:PySem.W.nsIn K mainGlobals "on"=some (some (.ref a_on))) (l1_on:K.lookup a_on=some ⟨oc_on,od_on,.func (PySem.W.fnOf "on" "on" (z0x s_on) (z0q s_on) (z0e s_on) .none kV_on dc_on pm_on an_on cd_on ct_on),sl_on⟩) (c1_on:PySem.W.codeIn K cd_on "on"=true) (k1_on:PySem.W.keepIn K (.ref a_on)=true)
 (a1_p:PySem.W.nsIn K mainGlobals "cleared"=some (some (.ref a_p))) (l1_p:K.lookup a_p=some ⟨oc_p,od_p,.func (PySem.W.fnOf "cleared" "cleared" (z0x s_p) (z0q s_p) (z0e s_p) .none kV_p dc_p pm_p an_p cd_p ct_p),sl_p⟩) (c1_p:PySem.W.codeIn K cd_p "cleared"=true) (k1_p:PySem.W.keepIn K (.ref a_p)=true)
 (a1_t:PySem.W.nsIn K mainGlobals "back"=some (some (.ref a_t))) (l1_t:K.lookup a_t=some ⟨oc_t,od_t,.func (PySem.W.fnOf "back" "back" (z0x s_t) (z0q s_t) (z0e s_t) .none kV_t dc_t pm_t an_t cd_t ct_t),sl_t⟩) (c1_t:PySem.W.codeIn K cd_t "back"=true) (k1_t:PySem.W.keepIn K (.ref a_t)=true)
 (a1_s:PySem.W.nsIn K mainGlobals "times"=some (some (.ref a_s))) (l1_s:K.lookup a_s=some ⟨oc_s,od_s,.func (PySem.W.fnOf "times" "times" (z0x s_s) (z0q s_s) (z0e s_s) .none kV_s dc_s pm_s an_s cd_s ct_s),sl_s⟩) (c1_s:PySem.W.codeIn K cd_s "times"=true) (k1_s:PySem.W.keepIn K (.ref a_s)=true)
 (a1_o:PySem.W.nsIn K mainGlobals "lead_row"=some (some (.ref a_o))) (l1_o:K.lookup a_o=some ⟨oc_o,od_o,.func (PySem.W.fnOf "lead_row" "lead_row" (z0x s_o) (z0q s_o) (z0e s_o) .none kV_o dc_o pm_o an_o cd_o ct_o),sl_o⟩) (c1_o:PySem.W.codeIn K cd_o "lead_row"=true) (k1_o:PySem.W.keepIn K (.ref a_o)=true)
 (a1_g:PySem.W.nsIn K mainGlobals "steps_form"=some (some (.ref a_g))) (l1_g:K.lookup a_g=some ⟨oc_g,od_g,.func (PySem.W.fnOf "steps_form" "steps_form" (z0x s_g) (z0q s_g) (z0e s_g) .none kV_g dc_g pm_g an_g cd_g ct_g),sl_g⟩) (c1_g:PySem.W.codeIn K cd_g "steps_form"=true) (k1_g:PySem.W.keepIn K (.ref a_g)=true)
 (a1_m:PySem.W.nsIn K mainGlobals "idle_sums"=some (some (.ref a_m))) (l1_m:K.lookup a_m=some ⟨oc_m,od_m,.func (PySem.W.fnOf "idle_sums" "idle_sums" (z0x s_m) (z0q s_m) (z0e s_m) .none kV_m dc_m pm_m an_m cd_m ct_m),sl_m⟩) (c1_m:PySem.W.codeIn K cd_m "idle_sums"=true) (k1_m:PySem.W.keepIn K (.ref a_m)=true)
 (a1_a:PySem.W.nsIn K mainGlobals "brought_together"=some (some (.ref a_a))) (l1_a:K.lookup a_a=some ⟨oc_a,od_a,.func (PySem.W.fnOf "brought_together" "brought_together" (z0x s_a) (z0q s_a) (z0e s_a) .none kV_a dc_a pm_a an_a cd_a ct_a),sl_a⟩) (c1_a:PySem.W.codeIn K cd_a "brought_together"=true) (k1_a:PySem.W.keepIn K (.ref a_a)=true)
 (a1_c:PySem.W.nsIn K mainGlobals "shutting_row"=some (some (.ref a_c))) (l1_c:K.lookup a_c=some ⟨oc_c,od_c,.func (PySem.W.fnOf "shutting_row" "shutting_row" (z0x s_c) (z0q s_c) (z0e s_c) .none kV_c dc_c pm_c an_c cd_c ct_c),sl_c⟩) (c1_c:PySem.W.codeIn K cd_c "shutting_row"=true) (k1_c:PySem.W.keepIn K (.ref a_c)=true)
 (a1_h:PySem.W.nsIn K mainGlobals "weights_to"=some (some (.ref a_h))) (l1_h:K.lookup a_h=some ⟨oc_h,od_h,.func (PySem.W.fnOf "weights_to" "weights_to" (z0x s_h) (z0q s_h) (z0e s_h) .none kV_h dc_h pm_h an_h cd_h ct_h),sl_h⟩) (c1_h:PySem.W.codeIn K cd_h "weights_to"=true) (k1_h:PySem.W.keepIn K (.ref a_h)=true)
 (a1_q:PySem.W.nsIn K mainGlobals "solved"=some (some (.ref a_q))) (l1_q:K.lookup a_q=some ⟨oc_q,od_q,.func (PySem.W.fnOf "solved" "solved" (z0x s_q) (z0q s_q) (z0e s_q) .none kV_q dc_q pm_q an_q cd_q ct_q),sl_q⟩) (c1_q:PySem.W.codeIn K cd_q "solved"=true) (k1_q:PySem.W.keepIn K (.ref a_q)=true)
 (a1_law:PySem.W.nsIn K mainGlobals "law"=some (some (.ref a_law))) (l1_law:K.lookup a_law=some ⟨oc_law,od_law,.func (PySem.W.fnOf "law" "law" (z0x z9p) (z0q z9p) (z0e z9p) .none kV_law dc_law pm_law an_law cd_law ct_law),sl_law⟩) (c1_law:PySem.W.codeIn K cd_law "law"=true) (k1_law:PySem.W.keepIn K (.ref a_law)=true)
 (z_abs:PySem.W.nsIn K mainGlobals "abs"=some none)
 (z_any:PySem.W.nsIn K mainGlobals "any"=some none)
 (z_enumerate:PySem.W.nsIn K mainGlobals "enumerate"=some none)
 (z_int:PySem.W.nsIn K mainGlobals "int"=some none)
 (z_isinstance:PySem.W.nsIn K mainGlobals "isinstance"=some none)
 (z_len:PySem.W.nsIn K mainGlobals "len"=some none)
 (z_list:PySem.W.nsIn K mainGlobals "list"=some none)
 (z_range:PySem.W.nsIn K mainGlobals "range"=some none)
 (z_sum:PySem.W.nsIn K mainGlobals "sum"=some none)
 (z_tuple:PySem.W.nsIn K mainGlobals "tuple"=some none)
 (z_zip:PySem.W.nsIn K mainGlobals "zip"=some none)
 {a_NoNumber:Addr} {cdx_NoNumber:ClassData}
 {a_LongError:Addr} {cdx_LongError:ClassData}
 (a1_NoNumber:PySem.W.nsIn K mainGlobals "NoNumber"=some (some (.ref a_NoNumber)))
 (a1_LongError:PySem.W.nsIn K mainGlobals "LongError"=some (some (.ref a_LongError)))
 (xa_NoNumber:PySem.W.findIn K (.ref a_NoNumber) "__getattribute__"=some (some (.builtin "BaseException.__getattribute__")))
 (xb_NoNumber:PySem.W.findIn K (.ref a_NoNumber) "__getattr__"=some none)
 (xc_NoNumber:PySem.W.findIn K (.ref a_NoNumber) "__class__"=some (some (.builtin "object.__class__")))
 (xd_NoNumber:PySem.W.mroIn K a_NoNumber (.type "object")=some true)
 (xe_NoNumber:PySem.W.mroIn K a_NoNumber (.type "BaseException")=some true)
 (xf_NoNumber:PySem.W.typeIn K (.ref a_NoNumber)=some (.type "type"))
 (xg_NoNumber:PySem.W.clsIn K a_NoNumber=some cdx_NoNumber)
 (xa_LongError:PySem.W.findIn K (.ref a_LongError) "__getattribute__"=some (some (.builtin "BaseException.__getattribute__")))
 (xb_LongError:PySem.W.findIn K (.ref a_LongError) "__getattr__"=some none)
 (xc_LongError:PySem.W.findIn K (.ref a_LongError) "__class__"=some (some (.builtin "object.__class__")))
 (xd_LongError:PySem.W.mroIn K a_LongError (.type "object")=some true)
 (xe_LongError:PySem.W.mroIn K a_LongError (.type "BaseException")=some true)
 (xf_LongError:PySem.W.typeIn K (.ref a_LongError)=some (.type "type"))
 (xg_LongError:PySem.W.clsIn K a_LongError=some cdx_LongError)
 (zg_NoPrime:PySem.W.nsIn K mainGlobals "NoPrime"=some none)
 (zg_NoProgram:PySem.W.nsIn K mainGlobals "NoProgram"=some none)
 (zg_TooLong:PySem.W.nsIn K mainGlobals "TooLong"=some none)
 (zg_Lossy:PySem.W.nsIn K mainGlobals "Lossy"=some none)
 (zg_NoText:PySem.W.nsIn K mainGlobals "NoText"=some none)
 (ex_NoNumber:PySem.W.excIn K a_NoNumber [.type "ValueError",.type "Exception",.type "BaseException",.type "object"] "ValueError.__new__"=true)
 : ∃fd:FuncData,(∀(s:Shared) (v:Value),BindsTo s fd ⟨[v],[]⟩ [("script",v)])/\∀base:Heap,K.In base->base.Ns mainGlobals mg->FnOk l.prog w K mg base (CXE l.prog w) 8 fa fd ["script"] (spN c_law K):=by
 have e:=hfa.symm.trans (PySem.W.mg_of X G a1_law)
 cases e
 have U_l:=z2h (st:=s_l) l1_l c1_l k1_l
 have b_l:=U_l.binds (ps:=["script","k"]) fun _ _ _ _ _ _=>y0b fun _ _=>rfl
 have m_l:=PySem.W.mg_of X G a1_l
 have U_e:=z2h (st:=s_e) l1_e c1_e k1_e
 have b_e:=U_e.binds (ps:=["cell","P","size"]) fun _ _ _ _ _ _=>y2w fun _ _ _=>rfl
 have m_e:=PySem.W.mg_of X G a1_e
 have U_k:=z2h (st:=s_k) l1_k c1_k k1_k
 have b_k:=U_k.binds (ps:=["P","x"]) fun _ _ _ _ _ _=>y0b fun _ _=>rfl
 have m_k:=PySem.W.mg_of X G a1_k
 have U_d:=z2h (st:=s_d) l1_d c1_d k1_d
 have b_d:=U_d.binds (ps:=["P","row","first","at"]) fun _ _ _ _ _ _=>x3z fun _ _ _ _=>rfl
 have m_d:=PySem.W.mg_of X G a1_d
 have U_b:=z2h (st:=s_b) l1_b c1_b k1_b
 have b_b:=U_b.binds (ps:=["P","rows"]) fun _ _ _ _ _ _=>y0b fun _ _=>rfl
 have m_b:=PySem.W.mg_of X G a1_b
 have U_n:=z2h (st:=s_n) l1_n c1_n k1_n
 have b_n:=U_n.binds (ps:=["P","rows"]) fun _ _ _ _ _ _=>y0b fun _ _=>rfl
 have m_n:=PySem.W.mg_of X G a1_n
 have U_f:=z2h (st:=s_f) l1_f c1_f k1_f
 have b_f:=U_f.binds (ps:=["script"]) fun _ _ _ _ _ _=>x1z fun _=>rfl
 have m_f:=PySem.W.mg_of X G a1_f
 have U_j:=z2h (st:=s_j) l1_j c1_j k1_j
 have b_j:=U_j.binds (ps:=["cell"]) fun _ _ _ _ _ _=>x1z fun _=>rfl
 have m_j:=PySem.W.mg_of X G a1_j
 have U_i:=z2h (st:=s_i) l1_i c1_i k1_i
 have b_i:=U_i.binds (ps:=["P","rows","goal","told","free"]) fun _ _ _ _ _ _=>x5c fun _ _ _ _ _=>rfl
 have m_i:=PySem.W.mg_of X G a1_i
 have U_r:=z2h (st:=s_r) l1_r c1_r k1_r
 have b_r:=U_r.binds (ps:=["width","place"]) fun _ _ _ _ _ _=>y0b fun _ _=>rfl
 have m_r:=PySem.W.mg_of X G a1_r
 have U_on:=z2h (st:=s_on) l1_on c1_on k1_on
 have b_on:=U_on.binds (ps:=["P","n"]) fun _ _ _ _ _ _=>y0b fun _ _=>rfl
 have m_on:=PySem.W.mg_of X G a1_on
 have U_p:=z2h (st:=s_p) l1_p c1_p k1_p
 have b_p:=U_p.binds (ps:=["P","row","lead","place"]) fun _ _ _ _ _ _=>x3z fun _ _ _ _=>rfl
 have m_p:=PySem.W.mg_of X G a1_p
 have U_t:=z2h (st:=s_t) l1_t c1_t k1_t
 have b_t:=U_t.binds (ps:=["P","n"]) fun _ _ _ _ _ _=>y0b fun _ _=>rfl
 have m_t:=PySem.W.mg_of X G a1_t
 have U_s:=z2h (st:=s_s) l1_s c1_s k1_s
 have b_s:=U_s.binds (ps:=["P","row","number"]) fun _ _ _ _ _ _=>y2w fun _ _ _=>rfl
 have m_s:=PySem.W.mg_of X G a1_s
 have U_o:=z2h (st:=s_o) l1_o c1_o k1_o
 have b_o:=U_o.binds (ps:=["P","rows","place"]) fun _ _ _ _ _ _=>y2w fun _ _ _=>rfl
 have m_o:=PySem.W.mg_of X G a1_o
 have U_g:=z2h (st:=s_g) l1_g c1_g k1_g
 have b_g:=U_g.binds (ps:=["P","rows"]) fun _ _ _ _ _ _=>y0b fun _ _=>rfl
 have m_g:=PySem.W.mg_of X G a1_g
 have U_m:=z2h (st:=s_m) l1_m c1_m k1_m
 have b_m:=U_m.binds (ps:=["P","rows"]) fun _ _ _ _ _ _=>y0b fun _ _=>rfl
 have m_m:=PySem.W.mg_of X G a1_m
 have U_a:=z2h (st:=s_a) l1_a c1_a k1_a
 have b_a:=U_a.binds (ps:=["P","row","other"]) fun _ _ _ _ _ _=>y2w fun _ _ _=>rfl
 have m_a:=PySem.W.mg_of X G a1_a
 have U_c:=z2h (st:=s_c) l1_c c1_c k1_c
 have b_c:=U_c.binds (ps:=["P","rows","goal"]) fun _ _ _ _ _ _=>y2w fun _ _ _=>rfl
 have m_c:=PySem.W.mg_of X G a1_c
 have U_h:=z2h (st:=s_h) l1_h c1_h k1_h
 have b_h:=U_h.binds (ps:=["P","rows","goal"]) fun _ _ _ _ _ _=>y2w fun _ _ _=>rfl
 have m_h:=PySem.W.mg_of X G a1_h
 have U_q:=z2h (st:=s_q) l1_q c1_q k1_q
 have b_q:=U_q.binds (ps:=["P","rows","goal"]) fun _ _ _ _ _ _=>y2w fun _ _ _=>rfl
 have m_q:=PySem.W.mg_of X G a1_q
 have U_law:=z2h (st:=z9p) l1_law c1_law k1_law
 have b_law:=U_law.binds (ps:=["script"]) fun _ _ _ _ _ _=>x1z fun _=>rfl
 have m_law:=PySem.W.mg_of X G a1_law
 have m_abs:=PySem.W.mg_none_of X G z_abs
 have m_any:=PySem.W.mg_none_of X G z_any
 have m_enumerate:=PySem.W.mg_none_of X G z_enumerate
 have m_int:=PySem.W.mg_none_of X G z_int
 have m_isinstance:=PySem.W.mg_none_of X G z_isinstance
 have m_len:=PySem.W.mg_none_of X G z_len
 have m_list:=PySem.W.mg_none_of X G z_list
 have m_range:=PySem.W.mg_none_of X G z_range
 have m_sum:=PySem.W.mg_none_of X G z_sum
 have m_tuple:=PySem.W.mg_none_of X G z_tuple
 have m_zip:=PySem.W.mg_none_of X G z_zip
 have m_NoNumber:=PySem.W.mg_of X G a1_NoNumber
 have cl_NoNumber:XCls K a_NoNumber:=⟨xa_NoNumber,xb_NoNumber,xc_NoNumber,xd_NoNumber,xe_NoNumber,xf_NoNumber,by rw[xg_NoNumber];rfl⟩
 have m_LongError:=PySem.W.mg_of X G a1_LongError
 have cl_LongError:XCls K a_LongError:=⟨xa_LongError,xb_LongError,xc_LongError,xd_LongError,xe_LongError,xf_LongError,by rw[xg_LongError];rfl⟩
 have X_NoNumber:XOk K mg .noNumber a_NoNumber:=⟨a1_NoNumber,m_NoNumber,ex_NoNumber⟩
 refine⟨PySem.W.fnOf "law" "law" (z0x z9p) (z0q z9p) (z0e z9p) .none kV_law dc_law pm_law an_law cd_law ct_law,fun s v=>.of_eq rfl,fun base _ _=>?_⟩
 have G_l:=f_l (P:=l.prog) (w:=w) (mg:=mg) (base:=base) U_l b_l m_len
 have G_e:=f_e (P:=l.prog) (w:=w) (mg:=mg) (base:=base) U_e b_e m_range m_tuple
 have G_k:=f_k (P:=l.prog) (w:=w) (mg:=mg) (base:=base) U_k b_k
 have G_d:=f_d (P:=l.prog) (w:=w) (mg:=mg) (base:=base) U_d b_d m_tuple m_zip
 have G_b:=f_b (P:=l.prog) (w:=w) (mg:=mg) (base:=base) U_b b_b G_k m_k G_d m_d m_len m_list m_range m_tuple
 have G_n:=f_n (P:=l.prog) (w:=w) (mg:=mg) (base:=base) U_n b_n G_b m_b m_len m_range
 have G_f:=f_f (P:=l.prog) (w:=w) (mg:=mg) (base:=base) U_f b_f G_l m_l m_abs
 have G_j:=f_j (P:=l.prog) (w:=w) (mg:=mg) (base:=base) U_j b_j m_any m_range
 have G_i:=f_i (P:=l.prog) (w:=w) (mg:=mg) (base:=base) U_i b_i m_int m_isinstance m_len m_sum m_tuple m_zip
 have G_r:=f_r (P:=l.prog) (w:=w) (mg:=mg) (base:=base) U_r b_r m_range m_tuple
 have G_on:=f_on (P:=l.prog) (w:=w) (mg:=mg) (base:=base) U_on b_on
 have G_p:=f_p (P:=l.prog) (w:=w) (mg:=mg) (base:=base) U_p b_p G_on m_on m_tuple m_zip
 have G_t:=f_t (P:=l.prog) (w:=w) (mg:=mg) (base:=base) U_t b_t m_NoNumber G_on m_on X_NoNumber
 have G_s:=f_s (P:=l.prog) (w:=w) (mg:=mg) (base:=base) U_s b_s G_on m_on m_tuple
 have G_o:=f_o (P:=l.prog) (w:=w) (mg:=mg) (base:=base) U_o b_o G_t m_t G_s m_s
 have G_g:=f_g (P:=l.prog) (w:=w) (mg:=mg) (base:=base) U_g b_g G_p m_p G_o m_o m_len m_range G_s m_s
 have G_m:=f_m (P:=l.prog) (w:=w) (mg:=mg) (base:=base) U_m b_m m_any m_enumerate m_len G_r m_r G_g m_g m_tuple
 have G_a:=f_a (P:=l.prog) (w:=w) (mg:=mg) (base:=base) U_a b_a G_on m_on m_sum m_zip
 have G_c:=f_c (P:=l.prog) (w:=w) (mg:=mg) (base:=base) U_c b_c G_t m_t G_a m_a G_m m_m m_len m_range G_s m_s m_tuple
 have G_h:=f_h (P:=l.prog) (w:=w) (mg:=mg) (base:=base) U_h b_h G_m m_m m_list G_s m_s
 have G_q:=f_q (P:=l.prog) (w:=w) (mg:=mg) (base:=base) U_q b_q G_c m_c G_h m_h
 have G_law:=x5j (P:=l.prog) (w:=w) (mg:=mg) (base:=base) U_law b_law G_l m_l G_e m_e G_n m_n G_f m_f G_j m_j G_b m_b G_i m_i G_m m_m m_isinstance m_len m_list m_range G_q m_q G_g m_g
 exact G_law.okN
end Row
open PySem PySem.W PyProof.Rows
set_option maxRecDepth 100000 in
set_option maxHeartbeats 0 in
theorem PySem.Challenge.cw_longrounds_k96_whole_any_rows_holds : PySem.Challenge.rw_longrounds_k96_whole_any_rows.Holds := by
 w_on;o_law;k_head;(case hw=>w_witness2)
 k_fill
 refine L3.walk_ofL (sp:=L3.spN L3.c_law) (l:=PySem.Challenge.rw_longrounds_k96_whole_any_rows) (n:=63) (k:=8) (x:="script") (CX:=fun w=>L3.CXE PySem.Challenge.rw_longrounds_k96_whole_any_rows.prog w) rfl (by decide) rfl ⟨rfl,by decide,by decide⟩ (fun w h Y=>PySem.W.kIn_of Y) ?F ?S ?C
 case F =>
  intro w mg fa h KX G hmg
  refine' Row.all_mk KX G hmg ?a1_l ?l1_l ?c1_l ?k1_l ?a1_e ?l1_e ?c1_e ?k1_e ?a1_k ?l1_k ?c1_k ?k1_k ?a1_d ?l1_d ?c1_d ?k1_d ?a1_b ?l1_b ?c1_b ?k1_b ?a1_n ?l1_n ?c1_n ?k1_n ?a1_f ?l1_f ?c1_f ?k1_f ?a1_j ?l1_j ?c1_j ?k1_j ?a1_i ?l1_i ?c1_i ?k1_i ?a1_r ?l1_r ?c1_r ?k1_r ?a1_on ?l1_on ?c1_on ?k1_on ?a1_p ?l1_p ?c1_p ?k1_p ?a1_t ?l1_t ?c1_t ?k1_t ?a1_s ?l1_s ?c1_s ?k1_s ?a1_o ?l1_o ?c1_o ?k1_o ?a1_g ?l1_g ?c1_g ?k1_g ?a1_m ?l1_m ?c1_m ?k1_m ?a1_a ?l1_a ?c1_a ?k1_a ?a1_c ?l1_c ?c1_c ?k1_c ?a1_h ?l1_h ?c1_h ?k1_h ?a1_q ?l1_q ?c1_q ?k1_q ?a1_law ?l1_law ?c1_law ?k1_law ?z_abs ?z_any ?z_enumerate ?z_int ?z_isinstance ?z_len ?z_list ?z_range ?z_sum ?z_tuple ?z_zip ?a1_NoNumber ?a1_LongError ?xa_NoNumber ?xb_NoNumber ?xc_NoNumber ?xd_NoNumber ?xe_NoNumber ?xf_NoNumber ?xg_NoNumber ?xa_LongError ?xb_LongError ?xc_LongError ?xd_LongError ?xe_LongError ?xf_LongError ?xg_LongError ?zg_NoPrime ?zg_NoProgram ?zg_TooLong ?zg_Lossy ?zg_NoText ?ex_NoNumber
  (case a1_l=>k_is)
  (case l1_l=>k_is)
  (case c1_l=>k_is)
  (case k1_l=>k_is)
  (case a1_e=>k_is)
  (case l1_e=>k_is)
  (case c1_e=>k_is)
  (case k1_e=>k_is)
  (case a1_k=>k_is)
  (case l1_k=>k_is)
  (case c1_k=>k_is)
  (case k1_k=>k_is)
  (case a1_d=>k_is)
  (case l1_d=>k_is)
  (case c1_d=>k_is)
  (case k1_d=>k_is)
  (case a1_b=>k_is)
  (case l1_b=>k_is)
  (case c1_b=>k_is)
  (case k1_b=>k_is)
  (case a1_n=>k_is)
  (case l1_n=>k_is)
  (case c1_n=>k_is)
  (case k1_n=>k_is)
  (case a1_f=>k_is)
  (case l1_f=>k_is)
  (case c1_f=>k_is)
  (case k1_f=>k_is)
  (case a1_j=>k_is)
  (case l1_j=>k_is)
  (case c1_j=>k_is)
  (case k1_j=>k_is)
  (case a1_i=>k_is)
  (case l1_i=>k_is)
  (case c1_i=>k_is)
  (case k1_i=>k_is)
  (case a1_r=>k_is)
  (case l1_r=>k_is)
  (case c1_r=>k_is)
  (case k1_r=>k_is)
  (case a1_on=>k_is)
  (case l1_on=>k_is)
  (case c1_on=>k_is)
  (case k1_on=>k_is)
  (case a1_p=>k_is)
  (case l1_p=>k_is)
  (case c1_p=>k_is)
  (case k1_p=>k_is)
  (case a1_t=>k_is)
  (case l1_t=>k_is)
  (case c1_t=>k_is)
  (case k1_t=>k_is)
  (case a1_s=>k_is)
  (case l1_s=>k_is)
  (case c1_s=>k_is)
  (case k1_s=>k_is)
  (case a1_o=>k_is)
  (case l1_o=>k_is)
  (case c1_o=>k_is)
  (case k1_o=>k_is)
  (case a1_g=>k_is)
  (case l1_g=>k_is)
  (case c1_g=>k_is)
  (case k1_g=>k_is)
  (case a1_m=>k_is)
  (case l1_m=>k_is)
  (case c1_m=>k_is)
  (case k1_m=>k_is)
  (case a1_a=>k_is)
  (case l1_a=>k_is)
  (case c1_a=>k_is)
  (case k1_a=>k_is)
  (case a1_c=>k_is)
  (case l1_c=>k_is)
  (case c1_c=>k_is)
  (case k1_c=>k_is)
  (case a1_h=>k_is)
  (case l1_h=>k_is)
  (case c1_h=>k_is)
  (case k1_h=>k_is)
  (case a1_q=>k_is)
  (case l1_q=>k_is)
  (case c1_q=>k_is)
  (case k1_q=>k_is)
  (case a1_law=>k_is)
  (case l1_law=>k_is)
  (case c1_law=>k_is)
  (case k1_law=>k_is)
  (case z_abs=>k_is)
  (case z_any=>k_is)
  (case z_enumerate=>k_is)
  (case z_int=>k_is)
  (case z_isinstance=>k_is)
  (case z_len=>k_is)
  (case z_list=>k_is)
  (case z_range=>k_is)
  (case z_sum=>k_is)
  (case z_tuple=>k_is)
  (case z_zip=>k_is)
  (case a1_NoNumber=>k_is)
  (case a1_LongError=>k_is)
  (case xa_NoNumber=>k_is)
  (case xb_NoNumber=>k_is)
  (case xc_NoNumber=>k_is)
  (case xd_NoNumber=>k_is)
  (case xe_NoNumber=>k_is)
  (case xf_NoNumber=>k_is)
  (case xg_NoNumber=>k_is)
  (case xa_LongError=>k_is)
  (case xb_LongError=>k_is)
  (case xc_LongError=>k_is)
  (case xd_LongError=>k_is)
  (case xe_LongError=>k_is)
  (case xf_LongError=>k_is)
  (case xg_LongError=>k_is)
  (case zg_NoPrime=>k_is)
  (case zg_NoProgram=>k_is)
  (case zg_TooLong=>k_is)
  (case zg_Lossy=>k_is)
  (case zg_NoText=>k_is)
  (case ex_NoNumber=>k_exc)
 case S=>exact fun K H a ns hl hS=>L3.law_true L3.law_k96 hl hS
 case C=>exact fun w H s e s' h=>L3.cxe_false h


import PyProof.Rows.All
import Wide.All
import OpenK.AllK
import Wide.FinOn
import Lean
import PyProof.EqAt
import PyProof.EqKinds
import PyProof.TupleCall
import PySem.Challenge.RW_longrounds_k95_whole_any_program
set_option Elab.async false
set_option linter.all false
set_option maxRecDepth 100000
set_option genSizeOf false
set_option maxHeartbeats 4000000
noncomputable section
namespace L2
open PySem PySem.Spec PyProof.Rows
noncomputable abbrev Key:=Sum Int Str
noncomputable def x7i:Key->Value->Bool
 | .inl k,v=>Value.isInt k v
 | .inr x,v=>Value.isStrOf x v
noncomputable def keyH(w:World):Key->Int
 | .inl k=>hashInt k
 | .inr x=>hashStr w x
theorem z1z:∀{k:Key} {v:Value},x7i k v=true->(∃i t,k=Sum.inl i/\v=Value.int i t)∨(∃x t,k=Sum.inr x/\v=Value.str x t)
 | .inl i,v,h=>by
   obtain⟨t,e⟩:=Value.isInt_shape (k:=i) (v:=v) h
   exact .inl ⟨i,t,rfl,e⟩
 | .inr x,v,h=>by
   obtain⟨t,e⟩:=Value.isStrOf_shape (x:=x) (v:=v) h
   exact .inr ⟨x,t,rfl,e⟩
theorem x7h(a b:Int):decide ((Sum.inl a:Key)=Sum.inl b)=(a==b):=by
 by_cases e:a=b
 ·subst e;simp
 ·have h:¬(Sum.inl a:Key)=Sum.inl b:=fun q=>e (Sum.inl.inj q)
  rw[decide_eq_false h]
  exact(beq_eq_false_iff_ne.mpr e).symm
theorem x7e(a b:Str):decide ((Sum.inr a:Key)=Sum.inr b)=decide (a=b):=by
 by_cases e:a=b
 ·subst e;simp
 ·have h:¬(Sum.inr a:Key)=Sum.inr b:=fun q=>e (Sum.inr.inj q)
  rw[decide_eq_false h,decide_eq_false e]
theorem x7g(a:Int)(b:Str):decide ((Sum.inl a:Key)=Sum.inr b)=false:=decide_eq_false (fun q=>nomatch q)
theorem x7f(a:Str)(b:Int):decide ((Sum.inr a:Key)=Sum.inl b)=false:=decide_eq_false (fun q=>nomatch q)
noncomputable def y9k(prog:Program)(w:World):PySem.KeyKind prog w Key where
 is:=x7i
 hash:=keyH w
 inj:=fun v a b ha hb=>by
  rcases z1z ha with ⟨i,t,rfl,rfl⟩ | ⟨x,t,rfl,rfl⟩
  ·rcases z1z hb with ⟨j,u,rfl,e⟩ | ⟨y,u,rfl,e⟩
   ·injection e with e1 _;rw[e1]
   ·exact nomatch e
  ·rcases z1z hb with ⟨j,u,rfl,e⟩ | ⟨y,u,rfl,e⟩
   ·exact nomatch e
   ·injection e with e1 _;rw[e1]
 byValue:=fun k v h=>by
  rcases z1z h with ⟨i,t,rfl,rfl⟩ | ⟨x,t,rfl,rfl⟩<;>rfl
 pyHash:=fun hv h=>by
  rcases z1z hv with ⟨i,t,rfl,rfl⟩ | ⟨x,t,rfl,rfl⟩
  ·exact wpAny_pyHash_int h
  ·exact wpAny_pyHash_str h
 eqBool:=fun hu hv h=>by
  rcases z1z hu with ⟨i,t,rfl,rfl⟩ | ⟨x,t,rfl,rfl⟩
  ·rcases z1z hv with ⟨j,u,rfl,rfl⟩ | ⟨y,u,rfl,rfl⟩
   ·rw[x7h] at h;exact wpAny_eqBool_int h
   ·rw[x7g] at h;exact SeqAt.EqAt.int_str i t y u _ _ _ _ h
  ·rcases z1z hv with ⟨j,u,rfl,rfl⟩ | ⟨y,u,rfl,rfl⟩
   ·rw[x7f] at h;exact SeqAt.EqAt.str_int x t j u _ _ _ _ h
   ·rw[x7e] at h;exact wpAny_eqBool_str h
 «strs»:=fun k x t v h=>by
  rcases z1z h with ⟨i,u,rfl,e⟩ | ⟨y,u,rfl,e⟩
  ·exact nomatch e
  ·injection e with e1 _
   subst e1
   cases v<;>rfl
end L2
namespace L2
open PySem PySem.Spec PyProof.Rows
inductive V where
 | non | bl (b:Bool) | int (i:Int) | str (x:Str) | byt (b:Array UInt8) | flt (b:UInt64) | ref (a:Addr) | ty (n:String)
 deriving DecidableEq
noncomputable def RelV:V->Value->Prop
 | .non,u=>u=Value.none
 | .bl b,u=>u=Value.bool b
 | .int i,u=>∃t,u=Value.int i t
 | .str x,u=>∃t,u=Value.str x t
 | .byt b,u=>∃t,u=Value.bytes b t
 | .flt b,u=>∃t,u=Value.float b t
 | .ref a,u=>u=Value.ref a
 | .ty n,u=>u=Value.type n
noncomputable abbrev Vals:List V->List Value->Prop:=Paired RelV
theorem Vals.length{xs:List V}{us:List Value}(r:Vals xs us):xs.length=us.length:=Paired.length r
theorem Vals.get:∀{xs:List V} {us:List Value} {i:Nat} {x:V},Vals xs us->xs[i]? = some x->∃u,us[i]? = some u/\RelV x u
 | _,_,_,_,.nil,e=>by simp at e
 | _,_,0,_,.cons r _,e=>by simp at e;subst e;exact⟨_,rfl,r⟩
 | _,_,i+1,x,.cons _ t,e=>by
   obtain⟨u,h1,h2⟩:=Vals.get (i:=i) (x:=x) t (by simpa using e)
   exact⟨u,by simpa using h1,h2⟩
theorem Vals.set{x:V}{u:Value}(r:RelV x u):∀{xs:List V} {us:List Value} (i:Nat),Vals xs us->Vals (xs.set i x) (us.set i u)
 | _,_,_,.nil=>.nil
 | _,_,0,.cons _ t=>.cons r t
 | _,_,i+1,.cons q t=>.cons q (Vals.set r i t)
theorem Vals.append:∀{xs ys:List V} {us ws:List Value},Vals xs us->Vals ys ws->Vals (xs++ys) (us++ws)
 | _,_,_,_,.nil,s=>s
 | _,_,_,_,.cons r t,s=>.cons r (Vals.append t s)
theorem Vals.take:∀{xs:List V} {us:List Value} (n:Nat),Vals xs us->Vals (xs.take n) (us.take n)
 | _,_,0,_=>.nil
 | _,_,_+1,.nil=>.nil
 | _,_,n+1,.cons r t=>.cons r (Vals.take n t)
theorem Vals.drop:∀{xs:List V} {us:List Value} (n:Nat),Vals xs us->Vals (xs.drop n) (us.drop n)
 | _,_,0,r=>r
 | _,_,_+1,.nil=>.nil
 | _,_,n+1,.cons _ t=>Vals.drop n t
noncomputable def RelO:Option V->Option Value->Prop
 | some v,some u=>RelV v u
 | none,none=>True
 | _,_=>False
noncomputable def KV{κ:Type}:List (κ×V)->List (κ×Value)->Prop:=Paired fun(p:κ×V) (q:κ×Value)=>p.1=q.1/\RelV p.2 q.2
noncomputable def kV:Key->V
 | .inl i=>.int i
 | .inr x=>.str x
inductive HO where
 | lst (xs:List V)
 | tup (xs:List V)
 | dK (kvs:List (Key×V)) | dT (kvs:List (List Key×V))
 | set (S:Int->Bool) (n:Nat)
 | ins (C dx:Addr) (fs:List (Str×V))
 | own (x:Addr)
 | xd (fs:List (Str×V))
 | met (f x:Addr)
 | rng (lo hi:Int)
 | frz (o:Obj) (u:HO)
 | tbl (ps:Array Value)
 | ext (φ:Heap->Prop)
noncomputable abbrev Hp:=Addr->Option HO
noncomputable def upd(H:Hp)(a:Addr)(o:HO):Hp:=fun b=>if b=a then some o else H b
theorem z0m{H:Hp}{a:Addr}{o:HO}:upd H a o a=some o:=by unfold upd;rw[if_pos rfl]
theorem z0k{H:Hp}{a b:Addr}{o:HO}(h:b≠a):upd H a o b=H b:=by unfold upd;rw[if_neg h]
theorem z0p{H:Hp}{a b:Addr}{o:HO}(h:H a=some o)(h':H b=none):a≠b:=by
 intro e;subst e;rw[h] at h';cases h'
section
variable (P:Program)(w:World)
noncomputable def z6z(H:Hp)(h:Heap)(a:Addr):HO->Prop
 | .lst xs=>xs.length<=sizeLine/\∃(its:List Value) (n:Nat),Vals xs its/\h.get? a=some { cls:=.type "list",data:=.seq its.toArray n }
 | .tup xs=>xs.length<=sizeLine/\∃its:List Value,Vals xs its/\IsTup h a its.toArray
 | .dK kvs=>kvs.length<=sizeLine/\(a==sysModules)=false/\∃vs,KV kvs vs/\h.DictOf (y9k P w) a vs
 | .dT kvs=>kvs.length<=sizeLine/\(a==sysModules)=false/\∃xs:List (List Key×Addr×Value),
    Paired (fun(p:List Key×V) (q:List Key×Addr×Value)=>p.1=q.1/\H q.2.1=some (.tup (p.1.map kV))/\RelV p.2 q.2.2) kvs xs /\
    ∃o es ep,h.get? a=some o/\o.ExactDict/\o.data = .dict es ep/\es.toList=xs.map (entryOfKey (tupleKind (y9k P w)))/\(xs.map (·.1)).Nodup
 | .set S n=>h.SetOf (intKind P w) a S n
 | .ins C dx fs=>H dx=some (.own a)/\fs.length<=1000/\dx≠a/\h.get? a=some (PySem.W.instObj C dx) /\
    ∃mA,h.Ns1 dx mA/\(∀f,RelO (fs.lookup f) (mA f))/\PySem.Within mA (fs.map (·.1))
 | .own _=>∃o,h.get? a=some o
 | .xd fs=>∃mA,h.Ns1 a mA/\∀f,RelO (fs.lookup f) (mA f)
 | .rng lo hi=>∃t u v,h.get? a=some { cls:=.type "range",data:=.fields #[.int lo t,.int hi u,.int 1 v] }
 | .frz o u=>h.get? a=some o/\z6z H h a u
 | .tbl ps=>h.get? a=some { cls:=.none,data:=.fields ps }
 | .met f x=>h.get? a=some (PySem.W.methodObj (.ref f) (.ref x))
 | .ext φ=>φ h/\(∃o,h.get? a=some o)/\∀h1 h2:Heap,φ h1->(∀o,h1.get? a=some o->h2.get? a=some o)->φ h2
noncomputable def HOk(H:Hp)(h:Heap):Prop:=∀a o,H a=some o->z6z P w H h a o
end
section
variable {P:Program}{w:World}{H H':Hp}{h h':Heap}{a:Addr}{o:HO}
theorem z6z.lt(x:z6z P w H h a o):a<h.objs.size:=by
 cases o with
 | lst xs=>obtain⟨_,_,_,_,e⟩:=x;exact Heap.lt_size e
 | tup xs=>obtain⟨_,_,_,p⟩:=x;exact p.lt
 | dK kvs=>obtain⟨_,_,_,_,o,_,_,e,_⟩:=x;exact Heap.lt_size e
 | dT kvs=>obtain⟨_,_,_,_,o,_,_,e,_⟩:=x;exact Heap.lt_size e
 | set S n=>obtain⟨o,_,_,_,e,_⟩:=x;exact Heap.lt_size e
 | ins C dx fs=>obtain⟨_,_,_,e,_⟩:=x;exact Heap.lt_size e
 | own y=>obtain⟨_,e⟩:=x;exact Heap.lt_size e
 | xd fs=>obtain⟨_,⟨_,_,_,e,_⟩,_⟩:=x;exact Heap.lt_size e
 | rng lo hi=>obtain⟨_,_,_,e⟩:=x;exact Heap.lt_size e
 | frz ob u=>obtain⟨e,_⟩:=x;exact Heap.lt_size e
 | tbl ps=>exact Heap.lt_size (show h.get? a=some _ from x)
 | met f y=>exact Heap.lt_size (show h.get? a=some _ from x)
 | ext φ=>obtain⟨_,⟨_,e⟩,_⟩:=x;exact Heap.lt_size e
theorem Paired.mapP{α β:Type}{F G:α->β->Prop}:∀{l₁:List α} {l₂:List β},Paired F l₁ l₂->(∀a b,F a b->G a b)->Paired G l₁ l₂
 | _,_,.nil,_=>.nil
 | _,_,.cons r t,f=>.cons (f _ _ r) (Paired.mapP t f)
theorem z6z.stay(x:z6z P w H h a o)(k:∀b u,(b=a∨H b=some (.own a))->h.get? b=some u->h'.get? b=some u)
 (ho:∀b,H b=some (.own a)->H' b=some (.own a)) (ht:∀b xs,H b=some (.tup xs)->H' b=some (.tup xs)):z6z P w H' h' a o:=by
 induction o with
 | lst xs=>obtain⟨z,its,n,r,e⟩:=x;exact⟨z,its,n,r,k _ _ (.inl rfl) e⟩
 | tup xs=>obtain⟨z,its,r,ob,e,c⟩:=x;exact⟨z,its,r,ob,k _ _ (.inl rfl) e,c⟩
 | dK kvs=>obtain⟨z,y,vs,r,ob,es,ep,e,c⟩:=x;exact⟨z,y,vs,r,ob,es,ep,k _ _ (.inl rfl) e,c⟩
 | dT kvs =>
   obtain⟨z,y,xs,r,ob,es,ep,e,c⟩:=x
   exact⟨z,y,xs,Paired.mapP r fun p q z=>⟨z.1,ht _ _ z.2.1,z.2.2⟩,ob,es,ep,k _ _ (.inl rfl) e,c⟩
 | set S n=>obtain⟨ob,es,ep,t,e,c⟩:=x;exact⟨ob,es,ep,t,k _ _ (.inl rfl) e,c⟩
 | ins C dx fs =>
   obtain⟨d,z,ne,e,mA,⟨od,es,ep,e2,c⟩,r⟩:=x
   exact⟨ho _ d,z,ne,k _ _ (.inl rfl) e,mA,⟨od,es,ep,k _ _ (.inr d) e2,c⟩,r⟩
 | own y=>obtain⟨ob,e⟩:=x;exact⟨ob,k _ _ (.inl rfl) e⟩
 | xd fs=>obtain⟨mA,⟨od,es,ep,e,c⟩,r⟩:=x;exact⟨mA,⟨od,es,ep,k _ _ (.inl rfl) e,c⟩,r⟩
 | rng lo hi=>obtain⟨t,u,v,e⟩:=x;exact⟨t,u,v,k _ _ (.inl rfl) e⟩
 | frz ob u ih=>obtain⟨e,q⟩:=x;exact⟨k _ _ (.inl rfl) e,ih q⟩
 | tbl ps =>
   have e:h.get? a=some { cls:=.none,data:=.fields ps }:=x
   show h'.get? a=some { cls:=.none,data:=.fields ps }
   exact k a _ (.inl rfl) e
 | met f y =>
   have e:h.get? a=some (PySem.W.methodObj (.ref f) (.ref y)):=x
   show h'.get? a=some (PySem.W.methodObj (.ref f) (.ref y))
   exact k a _ (.inl rfl) e
 | ext φ=>obtain⟨p,⟨o,e⟩,st⟩:=x;exact⟨st _ _ p fun o q=>k _ _ (.inl rfl) q,⟨o,k _ _ (.inl rfl) e⟩,st⟩
theorem HOk.lt(x:HOk P w H h)(e:H a=some o):a<h.objs.size:=(x a o e).lt
theorem HOk.fresh(x:HOk P w H h)(e:h.objs.size<=a):H a=none:=by
 cases q:H a with
 | none=>rfl
 | some u=>exact absurd (Nat.lt_of_lt_of_le (x.lt q) e) (Nat.lt_irrefl _)
theorem HOk.kept(x:HOk P w H h)(k:∀b u,h.get? b=some u->h'.get? b=some u):HOk P w H h':=fun a o e =>
 (x a o e).stay (fun b u _ q=>k b u q) (fun _ q=>q) fun _ _ q=>q
theorem HOk.laid(x:HOk P w H h)(k:∀b u,h.get? b=some u->h'.get? b=some u)(hp:h.objs.size<=a)(new:z6z P w (upd H a o) h' a o):HOk P w (upd H a o) h':=fun b u e=>by
 have hn:=x.fresh hp
 by_cases hb:b=a
 ·subst hb;rw[z0m] at e;cases e;exact new
 ·rw[z0k hb] at e
  exact(x b u e).stay (fun c v _ q=>k c v q) (fun c q=>by rw[z0k (z0p q hn)];exact q) fun c xs q=>by rw[z0k (z0p q hn)];exact q
end
noncomputable def Rd(H:Hp)(a:Addr)(u:HO):Prop:=H a=some u∨∃o,H a=some (.frz o u)
theorem Rd.of{H:Hp}{a:Addr}{u:HO}(h:H a=some u):Rd H a u:=.inl h
theorem Rd.ok{P:Program}{w:World}{H:Hp}{h:Heap}{a:Addr}{u:HO}(r:Rd H a u)(x:HOk P w H h):z6z P w H h a u:=by
 rcases r with r | ⟨o,r⟩
 ·exact x a u r
 ·obtain⟨_,q⟩:=x a _ r
  exact q
noncomputable def Mut:Option HO->Prop
 | some (.lst _)=>True
 | some (.dK _)=>True
 | some (.dT _)=>True
 | some (.set _ _)=>True
 | some (.ins _ _ _)=>True
 | some (.ext _)=>True
 | _=>False
section
variable {P:Program}{w:World}{H:Hp}{h h':Heap}{x e:Addr}{o':HO}
theorem HOk.write(ok:HOk P w H h)(mu:Mut (H x))(he:e=x∨H e=some (.own x))(k:∀b u,b≠e->h.get? b=some u->h'.get? b=some u)(heo:∃u,h'.get? e=some u)
 (new:z6z P w (upd H x o') h' x o'):HOk P w (upd H x o') h':=fun b u q=>by
 have nown:∀c y,H c=some (.own y)->c≠x:=fun c y r z=>by subst z;rw[r] at mu;exact mu
 have ntup:∀c xs,H c=some (.tup xs)->c≠x:=fun c xs r z=>by subst z;rw[r] at mu;exact mu
 by_cases hb:b=x
 ·subst hb;rw[z0m] at q;cases q;exact new
 ·rw[z0k hb] at q
  by_cases hbe:b=e
  ·have q':H b=some (.own x):=by
    rcases he with z | z
    ·exact absurd (hbe.trans z) hb
    ·rw[hbe];exact z
   rw[q] at q';cases q'
   obtain⟨v,hv⟩:=heo
   exact⟨v,by rw[hbe];exact hv⟩
  ·refine(ok b u q).stay (fun c v hc r=>k c v ?_ r) (fun c r=>by rw[z0k (nown c b r)];exact r) fun c xs r=>by rw[z0k (ntup c xs r)];exact r
   rcases hc with rfl | hc
   ·exact hbe
   ·rintro rfl
    rcases he with z | z
    ·exact nown c b hc z
    ·rw[hc] at z;cases z;exact hb rfl
end
structure Un (fs ex:List Addr) (H H':Hp) (h h':Heap):Prop where
 keep:∀b o,h.get? b=some o->H b=none->b ∉ fs->b ∉ ex->h'.get? b=some o
 slot:∀b o,h.get? b=some o->H b=none->b∈fs->b ∉ ex->∃sl,h'.get? b=some { o with slots:=sl }
 free:∀b o,h.get? b=some o->H b=none->b ∉ ex->H' b=none
 there:∀b o,h.get? b=some o->b ∉ ex->∃o',h'.get? b=some o'
 tups:∀b xs,H b=some (.tup xs)->H' b=some (.tup xs)
 frzs:∀b o u,H b=some (.frz o u)->H' b=some (.frz o u)
 tbls:∀b ps,H b=some (.tbl ps)->∃more,H' b=some (.tbl (ps++more))
section
variable {fs fs' ex ex':List Addr}{H H1 H2:Hp}{h h1 h2 h':Heap}{a x e:Addr}{o:HO}
theorem Un.any(u:Un fs ex H H1 h h1){b:Addr}{ob:Obj}(q:h.get? b=some ob)(n:H b=none)(hx:b ∉ ex):∃sl,h1.get? b=some { ob with slots:=sl }:=by
 by_cases hb:b∈fs
 ·exact u.slot b ob q n hb hx
 ·exact⟨ob.slots,u.keep b ob q n hb hx⟩
theorem Un.trans(a:Un fs ex H H1 h h1)(b:Un fs ex H1 H2 h1 h2):Un fs ex H H2 h h2 where
 keep:=fun c ob q n hc hx=>b.keep c ob (a.keep c ob q n hc hx) (a.free c ob q n hx) hc hx
 slot:=fun c ob q n hc hx=>by
  obtain⟨sl,e1⟩:=a.slot c ob q n hc hx
  obtain⟨sl',e2⟩:=b.slot c _ e1 (a.free c ob q n hx) hc hx
  exact⟨sl',e2⟩
 free:=fun c ob q n hx=>by
  obtain⟨o',e1⟩:=a.there c ob q hx
  exact b.free c o' e1 (a.free c ob q n hx) hx
 there:=fun c ob q hx=>by
  obtain⟨o',e1⟩:=a.there c ob q hx
  exact b.there c o' e1 hx
 tups:=fun c xs q=>b.tups c xs (a.tups c xs q)
 frzs:=fun c ob xs q=>b.frzs c ob xs (a.frzs c ob xs q)
 tbls:=fun c ps q=>by
  obtain⟨m1,e1⟩:=a.tbls c ps q
  obtain⟨m2,e2⟩:=b.tbls c _ e1
  exact⟨m1++m2,by rw[e2,Array.append_assoc]⟩
theorem Un.kept(k:∀b u,h.get? b=some u->h'.get? b=some u):Un fs ex H H h h' :=
 ⟨fun b ob q _ _ _=>k b ob q,fun b ob q _ _ _=>⟨ob.slots,k b ob q⟩,fun _ _ _ n _=>n,fun b ob q _=>⟨ob,k b ob q⟩,fun _ _ q=>q,fun _ _ _ q=>q,fun _ ps q=>⟨#[],by rw[q];simp⟩⟩
theorem Un.refl:Un fs ex H H h h:=Un.kept fun _ _ q=>q
theorem Un.laid(k:∀b u,h.get? b=some u->h'.get? b=some u)(hp:h.objs.size<=a)(hn:H a=none):Un fs ex H (upd H a o) h h' where
 keep:=fun b u q _ _ _=>k b u q
 slot:=fun b u q _ _ _=>⟨u.slots,k b u q⟩
 free:=fun b u q n _=>by rw[z0k (Nat.ne_of_lt (Nat.lt_of_lt_of_le (Heap.lt_size q) hp))];exact n
 there:=fun b u q _=>⟨u,k b u q⟩
 tups:=fun b xs q=>by rw[z0k (z0p q hn)];exact q
 frzs:=fun b u xs q=>by rw[z0k (z0p q hn)];exact q
 tbls:=fun b ps q=>⟨#[],by rw[z0k (z0p q hn),q];simp⟩
theorem Un.write(mu:Mut (H x))(he:e=x∨H e=some (.own x))(k:∀b u,b≠e->h.get? b=some u->h'.get? b=some u)(heo:∃u,h'.get? e=some u):Un fs ex H (upd H x o) h h':=by
 have hx:∀b,H b=none->b≠x:=fun b n z=>by subst z;rw[n] at mu;exact mu
 have hb:∀b,H b=none->b≠e:=fun b n z=>by
  subst z
  rcases he with r | r
  ·exact hx b n r
  ·rw[n] at r;cases r
 have hm:∀b u,H b=some u->¬Mut (some u)->b≠x:=fun b u q nm z=>by subst z;rw[q] at mu;exact nm mu
 refine⟨fun b u q n _ _=>k b u (hb b n) q,fun b u q n _ _=>⟨u.slots,k b u (hb b n) q⟩,fun b u q n _=>by rw[z0k (hx b n)];exact n,fun b u q _=>?_,
  fun b xs q=>by rw[z0k (hm b _ q fun z=>z)];exact q,fun b u xs q=>by rw[z0k (hm b _ q fun z=>z)];exact q,fun b ps q=>⟨#[],by rw[z0k (hm b _ q fun z=>z),q];simp⟩⟩
 by_cases hbe:b=e
 ·subst hbe;exact heo
 ·exact⟨u,k b u hbe q⟩
theorem Un.mono(u:Un fs ex H H1 h h1)(hs:∀b∈fs,b∈fs')(hx:∀b∈ex,b∈ex'):Un fs' ex' H H1 h h1 :=
 ⟨fun b ob q n hb he=>u.keep b ob q n (fun z=>hb (hs b z)) fun z=>he (hx b z),fun _ _ q n _ he=>u.any q n fun z=>he (hx _ z),fun b ob q n he=>u.free b ob q n fun z=>he (hx b z),fun b ob q he=>u.there b ob q fun z=>he (hx b z),u.tups,u.frzs,u.tbls⟩
end
noncomputable def trk(h:Heap)(H:Hp):List Addr:=(List.range h.objs.size).filter fun a=>(H a).isSome
noncomputable def hidT(h:Heap)(H:Hp):Heap:=PySem.W.hideAll h (trk h H)
theorem y9v(h:Heap)(H:Hp):(hidT h H).objs.size=h.objs.size:=PySem.W.hideAll_size _ _
theorem y2h{h:Heap}{H:Hp}{b:Addr}{o:Obj}(e:h.get? b=some o)(n:H b=none):(hidT h H).get? b=some o :=
 PySem.W.hideAll_get _ e fun hm=>by
  have q:(H b).isSome=true:=(List.mem_filter.mp hm).2
  rw[n] at q;simp at q
theorem y4q{h:Heap}{H:Hp}{b:Addr}{o:Obj}(e:(hidT h H).get? b=some o):h.get? b=some o/\H b=none:=by
 have e':h.get? b=some o:=PySem.W.of_hideAll (trk h H) e
 refine⟨e',?_⟩
 cases q:H b with
 | none=>rfl
 | some x =>
   have hm:b∈trk h H:=List.mem_filter.mpr ⟨List.mem_range.mpr (Heap.lt_size e'),by simp[q]⟩
   have z:(hidT h H).get? b=none:=PySem.W.hideAll_none (trk h H) hm
   rw[z] at e;cases e
noncomputable def x5p(g h:Heap)(L:Addr):List (Addr×Obj):=(List.range h.objs.size).filterMap fun a=>if a=L∨(g.get? a).isSome=true then none else (h.get? a).map fun o=>(a,o)
noncomputable def rest(g h:Heap)(L d:Addr):List (Addr×Obj):=(x5p g h L).filter fun p=>decide (p.1≠d)
end L2
namespace L2
open PySem PySem.Spec PyProof.Rows
structure Mod (K:PySem.W.Frag) (mg:Str->Option Value) (base:Heap):Prop where
 kin:K.In base
 glob:base.Ns mainGlobals mg
 blt:∃mb,base.Ns builtinsNs mb/\∀x:Str,x≠"__name__"->mb x=bootBuiltins x
 nolimit:base.NoLimit
structure Cx where
 prog:Program
 w:World
 K:PySem.W.Frag
 mg:Str->Option Value
 base:Heap
 A:Around
 N:List Str
 s₀:Shared
 H₀:Hp
 env:Env
 outer:List Env
 stack:List Env
 ex:List Addr
 fn:Str->Bool
 calm:Bool
 pn:List (Addr×Obj)
 xe:Value->Shared->Prop
noncomputable def frs(l:List Env):List Addr:=l.filterMap (·.frame)
noncomputable abbrev Cx.fs (X:Cx):List Addr:=frs X.outer
noncomputable def Vis(sc:Scope)(x:Str):Prop:=sc.names.lookup x=some .local∨sc.names.lookup x=some .cell∨sc.names.lookup x=some .free
noncomputable def Loc(sc:Scope)(x:Str):Prop:=sc.names.lookup x=some .local∨sc.names.lookup x=some .cell
noncomputable def Look(env:Env)(h:Heap)(m:Str->Option Value)(x:Str)(u:Value):Prop :=
 (env.kindOf x=some .local/\m x=some u)∨((env.kindOf x=some .cell∨env.kindOf x=some .free)/\∃c,env.cells.lookup x=some c/\h.IsCell c (some u))
structure Cx.Ok (X:Cx):Prop where
 mod:Mod X.K X.mg X.base
 kind:X.env.scope.kind = .function
 glob:X.env.globals=mainGlobals
 blt:X.env.builtins=builtinsNs
 above:X.s₀.heap.objs.size<=X.env.locals
 inj:∀x y c,X.env.cells.lookup x=some c->X.env.cells.lookup y=some c->x=y
 has:∀x,(X.env.kindOf x=some .cell∨X.env.kindOf x=some .free)->∃c,X.env.cells.lookup x=some c
 cab:∀x c,X.fn x=true->X.env.cells.lookup x=some c->X.s₀.heap.objs.size<=c
 hd:X.calm=true->X.A.handled=none
 frames:X.A.frames=some X.stack
 stk:X.stack=X.outer∨(X.stack=X.env::X.outer/\X.env.frame=some X.env.locals)
 exf:∀b∈X.ex,b≠X.env.locals/\∀x c,X.env.cells.lookup x=some c->c≠b
 bs:∀b o,X.base.get? b=some o->X.s₀.heap.get? b=some o/\X.H₀ b=none
 bsz:X.base.objs.size<=X.s₀.heap.objs.size
 noex:∀b o,X.base.get? b=some o->b ∉ X.ex
 exfs:∀b∈X.ex,b ∉ X.fs
 funs:X.s₀.heap.FunFrames X.base X.outer
 frf:∀b∈X.fs,X.H₀ b=none
structure Inv (X:Cx) (pins:List (Addr×Obj)) (σ:List (Option V)) (H:Hp) (s:Shared):Prop where
 ok:X.Ok
 os:s.os=X.s₀.os
 bare:AllBare s.gens
 base:Un X.fs X.ex X.H₀ H X.s₀.heap s.heap
 loc:∃m,s.heap.Ns X.env.locals m/\∀(i:Nat) (x:Str) (v:V),X.N[i]? = some x->σ[i]? = some (some v)->Vis X.env.scope x->∃u,RelV v u/\Look X.env s.heap m x u
 cell:∀x c,X.env.cells.lookup x=some c->∃v,s.heap.IsCell c v
 free:H X.env.locals=none
 freeC:∀x c,X.env.cells.lookup x=some c->H c=none
 pin:∀p∈X.pn++pins,s.heap.get? p.1=some p.2/\H p.1=none/\p.1≠X.env.locals/\p.1 ∉ X.fs/\∀v,p.2.data ≠ .cell v
 hok:HOk X.prog X.w H s.heap
 len:σ.length=X.N.length
section
variable {X:Cx}{pins:List (Addr×Obj)}{σ:List (Option V)}{H H':Hp}{s:Shared}{h':Heap}
theorem Cx.Ok.nofr(ok:X.Ok){b:Addr}{o:Obj}(e:X.base.get? b=some o):b ∉ X.fs:=fun hb=>by
 have:=(ok.funs.mem hb).1
 rw[e] at this;cases this
theorem Inv.bs(I:Inv X pins σ H s):∀b o,X.base.get? b=some o->s.heap.get? b=some o/\H b=none:=fun b o e =>
 ⟨I.base.keep b o (I.ok.bs b o e).1 (I.ok.bs b o e).2 (I.ok.nofr e) (I.ok.noex b o e),I.base.free b o (I.ok.bs b o e).1 (I.ok.bs b o e).2 (I.ok.noex b o e)⟩
theorem Inv.bk(I:Inv X pins σ H s):∀b o,X.base.get? b=some o->s.heap.get? b=some o:=fun b o e=>(I.bs b o e).1
theorem Inv.mod(I:Inv X pins σ H s):Mod X.K X.mg X.base:=I.ok.mod
theorem Inv.kIn(I:Inv X pins σ H s):X.K.In s.heap:=I.ok.mod.kin.keeps I.bk
theorem Inv.nolimit(I:Inv X pins σ H s):s.heap.NoLimit:=I.ok.mod.nolimit.keeps I.bk
theorem Inv.fr(I:Inv X pins σ H s):∃m,Fr X.base X.env.locals s.heap m :=
 let ⟨m,hn,_⟩:=I.loc
 ⟨m,hn,I.bk,Nat.le_trans I.ok.bsz I.ok.above⟩
theorem Inv.lt(I:Inv X pins σ H s):X.env.locals<s.heap.objs.size:=let ⟨_,hn,_⟩:=I.loc;hn.lt
theorem Inv.sz(I:Inv X pins σ H s):X.s₀.heap.objs.size<=s.heap.objs.size:=Nat.le_trans I.ok.above (Nat.le_of_lt I.lt)
theorem Inv.nofs(I:Inv X pins σ H s){a:Addr}(h:s.heap.objs.size<=a):a ∉ X.fs:=fun hb=>by
 obtain⟨_,o,ho,_⟩:=I.ok.funs.mem hb
 exact absurd (Nat.lt_of_lt_of_le (Heap.lt_size ho) (Nat.le_trans I.sz h)) (Nat.lt_irrefl _)
theorem Inv.cne(I:Inv X pins σ H s):∀x c,X.env.cells.lookup x=some c->c≠X.env.locals:=fun x c e z=>by
 obtain⟨v,o,ho,hd⟩:=I.cell x c e
 obtain⟨m,⟨o',es,ep,ho',hd',_⟩,_⟩:=I.loc
 rw[z,ho'] at ho;cases ho;rw[hd'] at hd;cases hd
theorem Inv.funs(I:Inv X pins σ H s):s.heap.FunFrames X.base X.outer:=by
 have all:∀(l:List Env),(∀b∈frs l,b∈X.fs)->X.s₀.heap.FunFrames X.base l->s.heap.FunFrames X.base l:=by
  intro l
  induction l with
  | nil=>intro _ _;trivial
  | cons env r ih =>
    intro hs hl
    obtain⟨hk,⟨L,o,hf,hn,ho,hd⟩,hr⟩:=hl
    have hL:L∈X.fs:=hs L (by unfold frs;rw[List.filterMap_cons,hf];exact List.mem_cons_self)
    obtain⟨sl,e⟩:=I.base.slot L o ho (I.ok.frf L hL) hL fun z=>I.ok.exfs L z hL
    exact⟨hk,⟨L,_,hf,hn,e,hd⟩,ih (fun b hb=>hs b (by unfold frs;rw[List.filterMap_cons,hf];exact List.mem_cons_of_mem _ hb)) hr⟩
 exact all X.outer (fun _ hb=>hb) I.ok.funs
theorem Inv.stack(I:Inv X pins σ H s):s.heap.FunFrames X.base X.stack:=by
 rcases I.ok.stk with e | ⟨e,hf⟩
 ·rw[e];exact I.funs
 ·rw[e]
  obtain⟨m,hn,_⟩:=I.loc
  refine .cons (by rw[I.ok.kind];decide) hf hn ?_ I.funs
  exact Heap.get?_none_of_le (Nat.le_trans I.ok.bsz I.ok.above)
theorem Inv.stkSub(I:Inv X pins σ H s):∀b∈frs X.stack,b∈X.env.locals::X.fs:=fun b hb=>by
 rcases I.ok.stk with e | ⟨e,hf⟩
 ·rw[e] at hb;exact List.mem_cons_of_mem _ hb
 ·rw[e] at hb
  unfold frs at hb
  rw[List.filterMap_cons,hf] at hb
  exact hb
theorem Inv.stkFree(I:Inv X pins σ H s):∀b∈frs X.stack,H b=none:=fun b hb=>by
 rcases List.mem_cons.mp (I.stkSub b hb) with e | hb
 ·rw[e];exact I.free
 ·obtain⟨_,o,ho,_⟩:=I.ok.funs.mem hb
  exact I.base.free b o ho (I.ok.frf b hb) fun z=>I.ok.exfs b z hb
theorem Inv.step{g':Array GenState}{t':Nat}{d':Drawn}{ch:List Addr}(I:Inv X pins σ H s)
 (hch:∀b∈ch,(b∈X.ex∨X.s₀.heap.get? b=none)/\b≠X.env.locals/\(∀x c,X.env.cells.lookup x=some c->c≠b)/\∀p∈X.pn++pins,p.1≠b)
 (keep:∀b o,b≠X.env.locals->b ∉ X.fs->b ∉ ch->s.heap.get? b=some o->H b=none->h'.get? b=some o)
 (slot:∀b o,b≠X.env.locals->b∈X.fs->b ∉ ch->s.heap.get? b=some o->H b=none->∃sl,h'.get? b=some { o with slots:=sl }) (free:∀b o,b ∉ ch->s.heap.get? b=some o->H b=none->H' b=none)
 (there:∀b o,b ∉ ch->s.heap.get? b=some o->∃o',h'.get? b=some o')
 (tups:∀b xs,H b=some (.tup xs)->H' b=some (.tup xs)) (frzs:∀b o u,H b=some (.frz o u)->H' b=some (.frz o u)) (tbls:∀b ps,H b=some (.tbl ps)->∃more,H' b=some (.tbl (ps++more)))
 (ns:∀m,s.heap.Ns X.env.locals m->h'.Ns X.env.locals m) (hok:HOk X.prog X.w H' h') (hg:AllBare g') :
 Inv X pins σ H' { s with heap:=h',gens:=g',drawn:=d',toks:=t' }:=by
 have neL:∀b o,X.s₀.heap.get? b=some o->b≠X.env.locals:=fun b o e=>Nat.ne_of_lt (Nat.lt_of_lt_of_le (Heap.lt_size e) I.ok.above)
 have neC:∀b o,X.s₀.heap.get? b=some o->b ∉ X.ex->b ∉ ch:=fun b o e hx hb=>by
  rcases(hch b hb).1 with z | z
  ·exact hx z
  ·rw[e] at z;cases z
 have cellK:∀x c,X.env.cells.lookup x=some c->∀v,s.heap.IsCell c v->h'.IsCell c v:=fun x c e v ⟨o,ho,hd⟩=>by
  have nch:c ∉ ch:=fun z=>(hch c z).2.2.1 x c e rfl
  by_cases hc:c∈X.fs
  ·obtain⟨sl,q⟩:=slot c o (I.cne x c e) hc nch ho (I.freeC x c e)
   exact⟨_,q,hd⟩
  ·exact⟨o,keep c o (I.cne x c e) hc nch ho (I.freeC x c e),hd⟩
 refine⟨I.ok,I.os,hg,⟨fun b o e n hb hx=>?_,fun b o e n hb hx=>?_,fun b o e n hx=>?_,fun b o e hx=>?_,fun b xs e=>tups b xs (I.base.tups b xs e),fun b o xs e=>frzs b o xs (I.base.frzs b o xs e),fun b ps e=>?_⟩,?_,fun x c e=>?_,?_,fun x c e=>?_,fun p hp=>?_,hok,I.len⟩
 ·exact keep b o (neL b o e) hb (neC b o e hx) (I.base.keep b o e n hb hx) (I.base.free b o e n hx)
 ·obtain⟨sl,e1⟩:=I.base.slot b o e n hb hx
  obtain⟨sl',e2⟩:=slot b _ (neL b o e) hb (neC b o e hx) e1 (I.base.free b o e n hx)
  exact⟨sl',e2⟩
 ·obtain⟨o',e1⟩:=I.base.there b o e hx
  exact free b o' (neC b o e hx) e1 (I.base.free b o e n hx)
 ·obtain⟨o',e1⟩:=I.base.there b o e hx
  exact there b o' (neC b o e hx) e1
 ·obtain⟨m1,e1⟩:=I.base.tbls b ps e
  obtain⟨m2,e2⟩:=tbls b _ e1
  exact⟨m1++m2,by rw[e2,Array.append_assoc]⟩
 ·obtain⟨m,hn,hl⟩:=I.loc
  refine⟨m,ns m hn,fun i x v e1 e2 e3=>?_⟩
  obtain⟨u,r,l⟩:=hl i x v e1 e2 e3
  refine⟨u,r,?_⟩
  rcases l with l | ⟨k,c,e,z⟩
  ·exact .inl l
  ·exact .inr ⟨k,c,e,cellK x c e _ z⟩
 ·obtain⟨v,z⟩:=I.cell x c e
  exact⟨v,cellK x c e v z⟩
 ·obtain⟨m,⟨o,_,_,ho,_⟩,_⟩:=I.loc
  exact free _ o (fun z=>(hch _ z).2.1 rfl) ho I.free
 ·obtain⟨v,o,ho,hd⟩:=I.cell x c e
  exact free c o (fun z=>(hch c z).2.2.1 x c e rfl) ho (I.freeC x c e)
 ·obtain⟨e,n,ne,nf,d⟩:=I.pin p hp
  have nch:p.1 ∉ ch:=fun z=>(hch p.1 z).2.2.2 p hp rfl
  exact⟨keep p.1 p.2 ne nf nch e n,free p.1 p.2 nch e n,ne,nf,d⟩
theorem Inv.un{t':Nat}(I:Inv X pins σ H s)(u:Un X.fs [] H H' s.heap h')(hok:HOk X.prog X.w H' h'):Inv X pins σ H' { s with heap:=h',toks:=t' }:=by
 obtain⟨m,⟨o,es,ep,ho,r⟩,_⟩:=id I.loc
 obtain⟨sl,hL⟩:=u.any ho I.free (by simp)
 exact I.step (g':=s.gens) (d':=s.drawn) (ch:=[]) (fun _ z=>nomatch z) (fun b o _ hb _ e n=>u.keep b o e n hb (by simp)) (fun b o _ hb _ e n=>u.slot b o e n hb (by simp)) (fun b o _ e n=>u.free b o e n (by simp)) (fun b o _ e=>u.there b o e (by simp)) u.tups u.frzs u.tbls (fun m' hm=>by
  obtain⟨o',es',ep',ho',r'⟩:=hm
  rw[ho] at ho';cases ho'
  exact⟨_,es',ep',hL,r'⟩) hok I.bare
theorem Inv.call{g':Array GenState}{t':Nat}{d':Drawn}{ch:List Addr}(I:Inv X pins σ H s)(u:Un (frs X.stack) ch H H' s.heap h')(hok:HOk X.prog X.w H' h')(hg:AllBare g')
 (hch:∀b∈ch,(b∈X.ex∨X.s₀.heap.get? b=none)/\b≠X.env.locals/\(∀x c,X.env.cells.lookup x=some c->c≠b)/\∀p∈X.pn++pins,p.1≠b) :
 Inv X pins σ H' { s with heap:=h',gens:=g',drawn:=d',toks:=t' }:=by
 obtain⟨m,⟨o,es,ep,ho,r⟩,_⟩:=id I.loc
 obtain⟨sl,hL⟩:=u.any ho I.free fun z=>(hch _ z).2.1 rfl
 exact I.step (ch:=ch) hch (fun b o hL hb hc e n=>u.keep b o e n (fun z=>(List.mem_cons.mp (I.stkSub b z)).elim hL hb) hc) (fun b o _ _ hc e n=>u.any e n hc) (fun b o hc e n=>u.free b o e n hc) (fun b o hc e=>u.there b o e hc) u.tups u.frzs u.tbls (fun m' hm=>by
  obtain⟨o',es',ep',ho',r'⟩:=hm
  rw[ho] at ho';cases ho'
  exact⟨_,es',ep',hL,r'⟩) hok hg
theorem Inv.turned{t':Nat}{it:Addr}(I:Inv X pins σ H s)(k:∀b o,b≠it->s.heap.get? b=some o->h'.get? b=some o)(hn:H it=none)(hL:it≠X.env.locals)
 (h1:it∈X.ex∨X.s₀.heap.objs.size<=it) (h2:∀x c,X.env.cells.lookup x=some c->c≠it) (h3:∀p∈X.pn++pins,p.1≠it):Inv X pins σ H { s with heap:=h',toks:=t' }:=by
 have nit:∀b u,H b=some u->b≠it:=fun b u e z=>by rw[z,hn] at e;cases e
 refine I.step (g':=s.gens) (d':=s.drawn) (ch:=[it]) (fun b hb=>?_) (fun b o _ _ hc e _=>k b o (fun z=>hc (by simp[z])) e) (fun b o _ _ hc e _=>⟨o.slots,k b o (fun z=>hc (by simp[z])) e⟩) (fun _ _ _ _ n=>n)
  (fun b o hc e=>⟨o,k b o (fun z=>hc (by simp[z])) e⟩) (fun _ _ e=>e) (fun _ _ _ e=>e) (fun b ps e=>⟨#[],by rw[e];simp⟩) (fun m hm=>?_) (fun b u e=>?_) I.bare
 ·have e:b=it:=by simpa using hb
  subst e
  exact⟨h1.imp_right fun z=>Heap.get?_none_of_le z,hL,h2,h3⟩
 ·obtain⟨o,es,ep,ho,r⟩:=hm
  exact⟨o,es,ep,k _ o (Ne.symm hL) ho,r⟩
 ·refine(I.hok b u e).stay (fun c v hc q=>k c v ?_ q) (fun _ q=>q) fun _ _ q=>q
  rcases hc with z | z
  ·rw[z];exact nit b u e
  ·exact nit c _ z
theorem Inv.tok(I:Inv X pins σ H s)(t:Nat):Inv X pins σ H { s with toks:=t }:=I.un (h':=s.heap) (t':=t) Un.refl I.hok
theorem Inv.kept{t':Nat}(I:Inv X pins σ H s)(k:∀b u,s.heap.get? b=some u->h'.get? b=some u):Inv X pins σ H { s with heap:=h',toks:=t' }:=I.un (Un.kept k) (I.hok.kept k)
theorem Inv.laid{a:Addr}{o:HO}{t':Nat}(I:Inv X pins σ H s)(k:∀b u,s.heap.get? b=some u->h'.get? b=some u)(hp:s.heap.objs.size<=a)(new:z6z X.prog X.w (upd H a o) h' a o) :
 Inv X pins σ (upd H a o) { s with heap:=h',toks:=t' }:=I.un (Un.laid k hp (I.hok.fresh hp)) (I.hok.laid k hp new)
theorem Inv.write{x e:Addr}{o:HO}{t':Nat}(I:Inv X pins σ H s)(mu:Mut (H x))(he:e=x∨H e=some (.own x))(k:∀b u,b≠e->s.heap.get? b=some u->h'.get? b=some u)(heo:∃u,h'.get? e=some u)
 (new:z6z X.prog X.w (upd H x o) h' x o):Inv X pins σ (upd H x o) { s with heap:=h',toks:=t' }:=I.un (Un.write mu he k heo) (I.hok.write mu he k heo new)
theorem Inv.pins_of{pins':List (Addr×Obj)}(I:Inv X pins σ H s)(h:∀p∈pins',s.heap.get? p.1=some p.2/\H p.1=none/\p.1≠X.env.locals/\p.1 ∉ X.fs/\∀v,p.2.data ≠ .cell v):Inv X pins' σ H s :=
 ⟨I.ok,I.os,I.bare,I.base,I.loc,I.cell,I.free,I.freeC,fun p hp=>(List.mem_append.mp hp).elim (fun z=>I.pin p (List.mem_append_left _ z)) (h p),I.hok,I.len⟩
theorem y5w{N:List Str}(hN:N.Nodup){i j:Nat}{x:Str}(a:N[i]? = some x)(b:N[j]? = some x):i=j:=by
 obtain⟨h1,e1⟩:=List.getElem?_eq_some_iff.mp a
 obtain⟨h2,e2⟩:=List.getElem?_eq_some_iff.mp b
 exact(List.getElem_inj hN).mp (e1.trans e2.symm)
theorem z9n{M:Model}{A:Around}{E:Value->Shared->Prop}{i:Nat}{x:Str}{v:V}{u:Value}{Q:Unit->Shared->Prop}(I:Inv X pins σ H s)(hN:X.N.Nodup)(hi:X.N[i]? = some x)(hx:Loc X.env.scope x)(r:RelV v u)
 (h:∀s',Inv X pins (σ.set i (some v)) H s'->(∃a,Heap.SameBut a s.heap s'.heap/\(a=X.env.locals∨X.env.cells.lookup x=some a))->Q () s') (hf:X.fn x=true∨X.env.scope.names.lookup x=some .local:=by first | exact .inl rfl | exact .inr rfl | assumption):wpAny M A (storeName X.env x u) Q E s:=by
 obtain⟨m,hn,hl⟩:=id I.loc
 have hcls:(X.env.scope.kind == .class||(X.env.scope.kind == .module&&X.env.locals != X.env.globals))=false:=by rw[I.ok.kind];rfl
 have hiσ:i<σ.length:=by rw[I.len];exact(List.getElem?_eq_some_iff.mp hi).1
 have cne:=I.cne
 have tracked:∀{a:Addr} {h':Heap},(∃o,s.heap.get? a=some o/\H a=none)->Heap.SameBut a s.heap h'->HOk X.prog X.w H h':=fun {a h'} ha hs b ob e=>by
  obtain⟨_,_,hfree⟩:=ha
  refine(I.hok b ob e).stay (fun c w' hc q=>(hs.2 c ?_).trans q) (fun _ q=>q) fun _ _ q=>q
  rintro rfl
  rcases hc with rfl | hc
  ·rw[hfree] at e;cases e
  ·rw[hfree] at hc;cases hc
 rcases hx with hk | hk
 ·refine wpAny_storeName_local hk hn (fun h' hn' hs=>?_) hcls
  obtain⟨oL,_,_,hoL,_⟩:=id hn
  refine h _ ⟨I.ok,I.os,I.bare,⟨fun b o e n hb hx=>?_,fun b o e n hb hx=>?_,I.base.free,fun b o e hx=>?_,I.base.tups,I.base.frzs,I.base.tbls⟩,⟨_,hn',fun j y v' e1 e2 e3=>?_⟩,fun y c e=>?_,I.free,I.freeC,fun p hp=>?_,tracked ⟨oL,hoL,I.free⟩ hs,by simpa using I.len⟩ ⟨_,hs,.inl rfl⟩
  ·exact(hs.2 b (Nat.ne_of_lt (Nat.lt_of_lt_of_le (Heap.lt_size e) I.ok.above))).trans (I.base.keep b o e n hb hx)
  ·obtain⟨sl,e1⟩:=I.base.slot b o e n hb hx
   exact⟨sl,(hs.2 b (Nat.ne_of_lt (Nat.lt_of_lt_of_le (Heap.lt_size e) I.ok.above))).trans e1⟩
  ·obtain⟨o',e1⟩:=I.base.there b o e hx
   exact⟨o',(hs.2 b (Nat.ne_of_lt (Nat.lt_of_lt_of_le (Heap.lt_size e) I.ok.above))).trans e1⟩
  ·by_cases hj:j=i
   ·subst hj
    rw[hi] at e1;cases e1
    rw[List.getElem?_set_self hiσ] at e2
    cases e2
    exact⟨u,r,.inl ⟨hk,by simp⟩⟩
   ·rw[List.getElem?_set_ne (Ne.symm hj)] at e2
    obtain⟨u',r',q⟩:=hl j y v' e1 e2 e3
    refine⟨u',r',?_⟩
    rcases q with ⟨k,e⟩ | ⟨k,c,e,z⟩
    ·refine .inl ⟨k,?_⟩
     have:y≠x:=fun e=>hj (y5w hN e1 (e ▸ hi))
     simp[this,e]
    ·exact .inr ⟨k,c,e,z.sameBut hs (cne y c e)⟩
  ·obtain⟨w',z⟩:=I.cell y c e
   exact⟨w',z.sameBut hs (cne y c e)⟩
  ·obtain⟨e,n,ne,nf,d⟩:=I.pin p hp
   exact⟨(hs.2 p.1 ne).trans e,n,ne,nf,d⟩
 ·have hfn:X.fn x=true:=by
   rcases hf with z | z
   ·exact z
   ·rw[z] at hk;cases hk
  obtain⟨c,hc⟩:=I.ok.has x (.inl hk)
  obtain⟨w',z⟩:=I.cell x c hc
  refine wpAny_storeName_cell I.ok.kind hk hc z (fun h' hc' hs=>?_)
  obtain⟨oc,hoc,hocd⟩:=id z
  refine h { s with heap:=h' } ⟨I.ok,I.os,I.bare,⟨fun b o e n hb hx=>?_,fun b o e n hb hx=>?_,I.base.free,fun b o e hx=>?_,I.base.tups,I.base.frzs,I.base.tbls⟩,⟨m,hn.sameBut hs (Ne.symm (cne x c hc)),fun j y v' e1 e2 e3=>?_⟩,fun y c' e=>?_,I.free,I.freeC,fun p hp=>?_,tracked ⟨oc,hoc,I.freeC x c hc⟩ hs,by simpa using I.len⟩ ⟨c,hs,.inr hc⟩
  ·exact(hs.2 b (Nat.ne_of_lt (Nat.lt_of_lt_of_le (Heap.lt_size e) (I.ok.cab x c hfn hc)))).trans (I.base.keep b o e n hb hx)
  ·obtain⟨sl,e1⟩:=I.base.slot b o e n hb hx
   exact⟨sl,(hs.2 b (Nat.ne_of_lt (Nat.lt_of_lt_of_le (Heap.lt_size e) (I.ok.cab x c hfn hc)))).trans e1⟩
  ·obtain⟨o',e1⟩:=I.base.there b o e hx
   exact⟨o',(hs.2 b (Nat.ne_of_lt (Nat.lt_of_lt_of_le (Heap.lt_size e) (I.ok.cab x c hfn hc)))).trans e1⟩
  ·by_cases hj:j=i
   ·subst hj
    rw[hi] at e1;cases e1
    rw[List.getElem?_set_self hiσ] at e2
    cases e2
    exact⟨u,r,.inr ⟨.inl hk,c,hc,hc'⟩⟩
   ·rw[List.getElem?_set_ne (Ne.symm hj)] at e2
    obtain⟨u',r',q⟩:=hl j y v' e1 e2 e3
    refine⟨u',r',?_⟩
    rcases q with q | ⟨k,c',e,z'⟩
    ·exact .inl q
    ·refine .inr ⟨k,c',e,z'.sameBut hs ?_⟩
     rintro rfl
     exact hj (y5w hN e1 (I.ok.inj _ _ _ e hc ▸ hi))
  ·by_cases hcc:c'=c
   ·subst hcc;exact⟨_,hc'⟩
   ·obtain⟨w2,z2⟩:=I.cell y c' e
    exact⟨w2,z2.sameBut hs hcc⟩
  ·obtain⟨e,n,ne,nf,d⟩:=I.pin p hp
   refine⟨(hs.2 p.1 ?_).trans e,n,ne,nf,d⟩
   intro q
   rw[q,hoc] at e
   have q':oc=p.2:=Option.some.inj e
   exact d w' (by rw[<-q'];exact hocd)
theorem z5l{M:Model}{A:Around}{E:Value->Shared->Prop}{i:Nat}{x:Str}{v:V}{u:Value}{Q:Unit->Shared->Prop}(I:Inv X pins σ H s)(hN:X.N.Nodup)(hi:X.N[i]? = some x)(hx:Loc X.env.scope x)(r:RelV v u)
 (h:∀s',Inv X pins (σ.set i (some v)) H s'->Q () s') (hf:X.fn x=true∨X.env.scope.names.lookup x=some .local:=by first | exact .inl rfl | exact .inr rfl | assumption):wpAny M A (storeName X.env x u) Q E s :=
 z9n I hN hi hx r (fun s' I' _=>h s' I') hf
end
noncomputable abbrev XK:=Value->Option Addr->Hp->Prop
noncomputable abbrev St:=List (Option V)
noncomputable abbrev VK:=V->Hp->Prop
noncomputable abbrev TE:=St->Hp->VK->Prop
noncomputable abbrev TT:=St->Hp->(Bool->Hp->Prop)->Prop
noncomputable abbrev TA:=St->Hp->(List V->Hp->Prop)->Prop
structure Ends where
 nx:St->Hp->Prop
 rt:VK
 bk:St->Hp->Prop:=fun _ _=>False
 ct:St->Hp->Prop:=fun _ _=>False
noncomputable abbrev TS:=Ends->St->Hp->Prop
noncomputable def EP(X:Cx)(pins:List (Addr×Obj))(σ:St)(Q:VK)(u:Value)(s':Shared):Prop:=∃v H',Inv X pins σ H' s'/\RelV v u/\Q v H'
noncomputable def TP(X:Cx)(pins:List (Addr×Obj))(σ:St)(Q:Bool->Hp->Prop)(b:Bool)(s':Shared):Prop:=∃H',Inv X pins σ H' s'/\Q b H'
noncomputable def AP(X:Cx)(pins:List (Addr×Obj))(σ:St)(Q:List V->Hp->Prop)(us:List Value)(s':Shared):Prop:=∃vs H',Inv X pins σ H' s'/\Vals vs us/\Q vs H'
noncomputable def SP(X:Cx)(pins:List (Addr×Obj))(D:Ends)(f:Flow)(s':Shared):Prop :=
 match f with
 | .next=>∃σ' H',Inv X pins σ' H' s'/\D.nx σ' H'
 | .brk=>∃σ' H',Inv X pins σ' H' s'/\D.bk σ' H'
 | .cont=>∃σ' H',Inv X pins σ' H' s'/\D.ct σ' H'
 | .ret u=>∃v σ' H',Inv X pins σ' H' s'/\RelV v u/\D.rt v H'
noncomputable def PE(X:Cx)(e:Expr)(t:TE):Prop :=
 ∀(pins:List (Addr×Obj)) (s:Shared) (σ:St) (H:Hp) (Q:VK),Inv X pins σ H s->t σ H Q->wpAny (model X.prog X.w) X.A (eval e X.env) (EP X pins σ Q) X.xe s
noncomputable def PT(X:Cx)(e:Expr)(t:TT):Prop :=
 ∀(pins:List (Addr×Obj)) (s:Shared) (σ:St) (H:Hp) (Q:Bool->Hp->Prop),Inv X pins σ H s->t σ H Q->wpAny (model X.prog X.w) X.A (isTrue e X.env (eval e X.env)) (TP X pins σ Q) X.xe s
noncomputable def PW(X:Cx)(e:Expr)(t:TT):Prop :=
 ∀(whole:Sem Value) (pins:List (Addr×Obj)) (s:Shared) (σ:St) (H:Hp) (Q:Bool->Hp->Prop),Inv X pins σ H s->t σ H Q->wpAny (model X.prog X.w) X.A (isTrue e X.env whole) (TP X pins σ Q) X.xe s
theorem PW.pt{X:Cx}{e:Expr}{t:TT}(h:PW X e t):PT X e t:=h _
noncomputable def PSs(X:Cx)(st:List Stmt)(t:TS):Prop :=
 ∀(pins:List (Addr×Obj)) (s:Shared) (σ:St) (H:Hp) (D:Ends),Inv X pins σ H s->t D σ H->wpAny (model X.prog X.w) X.A (execs st X.env) (SP X pins D) X.xe s
theorem thn{α:Type}{t:Sem α}{Q Q':α->Shared->Prop}{M:Model}{A:Around}{E:Value->Shared->Prop}{s:Shared}(h:wpAny M A t Q E s)(hQ:∀a s,Q a s->Q' a s):wpAny M A t Q' E s:=wpAny_mono h hQ fun _ _ x=>x
end L2
namespace L2
open PySem PySem.Spec PyProof.Rows
section
variable {X:Cx}
noncomputable def tVar(i:Nat):TE:=fun σ H Q=>∃v,σ[i]? = some (some v)/\Q v H
noncomputable def tC(v:V):TE:=fun _ H Q=>Q v H
theorem z6a{i:Nat}{x:Str}{pos:Pos}(hN:X.N[i]? = some x)(hv:Vis X.env.scope x)(hd:(x==("__debug__":Str))=false:=by decide)(hcd:(x==("__classdict__":Str))=false:=by decide):PE X (.Name x pos) (tVar i):=by
 intro pins s σ H Q I h
 obtain⟨v,e,h⟩:=h
 obtain⟨m,hn,hl⟩:=I.loc
 obtain⟨u,r,l⟩:=hl i x v hN e hv
 have fin:EP X pins σ Q u s:=⟨v,H,I,r,h⟩
 rcases l with ⟨hk,hm⟩ | ⟨hk,c,hc,hcell⟩
 ·exact wpAny_Name (wpAny_loadName_local I.ok.kind hk hn hm fin) hd
 ·rcases hk with hk | hk
  ·exact wpAny_Name (wpAny_loadName_cell I.ok.kind hk hc hcell fin) hd
  ·exact wpAny_Name (wpAny_loadName_free I.ok.kind hk hc hcell fin hcd) hd
theorem y9b{i j pos}:PE X (.Constant (.int i) j pos) (tC (.int i)):=fun _ _ _ H _ I h=>wpAny_Constant_int ⟨.int i,H,I.tok _,⟨_,rfl⟩,h⟩
theorem x7z{b j pos}:PE X (.Constant (.bool b) j pos) (tC (.bl b)):=fun _ _ _ H _ I h=>Constant_bool ⟨.bl b,H,I,rfl,h⟩
theorem x2u{x j pos}:PE X (.Constant (.str x) j pos) (tC (.str x)):=fun _ _ _ H _ I h=>Calls.Constant_str ⟨.str x,H,I.tok _,⟨_,rfl⟩,h⟩
noncomputable def Gl(X:Cx)(x:Str):Prop:=X.env.kindOf x=some .globalImplicit
theorem y0e{E:Value->Shared->Prop}{pins:List (Addr×Obj)}{s:Shared}{σ:St}{H:Hp}{x:Str}{u:Value}{pos:Pos}{Q:Value->Shared->Prop}(I:Inv X pins σ H s)(hg:Gl X x)(hm:X.mg x=some u)(h:Q u s)
 (hd:(x==("__debug__":Str))=false:=by decide):wpAny (model X.prog X.w) X.A (eval (.Name x pos) X.env) Q E s :=
 Calls.Name_function_global I.ok.kind hg (Calls.loadGlobal_global (by rw[I.ok.glob];exact I.mod.glob.keeps I.bk) hm h) hd
theorem z6c{E:Value->Shared->Prop}{pins:List (Addr×Obj)}{s:Shared}{σ:St}{H:Hp}{x:Str}{u:Value}{pos:Pos}{Q:Value->Shared->Prop}(I:Inv X pins σ H s)(hg:Gl X x)(hm:X.mg x=none)(hv:bootBuiltins x=some u)(h:Q u s)
 (hn:x≠"__name__":=by decide) (hd:(x==("__debug__":Str))=false:=by decide):wpAny (model X.prog X.w) X.A (eval (.Name x pos) X.env) Q E s:=by
 obtain⟨mb,h1,h2⟩:=I.mod.blt
 exact Calls.Name_function_global I.ok.kind hg (Calls.loadGlobal_builtin (by rw[I.ok.glob];exact I.mod.glob.keeps I.bk) hm (by rw[I.ok.blt];exact h1.keeps I.bk) ((h2 x hn).trans hv) h) hd
theorem x3z{x:Str}{v:V}{u:Value}{pos:Pos}(hg:Gl X x)(hm:X.mg x=some u)(r:RelV v u)(hd:(x==("__debug__":Str))=false:=by decide):PE X (.Name x pos) (tC v) :=
 fun _ _ _ H _ I h=>y0e I hg hm ⟨v,H,I,r,h⟩ hd
variable {a b:Expr}{ta tb:TE}{pos:Pos}
variable {tA tB':TT}{rest:List Expr}
end
end L2
namespace L2
open PySem PySem.Spec PyProof.Rows
noncomputable def SqL(K:PySem.W.Frag)(H:Hp)(a:Addr)(xs:List V):Prop :=
 Rd H a (.lst xs) ∨
  ∃(o:Obj) (its:Array Value) (n:Nat),K.lookup a=some o/\o.cls = .type "list"/\o.dict=none/\o.data = .seq its n/\its.size<=sizeLine/\Vals xs its.toList
noncomputable def SqT(K:PySem.W.Frag)(H:Hp)(a:Addr)(xs:List V):Prop :=
 Rd H a (.tup xs) ∨
  ∃(o:Obj) (its:Array Value) (n:Nat),K.lookup a=some o/\o.cls = .type "tuple"/\o.data = .seq its n/\its.size<=sizeLine/\Vals xs its.toList
noncomputable def absV:Value->Option V
 | .none=>some .non
 | .bool b=>some (.bl b)
 | .int i _=>some (.int i)
 | .str x _=>some (.str x)
 | .bytes b _=>some (.byt b)
 | .float b _=>some (.flt b)
 | .ref a=>some (.ref a)
 | .type n=>some (.ty n)
 | _=>none
theorem RelV.abs{x:V}{u:Value}(r:RelV x u):absV u=some x:=by
 cases x with
 | non=>cases r;rfl
 | bl _=>cases r;rfl
 | int _=>obtain⟨t,rfl⟩:=r;rfl
 | str _=>obtain⟨t,rfl⟩:=r;rfl
 | byt _=>obtain⟨t,rfl⟩:=r;rfl
 | flt _=>obtain⟨t,rfl⟩:=r;rfl
 | ref _=>cases r;rfl
 | ty _=>cases r;rfl
theorem RelV.inj{x y:V}{u:Value}(r:RelV x u)(q:RelV y u):x=y:=Option.some.inj (r.abs.symm.trans q.abs)
theorem Vals.inj:∀{xs ys:List V} {us:List Value},Vals xs us->Vals ys us->xs=ys
 | _,_,_,.nil,.nil=>rfl
 | _,_,_,.cons r t,.cons r' t'=>by rw[r.inj r',Vals.inj t t']
section
variable {X:Cx}{pins:List (Addr×Obj)}{σ:St}{H:Hp}{s:Shared}{a:Addr}{xs ys:List V}
theorem SqL.of{K:PySem.W.Frag}(h:H a=some (.lst xs)):SqL K H a xs:=.inl (.inl h)
theorem SqT.of{K:PySem.W.Frag}(h:H a=some (.tup xs)):SqT K H a xs:=.inl (.inl h)
theorem Inv.list(I:Inv X pins σ H s)(h:SqL X.K H a xs):∃its:List Value,Vals xs its/\PlainL s.heap a its.toArray/\xs.length<=sizeLine:=by
 rcases h with h | ⟨o,its,n,hk,hc,hd,hs,hz,r⟩
 ·obtain⟨z,its,n,r,e⟩:=h.ok I.hok
  exact⟨its,r,⟨_,n,e,rfl,rfl,rfl⟩,z⟩
 ·refine⟨its.toList,r,⟨o,n,I.kIn a o hk,hc,hd,by simpa using hs⟩,?_⟩
  have e:=r.length
  simp only[Array.length_toList] at e
  lia
theorem Inv.tuple(I:Inv X pins σ H s)(h:SqT X.K H a xs):∃its:List Value,Vals xs its/\IsTup s.heap a its.toArray/\xs.length<=sizeLine:=by
 rcases h with h | ⟨o,its,n,hk,hc,hs,hz,r⟩
 ·obtain⟨z,its,r,p⟩:=h.ok I.hok
  exact⟨its,r,p,z⟩
 ·refine⟨its.toList,r,⟨o,I.kIn a o hk,hc,n,by simpa using hs⟩,?_⟩
  have e:=r.length
  simp only[Array.length_toList] at e
  lia
theorem Inv.list_inj(I:Inv X pins σ H s)(h:SqL X.K H a xs)(h':SqL X.K H a ys):xs=ys:=by
 obtain⟨its,r,⟨o,n,e,_,_,d⟩,_⟩:=I.list h
 obtain⟨its',r',⟨o',n',e',_,_,d'⟩,_⟩:=I.list h'
 rw[e] at e';cases e'
 rw[d] at d'
 injection d' with d1 _
 have:its=its':=by simpa using congrArg Array.toList d1
 subst this
 exact r.inj r'
theorem Inv.tuple_inj(I:Inv X pins σ H s)(h:SqT X.K H a xs)(h':SqT X.K H a ys):xs=ys:=by
 obtain⟨its,r,⟨o,e,_,n,d⟩,_⟩:=I.tuple h
 obtain⟨its',r',⟨o',e',_,n',d'⟩,_⟩:=I.tuple h'
 rw[e] at e';cases e'
 rw[d] at d'
 injection d' with d1 _
 have:its=its':=by simpa using congrArg Array.toList d1
 subst this
 exact r.inj r'
end
noncomputable abbrev Cx.wish (X:Cx) (E:Value->Shared->Prop):Cx:={ X with xe:=E }
noncomputable abbrev Cx.nox (X:Cx):Cx:=X.wish fun _ _=>False
theorem Cx.Ok.wish{X:Cx}(ok:X.Ok)(E:Value->Shared->Prop):(X.wish E).Ok :=
 ⟨ok.mod,ok.kind,ok.glob,ok.blt,ok.above,ok.inj,ok.has,ok.cab,ok.hd,ok.frames,ok.stk,ok.exf,ok.bs,ok.bsz,ok.noex,ok.exfs,ok.funs,ok.frf⟩
theorem Cx.Ok.unwish{X:Cx}{E:Value->Shared->Prop}(ok:(X.wish E).Ok):X.Ok :=
 ⟨ok.mod,ok.kind,ok.glob,ok.blt,ok.above,ok.inj,ok.has,ok.cab,ok.hd,ok.frames,ok.stk,ok.exf,ok.bs,ok.bsz,ok.noex,ok.exfs,ok.funs,ok.frf⟩
section
variable {X:Cx}{pins:List (Addr×Obj)}{σ:St}{H:Hp}{s:Shared}{E:Value->Shared->Prop}
theorem Inv.wish(I:Inv X pins σ H s)(E:Value->Shared->Prop):Inv (X.wish E) pins σ H s:=⟨I.ok.wish E,I.os,I.bare,I.base,I.loc,I.cell,I.free,I.freeC,I.pin,I.hok,I.len⟩
theorem Inv.unwish(I:Inv (X.wish E) pins σ H s):Inv X pins σ H s:=⟨I.ok.unwish,I.os,I.bare,I.base,I.loc,I.cell,I.free,I.freeC,I.pin,I.hok,I.len⟩
theorem SP.unwish{D:Ends}{f:Flow}{s':Shared}(h:SP (X.wish E) pins D f s'):SP X pins D f s':=by
 cases f with
 | next=>obtain⟨σ',H',I,q⟩:=h;exact⟨σ',H',I.unwish,q⟩
 | brk=>obtain⟨σ',H',I,q⟩:=h;exact⟨σ',H',I.unwish,q⟩
 | cont=>obtain⟨σ',H',I,q⟩:=h;exact⟨σ',H',I.unwish,q⟩
 | ret u=>obtain⟨v,σ',H',I,r,q⟩:=h;exact⟨v,σ',H',I.unwish,r,q⟩
theorem PE.nox{e:Expr}{t:TE}(h:PE X.nox e t):PE X e t:=fun pins s σ H Q I hw =>
 wpAny_mono (h pins s σ H Q (I.wish _) hw) (fun _ _ ⟨v,H',I',r,q⟩=>⟨v,H',I'.unwish,r,q⟩) fun _ _ z=>False.elim z
theorem PT.nox{e:Expr}{t:TT}(h:PT X.nox e t):PT X e t:=fun pins s σ H Q I hw =>
 wpAny_mono (h pins s σ H Q (I.wish _) hw) (fun _ _ ⟨H',I',q⟩=>⟨H',I'.unwish,q⟩) fun _ _ z=>False.elim z
theorem PSs.nox{st:List Stmt}{t:TS}(h:PSs X.nox st t):PSs X st t:=fun pins s σ H D I hw =>
 wpAny_mono (h pins s σ H D (I.wish _) hw) (fun _ _ q=>q.unwish) fun _ _ z=>False.elim z
end
section
variable {X:Cx}{st:Stmt}{rest:List Stmt}{t u:TS}{e:Expr}{te:TE}{pos:Pos}
theorem Inv.quiet{pins:List (Addr×Obj)}{σ:St}{H:Hp}{s:Shared}(I:Inv X pins σ H s):interactive X.env=false:=by simp[interactive,I.ok.kind]
end
noncomputable abbrev TG:=V->St->Hp->(St->Hp->Prop)->Prop
noncomputable abbrev TGs:=List V->St->Hp->(St->Hp->Prop)->Prop
noncomputable def PG(X:Cx)(target:Expr)(t:TG):Prop :=
 ∀(pins:List (Addr×Obj)) (s:Shared) (σ:St) (H:Hp) (v:V) (u:Value) (Q:St->Hp->Prop),Inv X pins σ H s->RelV v u->t v σ H Q ->
  wpAny (model X.prog X.w) X.A (assign target X.env u) (fun _ s'=>∃σ' H',Inv X pins σ' H' s'/\Q σ' H') X.xe s
noncomputable def PGs(X:Cx)(ts:List Expr)(t:TGs):Prop :=
 ∀(pins:List (Addr×Obj)) (s:Shared) (σ:St) (H:Hp) (vs:List V) (us:List Value) (Q:St->Hp->Prop),Inv X pins σ H s->Vals vs us->t vs σ H Q ->
  wpAny (model X.prog X.w) X.A (assignInOrder ((assignEach ts X.env).map (·.2)) us) (fun _ s'=>∃σ' H',Inv X pins σ' H' s'/\Q σ' H') X.xe s
noncomputable abbrev TSet:=V->V->V->Hp->(Hp->Prop)->Prop
noncomputable def PSet(X:Cx)(t:TSet):Prop :=
 ∀(pins:List (Addr×Obj)) (s:Shared) (σ:St) (H:Hp) (o i v:V) (ov iv u:Value) (Q:Hp->Prop),Inv X pins σ H s->RelV o ov->RelV i iv->RelV v u->t o i v H Q ->
  wpAny (model X.prog X.w) X.A (setItem ov iv u) (fun _ s'=>∃H',Inv X pins σ H' s'/\Q H') X.xe s
section
variable {X:Cx}{pos:Pos}
noncomputable def y7i(i:Nat):TG:=fun v σ H Q=>Q (σ.set i (some v)) H
theorem z7f{i:Nat}{x:Str}(hN:X.N.Nodup)(hi:X.N[i]? = some x)(hx:Loc X.env.scope x)(hf:X.fn x=true∨X.env.scope.names.lookup x=some .local:=by first | exact .inl rfl | exact .inr rfl | assumption):PG X (.Name x pos) (y7i i):=by
 intro pins s σ H v u Q I r h
 exact wpAny_assign_Name (z5l I hN hi hx r (fun s' I'=>⟨_,H,I',h⟩) hf)
noncomputable def gNil:TGs:=fun vs σ H Q=>vs=[]/\Q σ H
noncomputable def gCons(t:TG)(u:TGs):TGs:=fun vs σ H Q=>∃v r,vs=v::r/\t v σ H fun σ' H'=>u r σ' H' Q
theorem y8z:PGs X [] gNil:=by
 intro pins s σ H vs us Q I r h
 obtain⟨e,h⟩:=h
 subst e
 cases r
 exact assignInOrder_nil ⟨σ,H,I,h⟩
theorem z9f{e:Expr}{es:List Expr}{t:TG}{u:TGs}(h1:PG X e t)(h2:PGs X es u)
 (hs:(assignEach (e::es) X.env).map (·.2)=assign e X.env::(assignEach es X.env).map (·.2):=by rfl):PGs X (e::es) (gCons t u):=by
 intro pins s σ H vs us Q I r h
 obtain⟨v,vr,e1,h⟩:=h
 subst e1
 cases r with
 | cons r rr =>
   rw[hs]
   refine assignInOrder_cons (thn (h1 pins s σ H _ _ _ I r h) fun _ s1 ⟨σ1,H1,I1,q1⟩=>?_)
   exact h2 pins s1 σ1 H1 _ _ Q I1 rr q1
noncomputable def gTup(K:PySem.W.Frag)(n:Nat)(t:TGs):TG:=fun v σ H Q=>∃a xs,v = .ref a/\SqT K H a xs/\xs.length=n/\t xs σ H Q
theorem x6h{es:List Expr}{k:Nat}{t:TGs}{n:Nat}(hc:X.calm=true)(h:PGs X es t)
 (hn:(assignEach es X.env).length=n:=by rfl) (hst:(assignEach es X.env).findIdx? (·.1)=none:=by rfl):PG X (.Tuple es k pos) (gTup X.K n t):=by
 intro pins s σ H v u Q I r hw
 obtain⟨a,xs,e1,hq,hl,hw⟩:=hw
 subst e1
 cases r
 obtain⟨its,rv,ht,hz⟩:=I.tuple hq
 refine assign_Tuple_tuple (I.ok.hd hc) ht (by simp[hn,<-hl,rv.length]) hst fun h' hx=>?_
 have I1:Inv X pins σ H { s with heap:=h' }:=I.kept (t':=s.toks) fun b o e=>hx b o (Nat.ne_of_lt (Heap.lt_size e)) e
 exact h pins _ σ H xs _ Q I1 (by simpa using rv) hw
end
section
variable {X:Cx}{pos:Pos}
end
structure It where
 go:Nat->Hp->Prop
 yld:Nat->Hp->V->Hp->Prop
 stop:Nat->Hp->Prop
noncomputable def FpOk(X:Cx)(pins:List (Addr×Obj))(H:Hp)(b:Addr):Prop :=
 H b=none/\b≠X.env.locals/\b ∉ X.fs/\(b∈X.ex∨X.s₀.heap.objs.size<=b)/\(∀x c,X.env.cells.lookup x=some c->c≠b)/\∀p∈X.pn++pins,p.1≠b
theorem Inv.fpOk{X:Cx}{pins:List (Addr×Obj)}{σ:St}{H H':Hp}{s:Shared}{b:Addr}(I:Inv X pins σ H s)(hb:s.heap.objs.size<=b)(hn:H' b=none):FpOk X pins H' b:=by
 refine⟨hn,Nat.ne_of_gt (Nat.lt_of_lt_of_le I.lt hb),I.nofs hb,.inr (Nat.le_trans I.sz hb),fun x c e z=>?_,fun p hp z=>?_⟩
 ·obtain⟨v,q⟩:=I.cell x c e
  exact absurd (Nat.lt_of_lt_of_le q.lt (by rw[z];exact hb)) (Nat.lt_irrefl _)
 ·exact absurd (Nat.lt_of_lt_of_le (Heap.lt_size (I.pin p hp).1) (by rw[z];exact hb)) (Nat.lt_irrefl _)
structure Turn (P:Program) (w:World) (K:PySem.W.Frag) (tg:Expr) (J:It) (fp:List Addr) (it:Addr) (tn:Nat->Heap->Prop):Prop where
 mem:it∈fp
 obj:∀i h,tn i h->∀b∈fp,∃o,h.get? b=some o/\∀v,o.data ≠ .cell v
 keep:∀i h h',tn i h->(∀b∈fp,∀o,h.get? b=some o->h'.get? b=some o)->tn i h'
 item:∀(X:Cx),X.prog=P->X.w=w->X.K=K->X.calm=true->∀(i:Nat) (pins:List (Addr×Obj)) (s:Shared) (σ:St) (H:Hp) (E:Value->Shared->Prop),Inv X pins σ H s->(∀b∈fp,FpOk X pins H b)->tn i s.heap->J.go i H ->
  wpAny (model P w) X.A (pyNext (.ref it)) (fun r s1=>∃u,r=some u /\
   wpAny (model P w) X.A (letOwnedTupleGo tg (.ref it) u) (fun _ s2=>∃x H',Inv X pins σ H' s2/\RelV x u/\J.yld i H x H'/\tn (i+1) s2.heap/\∀b∈fp,H' b=none) E s1) E s
 done:∀(X:Cx),X.prog=P->X.w=w->X.K=K->X.calm=true->∀(i:Nat) (pins:List (Addr×Obj)) (s:Shared) (σ:St) (H:Hp) (E:Value->Shared->Prop),Inv X pins σ H s->(∀b∈fp,FpOk X pins H b)->tn i s.heap->J.stop i H ->
  wpAny (model P w) X.A (pyNext (.ref it)) (fun r s1=>r=none/\Inv X pins σ H s1) E s
 self:∀(A:Around) (i:Nat) (s:Shared) (Q:Value->Shared->Prop) (E:Value->Shared->Prop),tn i s.heap->Q (.ref it) s->wpAny (model P w) A (pyIter (.ref it)) Q E s
noncomputable abbrev TI:=St->Hp->(It->Hp->Prop)->Prop
noncomputable def PIE(X:Cx)(pins:List (Addr×Obj))(σ:St)(tg:Expr)(R:It->Hp->Prop)(itv:Value)(s2:Shared):Prop :=
 ∃(it:Addr) (fp:List Addr) (tn:Nat->Heap->Prop) (J:It) (H':Hp),itv = .ref it/\Inv X pins σ H' s2/\Turn X.prog X.w X.K tg J fp it tn/\tn 0 s2.heap/\(∀b∈fp,FpOk X pins H' b)/\R J H'
theorem x2a{M:Model}{A:Around}{E:Value->Shared->Prop}{s:Shared}{tg:Expr}{it:Addr}{u:Value}{o:Obj}{n:String}{vs:Array Value}{Q:Unit->Shared->Prop}(ho:s.heap.get? it=some o)(hc:o.cls = .type n)(hd:o.data = .fields vs)
 (hn:["enumerate","zip","dict_itemiterator","dict_reverseitemiterator","odict_iterator","itertools.zip_longest","itertools.pairwise"].contains n=false) (hQ:Q () s):wpAny M A (letOwnedTupleGo tg (.ref it) u) Q E s:=by
 unfold letOwnedTupleGo
 cases tg<;>first
  | exact wpAny_pure hQ
  | (cases u<;>first
      | exact wpAny_pure hQ
      | (refine wpAny_bind (wpAny_load ho ?_)
         rw[hc,hd]
         show wpAny M A (if (["enumerate","zip","dict_itemiterator","dict_reverseitemiterator","odict_iterator","itertools.zip_longest","itertools.pairwise"].contains n&&vs[0]? == some (rawInt _))=true then _ else _) Q E s
         rw[if_neg (by intro h;rw[hn,Bool.false_and] at h;cases h)]
         exact wpAny_pure hQ))
noncomputable def Itl(K:PySem.W.Frag)(a:Addr):It :=
 ⟨fun i H=>∃xs x,SqL K H a xs/\xs[i]? = some x,fun i H x H'=>H'=H/\∀xs,SqL K H a xs->xs[i]? = some x,fun i H=>∃xs,SqL K H a xs/\xs.length<=i⟩
noncomputable def Itt(K:PySem.W.Frag)(a:Addr):It :=
 ⟨fun i H=>∃xs x,SqT K H a xs/\xs[i]? = some x,fun i H x H'=>H'=H/\∀xs,SqT K H a xs->xs[i]? = some x,fun i H=>∃xs,SqT K H a xs/\xs.length<=i⟩
noncomputable def Itr(lo:Int)(n:Nat):It:=⟨fun i _=>i<n,fun i H x H'=>H'=H/\x = .int (lo+i),fun i _=>n<=i⟩
theorem y7y{P:Program}{w:World}{K:PySem.W.Frag}{tg:Expr}(a it:Addr):Turn P w K tg (Itl K a) [it] it (fun i h=>h.IsListIter it a i) where
 mem:=by simp
 obj:=fun i h st b hb=>by
  have e:b=it:=by simpa using hb
  subst e
  obtain⟨o,e,c,d⟩:=st
  exact⟨o,e,fun v z=>by rw[d] at z;cases z⟩
 keep:=fun i h h' st k=>st.at fun o e=>k it (by simp) o e
 item:=by
  intro X hP hw hK hc i pins s σ H E I hf st hg
  subst hP hw hK
  obtain⟨xs,x,hq,hx⟩:=hg
  obtain⟨its,rv,p,hz⟩:=I.list hq
  obtain⟨u,hu,ru⟩:=rv.get hx
  obtain⟨f0,f1,f2,f3,f4,f5⟩:=hf it (by simp)
  refine wpAny_pyNext_list_item st p.isList (x:=u) (by simpa using hu) fun h' st' sb=>?_
  have I1:Inv X pins σ H { s with heap:=h' }:=I.turned (t':=s.toks) (fun b o hb e=>(sb.2 b hb).trans e) f0 f1 f3 f4 f5
  obtain⟨o,e,c,d⟩:=id st'
  exact⟨u,rfl,x2a (s:={ s with heap:=h' }) e c d (by decide) ⟨x,H,I1,ru,⟨rfl,fun ys hy=>by rw[I.list_inj hy hq];exact hx⟩,st',fun b hb=>(hf b hb).1⟩⟩
 done:=by
  intro X hP hw hK hc i pins s σ H E I hf st hg
  subst hP hw hK
  obtain⟨xs,hq,hx⟩:=hg
  obtain⟨its,rv,p,hz⟩:=I.list hq
  obtain⟨f0,f1,f2,f3,f4,f5⟩:=hf it (by simp)
  have hl:=rv.length
  exact wpAny_pyNext_list_end (I.ok.hd hc) st p.isList (by simp;lia) fun h' eb=>⟨rfl,I.turned (t':=s.toks) (fun b o hb e=>eb b o hb e) f0 f1 f3 f4 f5⟩
 self:=fun _ _ _ _ _ st h=>wpAny_pyIter_listiter st h
theorem y6j{P:Program}{w:World}{K:PySem.W.Frag}{tg:Expr}(a it:Addr):Turn P w K tg (Itt K a) [it] it (fun i h=>h.IsTupleIter it a i) where
 mem:=by simp
 obj:=fun i h st b hb=>by
  have e:b=it:=by simpa using hb
  subst e
  obtain⟨o,e,c,d⟩:=st
  exact⟨o,e,fun v z=>by rw[d] at z;cases z⟩
 keep:=fun i h h' st k=>st.at fun o e=>k it (by simp) o e
 item:=by
  intro X hP hw hK hc i pins s σ H E I hf st hg
  subst hP hw hK
  obtain⟨xs,x,hq,hx⟩:=hg
  obtain⟨its,rv,p,hz⟩:=I.tuple hq
  obtain⟨u,hu,ru⟩:=rv.get hx
  obtain⟨f0,f1,f2,f3,f4,f5⟩:=hf it (by simp)
  refine wpAny_pyNext_tuple_item st (show s.heap.IsTuple a its.toArray from p) (x:=u) (by simpa using hu) fun h' st' sb=>?_
  have I1:Inv X pins σ H { s with heap:=h' }:=I.turned (t':=s.toks) (fun b o hb e=>(sb.2 b hb).trans e) f0 f1 f3 f4 f5
  obtain⟨o,e,c,d⟩:=id st'
  exact⟨u,rfl,x2a (s:={ s with heap:=h' }) e c d (by decide) ⟨x,H,I1,ru,⟨rfl,fun ys hy=>by rw[I.tuple_inj hy hq];exact hx⟩,st',fun b hb=>(hf b hb).1⟩⟩
 done:=by
  intro X hP hw hK hc i pins s σ H E I hf st hg
  subst hP hw hK
  obtain⟨xs,hq,hx⟩:=hg
  obtain⟨its,rv,p,hz⟩:=I.tuple hq
  obtain⟨f0,f1,f2,f3,f4,f5⟩:=hf it (by simp)
  have hl:=rv.length
  exact wpAny_pyNext_tuple_end (I.ok.hd hc) st (show s.heap.IsTuple a its.toArray from p) (by simp;lia) fun h' eb=>⟨rfl,I.turned (t':=s.toks) (fun b o hb e=>eb b o hb e) f0 f1 f3 f4 f5⟩
 self:=fun _ _ _ _ _ st h=>wpAny_pyIter_tupleiter st h
theorem y6k{P:Program}{w:World}{K:PySem.W.Frag}{tg:Expr}(it:Addr)(lo:Int)(n:Nat):Turn P w K tg (Itr lo n) [it] it (fun i h=>IsRangeIter h it (lo+(i:Nat)*1) ((n:Int)-(i:Nat)) 1) where
 mem:=by simp
 obj:=fun i h st b hb=>by
  have e:b=it:=by simpa using hb
  subst e
  exact⟨_,st,fun v z=>by
   have z':Data.fields _=Data.cell v:=z
   cases z'⟩
 keep:=fun i h h' st k=>k it (by simp) _ st
 item:=by
  intro X hP hw hK hc i pins s σ H E I hf st hg
  subst hP hw hK
  obtain⟨f0,f1,f2,f3,f4,f5⟩:=hf it (by simp)
  have W:=Walks.range (prog:=X.prog) (w:=X.w) (I.ok.hd hc) it lo 1 n
  refine W.item i s _ _ hg st fun v h' tk hv st' kk=>?_
  obtain⟨t,rfl⟩:=hv
  have I1:Inv X pins σ H { s with heap:=h',toks:=tk }:=I.turned (fun b o hb e=>kk b o (by simpa using hb) e) f0 f1 f3 f4 f5
  refine⟨_,rfl,x2a (s:={ s with heap:=h',toks:=tk }) (n:="range_iterator") st' rfl rfl (by decide) ⟨.int (lo+i),H,I1,⟨t,?_⟩,⟨rfl,rfl⟩,st',fun b hb=>(hf b hb).1⟩⟩
  rw[Int.mul_one]
 done:=by
  intro X hP hw hK hc i pins s σ H E I hf st hg
  subst hP hw hK
  obtain⟨f0,f1,f2,f3,f4,f5⟩:=hf it (by simp)
  exact wpAny_pyNext_range_end (I.ok.hd hc) st (by have:n<=i:=hg;lia) fun h' eb=>⟨rfl,I.turned (t':=s.toks) (fun b o hb e=>eb b o hb e) f0 f1 f3 f4 f5⟩
 self:=fun _ _ _ _ _ st h=>wpAny_pyIter_rangeiter st h
end L2
namespace L2
open PySem PySem.Spec PyProof.Rows
section
variable {X:Cx}{tg:Expr}
theorem y5p{pins:List (Addr×Obj)}{σ:St}{H:Hp}{s:Shared}{R:It->Hp->Prop}{E:Value->Shared->Prop}{lo hi:Int}{t u v:Tok}{tk:Nat}(I:Inv X pins σ H s)(h1:-(2^62)<=lo)(h2:lo<2^62)(h3:-(2^62)<=hi)(h4:hi<2^62)
 (q:R (Itr lo (hi-lo).toNat) H):wpAny (model X.prog X.w) X.A (pyIter (.ref s.heap.objs.size)) (PIE X pins σ tg R) E { s with heap:=s.heap.push { cls:=.type "range",data:=.fields #[.int lo t,.int hi u,.int 1 v] },toks:=tk }:=by
 refine wpAny_pyIter_range (IsRange.new ..) (small_one h1 h2 h3 h4) ?_
 have I1:Inv X pins σ H { s with heap:=s.heap.push { cls:=.type "range",data:=.fields #[.int lo t,.int hi u,.int 1 v] },toks:=tk }:=I.kept fun b o e=>Heap.get?_push_of_some _ e
 refine⟨(s.heap.push { cls:=.type "range",data:=.fields #[.int lo t,.int hi u,.int 1 v] }).objs.size,[(s.heap.push { cls:=.type "range",data:=.fields #[.int lo t,.int hi u,.int 1 v] }).objs.size],_,_,H,rfl,
  I1.kept (t':=tk) fun b o e=>Heap.get?_push_of_some _ e,y6k _ lo (hi-lo).toNat,?_,fun b hb=>?_,q⟩
 ·have e1:lo+((0:Nat):Int)*1=lo:=by simp
  have e2:(((hi-lo).toNat:Nat):Int)-((0:Nat):Int)=Builtin.Range.rangeSize lo hi 1:=by rw[rangeSize_one];split<;>lia
  show IsRangeIter _ _ (lo+((0:Nat):Int)*1) ((((hi-lo).toNat:Nat):Int)-((0:Nat):Int)) 1
  rw[e1,e2]
  exact Heap.get?_push_size _ rfl
 ·have e:b=(s.heap.push { cls:=.type "range",data:=.fields #[.int lo t,.int hi u,.int 1 v] }).objs.size:=by simpa using hb
  subst e
  exact I1.fpOk (Nat.le_refl _) (I1.hok.fresh (Nat.le_refl _))
noncomputable def y1j(fp:List Addr)(h:Heap):List (Addr×Obj):=fp.filterMap fun b=>(h.get? b).map fun o=>(b,o)
theorem z3a{fp:List Addr}{h:Heap}{b:Addr}{o:Obj}(hb:b∈fp)(e:h.get? b=some o):(b,o)∈y1j fp h:=List.mem_filterMap.mpr ⟨b,hb,by rw[e];rfl⟩
theorem y9e{fp:List Addr}{h:Heap}{p:Addr×Obj}(hp:p∈y1j fp h):p.1∈fp/\h.get? p.1=some p.2:=by
 obtain⟨b,hb,e⟩:=List.mem_filterMap.mp hp
 cases q:h.get? b with
 | none=>rw[q] at e;cases e
 | some o =>
   rw[q] at e
   have e':(b,o)=p:=Option.some.inj e
   subst e'
   exact⟨hb,q⟩
theorem Inv.pinned{pins:List (Addr×Obj)}{σ:St}{H:Hp}{s:Shared}{fp:List Addr}(I:Inv X pins σ H s)(hf:∀b∈fp,FpOk X pins H b)(ho:∀b∈fp,∃o,s.heap.get? b=some o/\∀v,o.data ≠ .cell v):Inv X (pins++y1j fp s.heap) σ H s :=
 I.pins_of fun p hp=>(List.mem_append.mp hp).elim (fun z=>I.pin p (List.mem_append_right _ z)) fun z=>by
  obtain⟨hb,e⟩:=y9e z
  obtain⟨f0,f1,f2,_⟩:=hf p.1 hb
  obtain⟨o,e',d⟩:=ho p.1 hb
  rw[e] at e';cases e'
  exact⟨e,f0,f1,f2,d⟩
theorem Inv.unpinned{pins pl:List (Addr×Obj)}{σ:St}{H:Hp}{s:Shared}(I:Inv X (pins++pl) σ H s):Inv X pins σ H s:=I.pins_of fun p hp=>I.pin p (List.mem_append_right _ (List.mem_append_left _ hp))
end
end L2
namespace L2
open PySem PySem.Spec PyProof.Rows
noncomputable abbrev R2:=V->V->Hp->VK->Prop
noncomputable def OpR(X:Cx)(f:Value->Value->Sem Value)(r:R2):Prop :=
 ∀(pins:List (Addr×Obj)) (s:Shared) (σ:St) (H:Hp) (x y:V) (v u:Value) (Q:VK),Inv X pins σ H s->RelV x v->RelV y u->r x y H Q ->
  wpAny (model X.prog X.w) X.A (f v u) (EP X pins σ Q) X.xe s
noncomputable def UnR(X:Cx)(f:Value->Sem Value)(r:V->Hp->VK->Prop):Prop :=
 ∀(pins:List (Addr×Obj)) (s:Shared) (σ:St) (H:Hp) (x:V) (v:Value) (Q:VK),Inv X pins σ H s->RelV x v->r x H Q ->
  wpAny (model X.prog X.w) X.A (f v) (EP X pins σ Q) X.xe s
noncomputable def z9c(X:Cx)(f:Value)(r:List V->Hp->VK->Prop):Prop :=
 ∀(pins:List (Addr×Obj)) (s:Shared) (σ:St) (H:Hp) (xs:List V) (us:List Value) (Q:VK),Inv X pins σ H s->Vals xs us->r xs H Q ->
  wpAny (model X.prog X.w) X.A (call f us) (EP X pins σ Q) X.xe s
noncomputable def tOp(r:R2)(ta tb:TE):TE:=fun σ H Q=>ta σ H fun x H1=>tb σ H1 fun y H2=>r x y H2 Q
noncomputable def tUn(r:V->Hp->VK->Prop)(ta:TE):TE:=fun σ H Q=>ta σ H fun x H1=>r x H1 Q
noncomputable def rI(C:Int->Int->Prop)(g:Int->Int->V):R2:=fun x y H Q=>∃i j,x = .int i/\y = .int j/\C i j/\Q (g i j) H
noncomputable def rI0(g:Int->Int->V):R2:=fun x y H Q=>∃i j,x = .int i/\y = .int j/\Q (g i j) H
noncomputable def rU(g:Int->V):V->Hp->VK->Prop:=fun x H Q=>∃i,x = .int i/\Q (g i) H
section
variable {X:Cx}{a b c:Expr}{ta tb tc:TE}{pos:Pos}
theorem binT(ha:PE X a ta)(hb:PE X b tb){pins:List (Addr×Obj)}{s:Shared}{σ:St}{H:Hp}{R:V->V->Hp->Prop}(I:Inv X pins σ H s)
 (h:ta σ H fun x H1=>tb σ H1 fun y H2=>R x y H2) {Q:Value->Shared->Prop} {f:Value->Value->Sem Value}
 (hf:∀v u s2 x y H2,Inv X pins σ H2 s2->RelV x v->RelV y u->R x y H2->wpAny (model X.prog X.w) X.A (f v u) Q X.xe s2) :
 wpAny (model X.prog X.w) X.A (eval a X.env) (fun v s₁=>wpAny (model X.prog X.w) X.A (eval b X.env) (fun u s₂=>wpAny (model X.prog X.w) X.A (f v u) Q X.xe s₂) X.xe s₁) X.xe s:=by
 refine thn (ha pins s σ H _ I h) fun v s1 ⟨x,H1,I1,r1,q1⟩=>?_
 refine thn (hb pins s1 σ H1 _ I1 q1) fun u s2 ⟨y,H2,I2,r2,q2⟩=>?_
 exact hf v u s2 x y H2 I2 r1 r2 q2
theorem x6k{op:UnaryOp}{r:V->Hp->VK->Prop}(ho:UnR X (unaryOp op) r)(ha:PE X a ta):PE X (.UnaryOp op a pos) (tUn r ta):=by
 intro pins s σ H Q I h
 exact UnaryOp_ (thn (ha pins s σ H _ I h) fun v s1 ⟨x,H1,I1,r1,q1⟩=>ho pins s1 σ H1 x v Q I1 r1 q1)
theorem opI{f:Value->Value->Sem Value}{C:Int->Int->Prop}{g:Int->Int->Int}
 (rule:∀(i j:Int) (t u:Tok) (s:Shared) (Q:Value->Shared->Prop) (E:Value->Shared->Prop),C i j->Q (.int (g i j) s.toks) { s with toks:=s.toks+1 }->wpAny (model X.prog X.w) X.A (f (.int i t) (.int j u)) Q E s) :
 OpR X f (rI C fun i j=>.int (g i j)):=by
 intro pins s σ H x y v u Q I rx ry h
 obtain⟨i,j,rfl,rfl,hc,q⟩:=h
 obtain⟨t,rfl⟩:=rx
 obtain⟨t',rfl⟩:=ry
 exact rule i j t t' s _ _ hc ⟨.int (g i j),H,I.tok _,⟨_,rfl⟩,q⟩
theorem opI0{f:Value->Value->Sem Value}{g:Int->Int->Int}
 (rule:∀(i j:Int) (t u:Tok) (s:Shared) (Q:Value->Shared->Prop) (E:Value->Shared->Prop),Q (.int (g i j) s.toks) { s with toks:=s.toks+1 }->wpAny (model X.prog X.w) X.A (f (.int i t) (.int j u)) Q E s) :
 OpR X f (rI0 fun i j=>.int (g i j)):=by
 intro pins s σ H x y v u Q I rx ry h
 obtain⟨i,j,rfl,rfl,q⟩:=h
 obtain⟨t,rfl⟩:=rx
 obtain⟨t',rfl⟩:=ry
 exact rule i j t t' s _ _ ⟨.int (g i j),H,I.tok _,⟨_,rfl⟩,q⟩
theorem opB0{f:Value->Value->Sem Value}{g:Int->Int->Bool}
 (rule:∀(i j:Int) (t u:Tok) (s:Shared) (Q:Value->Shared->Prop) (E:Value->Shared->Prop),Q (.bool (g i j)) s->wpAny (model X.prog X.w) X.A (f (.int i t) (.int j u)) Q E s) :
 OpR X f (rI0 fun i j=>.bl (g i j)):=by
 intro pins s σ H x y v u Q I rx ry h
 obtain⟨i,j,rfl,rfl,q⟩:=h
 obtain⟨t,rfl⟩:=rx
 obtain⟨t',rfl⟩:=ry
 exact rule i j t t' s _ _ ⟨.bl (g i j),H,I,rfl,q⟩
noncomputable def CDiv(i j:Int):Prop:=0<j/\j<1073741824
noncomputable def CPow(i j:Int):Prop:=0<=j/\j<=1000000/\i.natAbs<2^64
noncomputable def CMul(i j:Int):Prop:=(-(2^64)<i/\i<2^64)∨(-(2^64)<j/\j<2^64)
theorem CMul.ok{i j:Int}(h:CMul i j):IntMulOk i j:=by
 rcases h with ⟨h1,h2⟩ | ⟨h1,h2⟩
 ·exact .of_left (intBits_le_64 h1 h2)
 ·exact .of_right (intBits_le_64 h1 h2)
theorem x6v:OpR X (binaryOp .Add) (rI0 fun i j=>.int (i+j)):=opI0 fun _ _ _ _ _ _ _ q=>add_int q
theorem x6p:OpR X (binaryOp .Sub) (rI0 fun i j=>.int (i-j)):=opI0 fun _ _ _ _ _ _ _ q=>sub_int q
theorem x6s:OpR X (binaryOp .Mult) (rI CMul fun i j=>.int (i*j)):=opI fun _ _ _ _ _ _ _ hc q=>mul_int q hc.ok
theorem x4e:OpR X (binaryOp .FloorDiv) (rI CDiv fun i j=>.int (i/j)):=opI fun i j _ _ _ _ _ hc q=>by
 have h1:(0:Int)<j:=hc.1
 have h2:j<1073741824:=hc.2
 exact floordiv_int (by lia) (by rw[Int.fdiv_eq_ediv_of_nonneg i (by lia)];exact q) (.inl (PyProof.noPylong_small (by lia)))
theorem x6t:OpR X (binaryOp .Mod) (rI (fun _ j=>0<j) fun i j=>.int (i%j)):=opI fun i j _ _ _ _ _ hc q=>by
 have h1:(0:Int)<j:=hc
 exact mod_int' (by lia) (by rw[Int.fmod_eq_emod_of_nonneg i (by lia)];exact q)
theorem x6r:OpR X (binaryOp .Pow) (rI CPow fun i j=>.int (i^j.toNat)):=opI fun _ _ _ _ _ _ _ hc q=>pow_int_small hc.1 hc.2.1 hc.2.2 q
theorem unI{f:Value->Sem Value}{g:Int->Int}
 (rule:∀(i:Int) (t:Tok) (s:Shared) (Q:Value->Shared->Prop) (E:Value->Shared->Prop),Q (.int (g i) s.toks) { s with toks:=s.toks+1 }->wpAny (model X.prog X.w) X.A (f (.int i t)) Q E s) :
 UnR X f (rU fun i=>.int (g i)):=by
 intro pins s σ H x v Q I rx h
 obtain⟨i,rfl,q⟩:=h
 obtain⟨t,rfl⟩:=rx
 exact rule i t s _ _ ⟨.int (g i),H,I.tok _,⟨_,rfl⟩,q⟩
theorem x2p:UnR X (unaryOp .USub) (rU fun i=>.int (-i)):=unI fun _ _ _ _ _ q=>neg_int q
end
section
variable {X:Cx}{a b c:Expr}{ta tb tc:TE}{pos:Pos}
theorem x8b:OpR X (compareOp .Lt) (rI0 fun i j=>.bl (decide (i<j))):=opB0 fun _ _ _ _ _ _ _ q=>lt_int q
theorem x8c:OpR X (compareOp .LtE) (rI0 fun i j=>.bl (decide (i<=j))):=opB0 fun _ _ _ _ _ _ _ q=>le_int q
theorem x8d:OpR X (compareOp .Gt) (rI0 fun i j=>.bl (decide (j<i))):=opB0 fun _ _ _ _ _ _ _ q=>gt_int q
theorem x8e:OpR X (compareOp .GtE) (rI0 fun i j=>.bl (decide (j<=i))):=opB0 fun _ _ _ _ _ _ _ q=>ge_int q
theorem OpR.or{f:Value->Value->Sem Value}{r r':R2}(h:OpR X f r)(h':OpR X f r'):OpR X f (fun x y H Q=>r x y H Q∨r' x y H Q):=by
 intro pins s σ H x y v u Q I rx ry q
 rcases q with q | q
 ·exact h pins s σ H x y v u Q I rx ry q
 ·exact h' pins s σ H x y v u Q I rx ry q
theorem z1g(b:Expr){op:CmpOp}(h:op ≠ .In:=by decide)(h2:op ≠ .NotIn:=by decide):behindInMarks op b=false:=by
 have e1:(op==CmpOp.In)=false:=by cases op<;>first | rfl | exact absurd rfl h
 have e2:(op==CmpOp.NotIn)=false:=by cases op<;>first | rfl | exact absurd rfl h2
 cases b<;>simp[behindInMarks,e1,e2]
theorem y5x:(sizeLine:Nat)<2^63:=by rw[sizeLine_eq];decide
theorem y2p{x:V}{us:List Value}(r:Vals [x] us):∃u,us=[u]/\RelV x u:=by
 cases r with
 | cons r1 r2=>cases r2;exact⟨_,rfl,r1⟩
theorem x2l:z9c X (.builtin "abs") (fun xs H Q=>∃i,xs=[.int i]/\Q (.int (if i<0 then -i else i)) H):=by
 intro pins s σ H xs us Q I r h
 obtain⟨i,rfl,q⟩:=h
 obtain⟨u,rfl,t,rfl⟩:=y2p r
 exact call_abs_int fun u tk=>⟨.int (if i<0 then -i else i),H,I.tok _,⟨_,rfl⟩,q⟩
theorem x0n:z9c X (.type "int") (fun xs H Q=>(∃i,xs=[.int i]/\Q (.int i) H)∨∃k,xs=[.bl k]/\Q (.int (if k then 1 else 0)) H):=by
 intro pins s σ H xs us Q I r h
 rcases h with ⟨i,rfl,q⟩ | ⟨k,rfl,q⟩
 ·obtain⟨u,rfl,t,rfl⟩:=y2p r
  exact call_int_int ⟨.int i,H,I,⟨_,rfl⟩,q⟩
 ·obtain⟨u,rfl,r1⟩:=y2p r
  cases r1
  exact call_int_bool ⟨.int (if k then 1 else 0),H,I.tok _,⟨_,rfl⟩,q⟩
end
end L2
namespace L2
open PySem PySem.Spec PyProof.Rows
structure ObjM (h:Heap) (x dx C:Addr) (mA:Str->Option Value):Prop where
 obj:h.get? x=some (PySem.W.instObj C dx)
 ns:h.Ns1 dx mA
 ne:dx≠x
theorem y9l{h:Heap}{dx:Addr}{mA:Str->Option Value}(n:h.Ns1 dx mA):∃od,h.get? dx=some od/\∀name,PySem.W.lookIn name od=some (mA name):=by
 obtain⟨o,es,ep,ho,hd,hk,_,hm⟩:=n
 refine⟨o,ho,fun name=>?_⟩
 have e:=hm name
 unfold nsFind findBy at e
 rw[<-Array.find?_toList] at e
 unfold PySem.W.lookIn
 rw[hd]
 dsimp only
 split
 ·rename_i y q
  rw[q] at e
  exact congrArg some e
 ·rename_i q
  rw[q] at e
  have a:es.toList.any (·.refKey)=false:=by
   rw[List.any_eq_false]
   intro y hy
   obtain⟨z,t,hkey⟩:=hk y (Array.mem_toList_iff.mp hy)
   simp[DictEntry.refKey,hkey]
  have a':¬es.toList.any (·.refKey)=true:=by rw[a];exact Bool.false_ne_true
  rw[if_neg a']
  exact congrArg some e
theorem ObjM.look{h:Heap}{x dx C:Addr}{mA:Str->Option Value}(I:ObjM h x dx C mA):∃od,PySem.W.InstAt h x (PySem.W.instObj C dx) C (some od)/\∀name,PySem.W.lookIn name od=some (mA name) :=
 let ⟨od,ho,hl⟩:=y9l I.ns
 ⟨od,⟨I.obj,rfl,rfl,ho⟩,hl⟩
section
variable {prog:Program}{w:World}{A:Around}{E:Value->Shared->Prop}{s:Shared}{K:PySem.W.Frag}{x dx C f:Addr}{mA:Str->Option Value}{name:Str}{v:Value}
end
section
variable {P:Program}{w:World}{H H':Hp}{h h':Heap}{a C dx:Addr}{fs fs':List (Str×V)}
end
structure Cls (K:PySem.W.Frag) (C:Addr):Prop where
 pg:PySem.W.plainGet K C Str.empty=true
 hd:PySem.W.hasDictIn K C=true
 po:PySem.W.plainOver K C=true
 sa:PySem.W.findIn K (.ref C) "__setattr__"=some (some (.builtin "object.__setattr__"))
theorem Cls.get{K:PySem.W.Frag}{C:Addr}(c:Cls K C)(f:Str):PySem.W.plainGet K C f=true:=c.pg
structure Con (K:PySem.W.Frag) (C:Addr) (f:Str) (v:V) (u:Value):Prop where
 at_:PySem.W.findIn K (.ref C) f=some (some u)
 rel:RelV v u
 get:PySem.W.specialIn K u "__get__"=some none
 cp:PySem.W.copiedNames.contains f=false
structure Meth (K:PySem.W.Frag) (C:Addr) (m:Str) (f:Addr):Prop where
 at_:PySem.W.findIn K (.ref C) m=some (some (.ref f))
 fn:PySem.W.isFn K (.ref f)=true
 kp:PySem.W.keepIn K (.ref f)=true
section
variable {X:Cx}{pins:List (Addr×Obj)}{σ:St}{H:Hp}{s:Shared}{a C dx:Addr}{fs:List (Str×V)}{f:Str}{v:V}{A:Around}{E:Value->Shared->Prop}
theorem Inv.made(I:Inv X pins σ H s):Inv X pins σ (upd (upd H s.heap.objs.size (.own (s.heap.objs.size+1))) (s.heap.objs.size+1) (.ins C s.heap.objs.size []))
 { s with heap:=(s.heap.push PySem.W.emptyDict).push (PySem.W.instObj C s.heap.objs.size) }:=by
 have e1:(s.heap.push PySem.W.emptyDict).get? s.heap.objs.size=some PySem.W.emptyDict:=Heap.get?_push_size s.heap rfl
 have e2:((s.heap.push PySem.W.emptyDict).push (PySem.W.instObj C s.heap.objs.size)).get? (s.heap.objs.size+1)=some (PySem.W.instObj C s.heap.objs.size):=by
  have:=Heap.get?_push_size (s.heap.push PySem.W.emptyDict) (o:=PySem.W.instObj C s.heap.objs.size) rfl
  rwa [Heap.size_push] at this
 have e3:(s.heap.push PySem.W.emptyDict).Ns s.heap.objs.size (fun _=>none):=⟨PySem.W.emptyDict,#[],_,e1,rfl,(fun e he=>absurd he (by simp)),fun _=>rfl⟩
 have I1:=I.laid (a:=s.heap.objs.size) (o:=.own (s.heap.objs.size+1)) (h':=s.heap.push PySem.W.emptyDict) (t':=s.toks) (fun b u q=>Heap.get?_push_of_some _ q) (Nat.le_refl _) ⟨_,e1⟩
 refine I1.laid (a:=s.heap.objs.size+1) (o:=.ins C s.heap.objs.size []) (t':=s.toks) (fun b u q=>Heap.get?_push_of_some _ q) (Nat.le_of_eq (Heap.size_push _ _)) ?_
 have ne:s.heap.objs.size≠s.heap.objs.size+1:=Nat.ne_of_lt (Nat.lt_succ_self _)
 refine⟨by rw[z0k ne,z0m],Nat.zero_le _,ne,e2,fun _=>none,(Heap.Ns1.of_empty e3).at fun o q=>Heap.get?_push_of_some _ q,fun _=>True.intro,fun y hy=>absurd rfl hy⟩
end
section
variable {X:Cx}{o e value:Expr}{f:Str}{pos pos' tpos:Pos}{ta tv:TE}
end
section
variable {X:Cx}{pins:List (Addr×Obj)}{σ:St}{H:Hp}{s:Shared}{A:Around}{E:Value->Shared->Prop}{Q:Value->Shared->Prop}{c:Value}{b:Bool}
inductive TyOf (K:PySem.W.Frag) (H:Hp):V->Value->Prop where
 | non:TyOf K H .non (.type "NoneType")
 | bl (x:Bool):TyOf K H (.bl x) (.type "bool")
 | int (i:Int):TyOf K H (.int i) (.type "int")
 | str (x:Str):TyOf K H (.str x) (.type "str")
 | flt (x:UInt64):TyOf K H (.flt x) (.type "float")
 | lst {a:Addr} {xs:List V} (e:H a=some (.lst xs)):TyOf K H (.ref a) (.type "list")
 | frz {a:Addr} {o:Obj} {xs:List V} (e:H a=some (.frz o (.lst xs))):TyOf K H (.ref a) (.type "list")
 | tup {a:Addr} {xs:List V} (e:H a=some (.tup xs)):TyOf K H (.ref a) (.type "tuple")
 | dK {a:Addr} {kvs:List (Key×V)} (e:H a=some (.dK kvs)):TyOf K H (.ref a) (.type "dict")
 | dT {a:Addr} {kvs:List (List Key×V)} (e:H a=some (.dT kvs)):TyOf K H (.ref a) (.type "dict")
 | ins {a C dx:Addr} {fs:List (Str×V)} (e:H a=some (.ins C dx fs)) (cl:Cls K C) (ha:PySem.W.findIn K (.ref C) "__class__"=some (some (.builtin "object.__class__")))
    (hn:PySem.W.specialIn K (.builtin "object.__class__") "__get__"=some (some (.builtin "getset_descriptor.__get__"))) (htk:PySem.W.takesIn K (.builtin "object.__class__")=some true)
    (hm:PySem.W.mroIn K C (.type "object")=some true):TyOf K H (.ref a) (.ref C)
end
end L2
namespace L2
open PySem PySem.Spec PyProof.Rows
structure Room (k:Nat) (A:Around):Prop where
 hd:A.handled=none
 dp:A.depth+3*k+5<recursionLimit
 un:A.units+16*k+200<cLine
theorem Room.mono{j k:Nat}{A:Around}(r:Room k A)(h:j<=k):Room j A:=⟨r.hd,by have:=r.dp;lia,by have:=r.un;lia⟩
theorem Room.deeper{k:Nat}{A:Around}(r:Room (k+1) A)(env:Env):Room k (A.deeper env) :=
 ⟨r.hd,by have:=r.dp;show A.depth+1+3*k+5<_;lia,by have:=r.un;show A.units+3+16*k+200<_;lia⟩
theorem Room.in1{k:Nat}{A:Around}(r:Room (k+1) A):Room k A.in1 :=
 ⟨r.hd,by have:=r.dp;show A.depth+3*k+5<_;lia,by have:=r.un;show A.units+1+16*k+200<_;lia⟩
theorem Room.depth{k:Nat}{A:Around}(r:Room k A):A.depth<recursionLimit:=by have:=r.dp;lia
theorem Room.units{k:Nat}{A:Around}(r:Room k A):A.units+64<cLine:=by have:=r.un;lia
section
variable {X:Cx}{e:Expr}{es:List Expr}{te:TE}{t:TA}{pos:Pos}
end
noncomputable abbrev Sp:=List V->Hp->VK->XK->Prop
noncomputable abbrev CXT:=List Env->Hp->Shared->XK->Value->Shared->Prop
structure Env0 (P:Program) (w:World) (K:PySem.W.Frag) (mg:Str->Option Value) (base:Heap) (A:Around) (outer:List Env) (s:Shared) (H:Hp):Prop where
 frames:A.frames=some outer
 mod:Mod K mg base
 bs:∀b o,base.get? b=some o->s.heap.get? b=some o/\H b=none
 bsz:base.objs.size<=s.heap.objs.size
 funs:s.heap.FunFrames base outer
 frf:∀b∈frs outer,H b=none
 hok:HOk P w H s.heap
 bare:AllBare s.gens
noncomputable def CE(outer:List Env)(P:Program)(w:World)(H:Hp)(s:Shared)(Q:VK)(u:Value)(s':Shared):Prop :=
 ∃v H',s'.os=s.os/\AllBare s'.gens/\Un (frs outer) [] H H' s.heap s'.heap/\HOk P w H' s'.heap/\RelV v u/\Q v H'
noncomputable def CR(CX:CXT)(outer:List Env)(P:Program)(w:World)(H:Hp)(s:Shared)(Q:VK)(E:XK)(r:Result)(s':Shared):Prop :=
 match r with
 | .ok (.ret u)=>CE outer P w H s Q u s'
 | .ok _=>False
 | .error e=>CX outer H s E e s'
structure FnOk (P:Program) (w:World) (K:PySem.W.Frag) (mg:Str->Option Value) (base:Heap) (CX:CXT) (k:Nat) (f:Addr) (fd:FuncData) (ps:List Str) (sp:Sp):Prop where
 len:∀vs H Q E,sp vs H Q E->vs.length=ps.length
 run:∀(A:Around) (outer:List Env) (s:Shared) (H:Hp) (args:Args) (us:List Value) (vs:List V) (Q:VK) (E:XK),Room k A->Env0 P w K mg base A outer s H->BindsTo s fd args (ps.zip us)->Vals vs us->sp vs H Q E ->
  codeAny (model P w) A (.call (.ref f) args) (CR CX outer P w H s Q E) s
theorem FnOk.mono{P:Program}{w:World}{K:PySem.W.Frag}{mg:Str->Option Value}{base:Heap}{CX:CXT}{j k:Nat}{f:Addr}{fd:FuncData}{ps:List Str}{sp:Sp}(F:FnOk P w K mg base CX j f fd ps sp)(h:j<=k) :
 FnOk P w K mg base CX k f fd ps sp:=⟨F.len,fun A outer s H args us vs Q E hr=>F.run A outer s H args us vs Q E (hr.mono h)⟩
theorem FnOk.imp{P:Program}{w:World}{K:PySem.W.Frag}{mg:Str->Option Value}{base:Heap}{CX:CXT}{k:Nat}{f:Addr}{fd:FuncData}{ps:List Str}{sp sp':Sp}(F:FnOk P w K mg base CX k f fd ps sp)
 (h:∀vs H Q E,sp' vs H Q E->sp vs H Q E):FnOk P w K mg base CX k f fd ps sp' :=
 ⟨fun vs H Q E q=>F.len vs H Q E (h _ _ _ _ q),fun A outer s H args us vs Q E hr he hb hv hs=>F.run A outer s H args us vs Q E hr he hb hv (h _ _ _ _ hs)⟩
theorem Env0.in1{P:Program}{w:World}{K:PySem.W.Frag}{mg:Str->Option Value}{base:Heap}{A:Around}{outer:List Env}{s:Shared}{H:Hp}(e:Env0 P w K mg base A outer s H) :
 Env0 P w K mg base A.in1 outer s H:=⟨e.frames,e.mod,e.bs,e.bsz,e.funs,e.frf,e.hok,e.bare⟩
section
variable {X:Cx}{pins:List (Addr×Obj)}{σ:St}{H:Hp}{s s':Shared}
theorem Inv.env0(I:Inv X pins σ H s):Env0 X.prog X.w X.K X.mg X.base X.A X.stack s H :=
 ⟨I.ok.frames,I.ok.mod,I.bs,Nat.le_trans I.ok.bsz I.sz,I.stack,I.stkFree,I.hok,I.bare⟩
theorem Inv.after{Q:VK}{u:Value}(I:Inv X pins σ H s)(h:CE X.stack X.prog X.w H s Q u s'):EP X pins σ Q u s':=by
 obtain⟨v,H',os,bare,un,hok,r,q⟩:=h
 obtain⟨hh,g,d,t,os'⟩:=s'
 obtain rfl:os'=s.os:=os
 exact⟨v,H',I.call (h':=hh) (g':=g) (d':=d) (t':=t) (ch:=[]) un hok bare (fun b z=>absurd z (by simp)),r,q⟩
end
noncomputable def z1j(K:PySem.W.Frag)(fd:FuncData)(ps:List Str)(ds:List Value):Prop :=
 ∀(s:Shared) (us:List Value),K.In s.heap->(us++ds).length=ps.length->BindsTo s fd ⟨us,[]⟩ (ps.zip (us++ds))
theorem z1j.all{K:PySem.W.Frag}{fd:FuncData}{ps:List Str}(h:∀us:List Value,us.length=ps.length->bindArgs fd ⟨us,[]⟩=pure (ps.zip us)):z1j K fd ps []:=fun s us _ hl=>by
 rw[List.append_nil] at hl ⊢
 exact .of_eq (h us hl)
section
variable {X:Cx}{CX:CXT}{k:Nat}{f C:Addr}{fd:FuncData}{ps:List Str}{sp:Sp}{dvs:List V}{ds:List Value}{E:XK}{x m:Str}{p pos apos:Pos}{e o:Expr}{es:List Expr}{ta:TE}{t:TA}
structure Mk (K:PySem.W.Frag) (C f:Addr):Prop where
 makes:PySem.W.makesIn K C=true
 init:PySem.W.findIn K (.ref C) "__init__"=some (some (.ref f))
 fn:PySem.W.isFn K (.ref f)=true
 kp:PySem.W.keepIn K (.ref C)=true
end
noncomputable def PK(X:Cx)(kws:List Keyword)(t:TA):Prop :=
 ∀(pos:Pos) (pins:List (Addr×Obj)) (s:Shared) (σ:St) (H:Hp) (Q:List V->Hp->Prop),Inv X pins σ H s->t σ H Q->wpAny (model X.prog X.w) X.A (evalAll ((backToKw pos (keywordEach kws X.env)).map (·.2))) (AP X pins σ Q) X.xe s
section
variable {X:Cx}{CX:CXT}{k:Nat}{f C:Addr}{fd:FuncData}{ps ks:List Str}{sp:Sp}{E:XK}{x m:Str}{p pos apos kpos:Pos}{e o:Expr}{es:List Expr}{kws:List Keyword}{te ta:TE}{t tk:TA}{nm:Option Str}
structure KBinds (K:PySem.W.Frag) (fd:FuncData) (ps ks:List Str) (g:List Value->List Value->List Value) (gV:List V->List V->List V):Prop where
 to:∀(s:Shared) (us ws:List Value),K.In s.heap->(g us ws).length=ps.length->BindsTo s fd ⟨us,ks.zip ws⟩ (ps.zip (g us ws))
 rel:∀{vs:List V} {us:List Value} {zs:List V} {ws:List Value},Vals vs us->Vals zs ws->Vals (gV vs zs) (g us ws)
variable {g:List Value->List Value->List Value}{gV:List V->List V->List V}
end
structure FnScope (N P:List Str) (sc:Scope):Prop where
 kind:sc.kind = .function
 co:sc.isCoroutine=false
 gen:sc.isGenerator=false
 nd:N.Nodup
 pre:N.take P.length=P
 par:∀x∈P,sc.names.lookup x=some .local∨sc.names.lookup x=some .cell
 nofree:∀y∈sc.names,y.2 ≠ .free
theorem y3x{kindOf:Str->Option NameKind}{x:Str}:∀{binds:List (Str×Value)} {m:Str->Option Value},(∀v,(x,v) ∉ binds)->bindL kindOf binds m x=m x
 | [],_,_=>rfl
 | (n,v)::r,m,h=>by
   unfold bindL
   rw[y3x fun w hw=>h w (List.mem_cons_of_mem _ hw)]
   split
   ·have:x≠n:=by rintro rfl;exact h v List.mem_cons_self
    simp[this]
   ·rfl
theorem y3z{kindOf:Str->Option NameKind}{x:Str}:∀{binds:List (Str×Value)} {m:Str->Option Value},(∀v,(x,v) ∉ binds)->bindC kindOf binds m x=m x
 | [],_,_=>rfl
 | (n,v)::r,m,h=>by
   unfold bindC
   rw[y3z fun w hw=>h w (List.mem_cons_of_mem _ hw)]
   split
   ·rfl
   ·have:x≠n:=by rintro rfl;exact h v List.mem_cons_self
    simp[this]
theorem y3y{kindOf:Str->Option NameKind}{x:Str}{v:Value}:∀{P:List Str} {vs:List Value} {i:Nat} {m:Str->Option Value},P.Nodup->P[i]? = some x->vs[i]? = some v->kindOf x=some .local ->
 bindL kindOf (P.zip vs) m x=some v
 | [],_,_,_,_,h,_,_=>by simp at h
 | _::_,[],_,_,_,_,h,_=>by simp at h
 | p::P,w::vs,0,m,nd,h1,h2,hk=>by
   simp at h1 h2;subst h1;subst h2
   show bindL kindOf ((p,w)::P.zip vs) m p=_
   unfold bindL
   rw[y3x fun v hv=>(List.nodup_cons.mp nd).1 (List.of_mem_zip hv).1,if_pos hk]
   simp
 | p::P,w::vs,i+1,m,nd,h1,h2,hk=>by
   show bindL kindOf ((p,w)::P.zip vs) m x=_
   unfold bindL
   exact y3y (i:=i) (List.nodup_cons.mp nd).2 (by simpa using h1) (by simpa using h2) hk
theorem y4a{kindOf:Str->Option NameKind}{x:Str}{v:Value}:∀{P:List Str} {vs:List Value} {i:Nat} {m:Str->Option Value},P.Nodup->P[i]? = some x->vs[i]? = some v->kindOf x≠some .local ->
 bindC kindOf (P.zip vs) m x=some v
 | [],_,_,_,_,h,_,_=>by simp at h
 | _::_,[],_,_,_,_,h,_=>by simp at h
 | p::P,w::vs,0,m,nd,h1,h2,hk=>by
   simp at h1 h2;subst h1;subst h2
   show bindC kindOf ((p,w)::P.zip vs) m p=_
   unfold bindC
   rw[y3z fun v hv=>(List.nodup_cons.mp nd).1 (List.of_mem_zip hv).1,if_neg hk]
   simp
 | p::P,w::vs,i+1,m,nd,h1,h2,hk=>by
   show bindC kindOf ((p,w)::P.zip vs) m x=_
   unfold bindC
   exact y4a (i:=i) (List.nodup_cons.mp nd).2 (by simpa using h1) (by simpa using h2) hk
noncomputable def start(N:List Str)(vs:List V):St:=vs.map some++List.replicate (N.length-vs.length) none
noncomputable def cxOf(CX:CXT)(P:Program)(w:World)(K:PySem.W.Frag)(mg:Str->Option Value)(base:Heap)(N:List Str)(qual:Str)(scope:Scope)(f:Addr)(cd:Value)(A:Around)(outer:List Env)(s:Shared)(H:Hp)(E:XK):Cx where
 prog:=P
 w:=w
 K:=K
 mg:=mg
 base:=base
 A:=A.deeper (envOfC qual scope s.heap.objs.size f cd)
 N:=N
 s₀:=s
 H₀:=H
 env:=envOfC qual scope s.heap.objs.size f cd
 outer:=outer
 stack:=envOfC qual scope s.heap.objs.size f cd::outer
 ex:=[]
 calm:=true
 fn:=fun _=>true
 pn:=[]
 xe:=fun e s'=>wpAny (model P w) (A.deeper (envOfC qual scope s.heap.objs.size f cd)) (leaving (envOfC qual scope s.heap.objs.size f cd) e) (fun _ s''=>CX outer H s E e s'') (fun e' s''=>CX outer H s E e' s'') s'
theorem y6i{sc:Scope}{n:Nat}{x:Str}(h:sc.names.lookup x=some .cell):∃c,(cellsFrom n sc.names []).lookup x=some c:=by
 have q:=PySem.W.cellsFrom_some sc.names n [] (.inl h)
 exact Option.isSome_iff_exists.mp q
theorem y9t{CX:CXT}{P:Program}{w:World}{K:PySem.W.Frag}{mg:Str->Option Value}{base:Heap}{N ps:List Str}{qual:Str}{scope:Scope}{f:Addr}{cd:Value}{A:Around}{outer:List Env}{s s1:Shared}{H:Hp}{E:XK}{us:List Value}{vs:List V}
 (S:FnScope N ps scope) (hd:A.handled=none) (e0:Env0 P w K mg base A outer s H) (hl:vs.length=ps.length) (r:Vals vs us)
 (x:InCallC s s.heap.objs.size (bindL (envOfC qual scope s.heap.objs.size f cd).kindOf (ps.zip us) fun _=>none) (cellsFrom (s.heap.objs.size+1) scope.names []) (bindC (envOfC qual scope s.heap.objs.size f cd).kindOf (ps.zip us) fun _=>none) s1) :
 Inv (cxOf CX P w K mg base N qual scope f cd A outer s H E) [] (start N vs) H s1:=by
 have hpl:ps.length<=N.length:=by have:=congrArg List.length S.pre;rw[List.length_take] at this;lia
 obtain⟨h1,tk,rfl,hk⟩:=x.done
 have noA:∀b:Addr,b ∉ (cxOf CX P w K mg base N qual scope f cd A outer s H E).ex:=fun b z=>absurd (show b∈([]:List Addr) from z) (by simp)
 refine⟨⟨e0.mod,S.kind,rfl,rfl,Nat.le_refl _,fun y z c h1 h2=>?_,fun y hy=>?_,fun y c _ h=>?_,fun _=>hd,Around.frames_deeper e0.frames,.inr ⟨rfl,rfl⟩,fun b z=>absurd z (noA b),e0.bs,e0.bsz,fun b _ _=>noA b,fun b z=>absurd z (noA b),e0.funs,e0.frf⟩,
  rfl,e0.bare,Un.kept hk,⟨_,x.toInCall.ns,fun i y v h1 h2 h3=>?_⟩,fun y c h=>⟨_,x.cell y c h⟩,e0.hok.fresh (Nat.le_refl _),fun y c h=>?_,fun p hp=>absurd (show p∈([]:List (Addr×Obj)) from hp) (by simp),e0.hok.kept hk,?_⟩
 ·exact name_of_addr x.apart (PySem.mem_of_lookup h1) (PySem.mem_of_lookup h2)
 ·have hy:scope.names.lookup y=some .cell∨scope.names.lookup y=some .free:=hy
  rcases hy with hy | hy
  ·exact y6i hy
  ·exact absurd rfl (S.nofree _ (PySem.mem_of_lookup hy))
 ·exact Nat.le_of_lt (x.above y c (PySem.mem_of_lookup h))
 ·have hi:i<vs.length:=by
   unfold start at h2
   by_cases hi:i<vs.length
   ·exact hi
   ·rw[List.getElem?_append_right (by simpa using hi)] at h2
    rw[List.getElem?_replicate] at h2
    split at h2<;>cases h2
  have ha:vs[i]? = some v:=by
   unfold start at h2
   rw[List.getElem?_append_left (by simpa using hi),List.getElem?_map] at h2
   cases e:vs[i]? with
   | none=>rw[e] at h2;cases h2
   | some a=>rw[e] at h2;cases h2;rfl
  obtain⟨u,hu,rv⟩:=r.get ha
  have hp:ps[i]? = some y:=by
   rw[<-S.pre,List.getElem?_take_of_lt (by lia)];exact h1
  have ndP:ps.Nodup:=by rw[<-S.pre];exact S.nd.sublist (List.take_sublist _ _)
  refine⟨u,rv,?_⟩
  rcases S.par y (List.mem_of_getElem? hp) with k | k
  ·exact .inl ⟨k,y3y ndP hp hu k⟩
  ·obtain⟨c,e⟩:=y6i (n:=s.heap.objs.size+1) k
   refine .inr ⟨.inl k,c,e,?_⟩
   have q:=x.cell y c e
   rw[y4a ndP hp hu (by show scope.names.lookup y≠_;rw[k];decide)] at q
   exact q
 ·exact e0.hok.fresh (Nat.le_of_lt (x.above y c (PySem.mem_of_lookup h)))
 ·unfold start
  show _=N.length
  rw[List.length_append,List.length_map,List.length_replicate]
  lia
theorem x2g{CX:CXT}{P:Program}{w:World}{K:PySem.W.Frag}{mg:Str->Option Value}{base:Heap}{k:Nat}{f:Addr}{name qual:Str}{params:Arguments}{body:List Stmt}{scope:Scope}{dV kV doc pm cdv ct oc:Value}{an od:Option Addr}
 {osl:Array (Option Value)} {N ps:List Str} {sp:Sp} (lk:K.lookup f=some ⟨oc,od,.func (PySem.W.fnOf name qual params body scope dV kV doc pm an cdv ct),osl⟩) (hcd:PySem.W.codeIn K cdv qual=true) (S:FnScope N ps scope)
 (len:∀vs H Q E,sp vs H Q E->vs.length=ps.length)
 (hbody:∀(A:Around) (outer:List Env) (s:Shared) (H:Hp) (vs:List V) (Q:VK) (E:XK),Room k (A.deeper (envOfC qual scope s.heap.objs.size f cdv))->sp vs H Q E ->
   ∃t,PSs (cxOf CX P w K mg base N qual scope f cdv A outer s H E) body t/\t { nx:=fun _ H'=>Q .non H',rt:=Q } (start N vs) H) :
 FnOk P w K mg base CX (k+1) f (PySem.W.fnOf name qual params body scope dV kV doc pm an cdv ct) ps sp:=by
 refine⟨len,fun A outer s H args us vs Q E hr e0 hb r hsp=>?_⟩
 have hl:=len _ _ _ _ hsp
 have KX:K.In s.heap:=e0.mod.kin.keeps fun b o e=>(e0.bs b o e).1
 have lim:s.heap.NoLimit:=e0.mod.nolimit.keeps fun b o e=>(e0.bs b o e).1
 have hkind:∀y∈ps.zip us,scope.names.lookup y.1=some .local∨(scope.names.lookup y.1=some .cell/\((cellsFrom (s.heap.objs.size+1) scope.names []).lookup y.1).isSome=true):=fun⟨n,v⟩ hy=>by
  rcases S.par n (List.of_mem_zip hy).1 with q | q
  ·exact .inl q
  ·exact .inr ⟨q,PySem.W.cellsFrom_some _ _ _ (.inl q)⟩
 refine codeAny_call_function hr.depth (KX _ _ lk) rfl S.co S.gen rfl (PySem.W.codeRec_of KX hcd) (hb _ _ _ _ ?_)
 refine wpAny_newFunctionEnv_cells S.kind hkind fun env he s1 x=>?_
 subst he
 refine⟨lim.keeps x.toInCall.keep,codeAny_func ?_⟩
 obtain⟨t,ht,hq⟩:=hbody A outer s H vs Q E (hr.deeper _) hsp
 have I:Inv (cxOf CX P w K mg base N qual scope f cdv A outer s H E) [] (start N vs) H s1:=y9t S hr.hd e0 hl r x
 refine wpAny_mono (ht [] s1 (start N vs) H _ I hq) (fun fl s' hs=>?_) fun e s' hs=>hs
 have fin:∀{σ':St} {H':Hp} {v:V} {u:Value},Inv (cxOf CX P w K mg base N qual scope f cdv A outer s H E) [] σ' H' s'->RelV v u->Q v H'->CE outer P w H s Q u s' :=
  fun {σ' H' v u} J rv q=>⟨v,H',J.os,J.bare,J.base,J.hok,rv,q⟩
 cases fl with
 | ret u =>
   obtain⟨v,σ',H',J,rv,q⟩:=hs
   exact fin J rv q
 | next =>
   obtain⟨σ',H',J,q⟩:=hs
   exact fin (v:=V.non) (u:=Value.none) J rfl q
 | brk =>
   obtain⟨_,_,_,q⟩:=hs
   exact False.elim q
 | cont =>
   obtain⟨_,_,_,q⟩:=hs
   exact False.elim q
end L2
namespace L2
open PySem PySem.Spec PyProof.Rows
section
variable {X:Cx}{x:Str}{p pos:Pos}{e:Expr}{es:List Expr}{t:TA}{id T:String}{r:List V->Hp->VK->Prop}
end
end L2
namespace HT
open PySem PyProof.Rows
section
open PySem.SeqAt
open PySem.AutoSeq1 (wpAny_loadPart')
open PySem.MeetsSeq PySem.MeetsSeq2 PySem.MeetsSeq3
end
section
variable {prog:Program}{w:World}{A:Around}{E:Value->Shared->Prop}{s:Shared}
theorem cat_tup{t b:Addr}{vs ws:List Value}{Q:Value->Shared->Prop}(ht:IsTup s.heap t vs.toArray)(hb:IsTup s.heap b ws.toArray)(hv:vs≠[])
 (h1:ws=[]->Q (.ref t) s) (h2:ws≠[]->Q (.ref s.heap.objs.size) { s with heap:=s.heap.push { cls:=.type "tuple",data:=.seq (vs++ws).toArray } })
 (hsz:vs.length+ws.length<=sizeLine):wpAny (model prog w) A (binaryOp .Add (.ref t) (.ref b)) Q E s:=by
 obtain⟨⟨cls,dd,data,sl⟩,ho,hc,n,hd⟩:=id ht
 obtain⟨⟨cls2,dd2,data2,sl2⟩,ho2,hc2,n2,hd2⟩:=id hb
 simp only at hc hd hc2 hd2
 subst hc hd hc2 hd2
 have e:vs.toArray++ws.toArray=(vs++ws).toArray:=by simp
 by_cases hw:ws=[]
 ·exact concat_meets ⟨_,ho,rfl⟩ ⟨_,ho2,rfl⟩ noFill_tuple_add seq_tuple_add PySem.F.slot_tuple_add PySem.F.entry_tuple_add (PySem.F.args_tuple_add_2 _ _)
   (tuple_addW1 t b vs.toArray ws.toArray n n2 dd dd2 sl sl2 (by simpa using hv) (by simp[hw])) ⟨ho,ho2,h1 hw⟩
 ·refine concat_meets ⟨_,ho,rfl⟩ ⟨_,ho2,rfl⟩ noFill_tuple_add seq_tuple_add PySem.F.slot_tuple_add PySem.F.entry_tuple_add (PySem.F.args_tuple_add_2 _ _)
   (tuple_addW2 t b vs.toArray ws.toArray n n2 dd dd2 sl sl2 (by simpa using hv) (by simpa using hw) (by rw[List.size_toArray,List.size_toArray];exact hsz)) ⟨ho,ho2,?_⟩
  rw[e]
  exact h2 hw
noncomputable def sIx(n d:Nat):Option Int->Nat
 | none=>d
 | some v=>if v<0 then (v+(n:Int)).toNat else min v.toNat n
theorem sIx_none(n d:Nat):sIx n d none=d:=rfl
theorem sIx_nat(n d k:Nat):sIx n d (some (k:Int))=min k n:=by
 show(if (k:Int)<0 then ((k:Int)+(n:Int)).toNat else min (k:Int).toNat n)=min k n
 rw[if_neg (by lia),Int.toNat_natCast]
theorem x5z(n d:Nat)(hd:d<=n)(o:Option Int):sIx n d o<=n:=by
 cases o with
 | none=>exact hd
 | some v =>
   show(if v<0 then (v+(n:Int)).toNat else min v.toNat n)<=n
   by_cases hv:v<0
   ·rw[if_pos hv];lia
   ·rw[if_neg hv];exact Nat.min_le_right _ _
theorem x0l(v:Int)(n d:Nat):(if v<0 then max (v+(n:Int)) 0 else min v (n:Int))=((sIx n d (some v):Nat):Int):=by
 show(if v<0 then max (v+(n:Int)) 0 else min v (n:Int))=(((if v<0 then (v+(n:Int)).toNat else min v.toNat n):Nat):Int)
 by_cases hv:v<0
 ·simp only[if_pos hv];lia
 ·simp only[if_neg hv];lia
theorem y7t(lo hi:Option Int)(n:Nat):Builtin.Slice.sliceAdjust lo hi 1 (n:Int)=(((sIx n 0 lo:Nat):Int),((sIx n n hi:Nat):Int)):=by
 have h1:¬((1:Int)<0):=by lia
 unfold Builtin.Slice.sliceAdjust
 simp only[h1,if_false]
 refine Prod.ext ?_ ?_
 ·cases lo with
  | none=>rfl
  | some v=>exact x0l v n 0
 ·cases hi with
  | none=>rfl
  | some v=>exact x0l v n n
theorem y6v(i j:Nat):Builtin.Slice.slicePlaces (i:Int) (j:Int) 1=j-i:=by
 unfold Builtin.Slice.slicePlaces
 have h1:(1:Int)>0:=by lia
 simp only[h1,if_true,Int.ediv_one]
 split<;>lia
theorem y1f{v:Value}{o:Option Int}{Q:Option Int->Shared->Prop}(p:IsPart v o)(h:Q o s):wpAny (model prog w) A (Builtin.Slice.slicePartIndex v) Q E s:=by
 cases p with
 | none=>exact slicePart_none h
 | int i t=>exact slicePart_int h
theorem z5z{sl:Addr}{vl vu:Value}{lo hi:Option Int}{n:Nat}{Q:Int×Int×Nat->Shared->Prop}(hs:s.heap.IsSliceOf sl vl vu .none)(pl:IsPart vl lo)(pu:IsPart vu hi)
 (h:Q (((sIx n 0 lo:Nat):Int),1,sIx n n hi-sIx n 0 lo) s):wpAny (model prog w) A (Builtin.Slice.sliceApplied (.ref sl) (pure (n:Int))) Q E s:=by
 obtain⟨os,hos,hcs,hds⟩:=id hs
 unfold Builtin.Slice.sliceApplied Builtin.Slice.sliceFields
 refine wpAny_bind (wpAny_bind (wpAny_field hos hds (x:=vl) rfl (wpAny_bind (wpAny_field hos hds (x:=vu) rfl (wpAny_bind (wpAny_field hos hds (x:=.none) rfl (wpAny_pure ?_)))))))
 refine wpAny_bind (slicePart_none ?_)
 show wpAny _ _ (if ((1:Int)==0)=true then _ else _) _ _ s
 rw[if_neg (by decide)]
 refine wpAny_bind (y1f pl (wpAny_bind (y1f pu (wpAny_bind (wpAny_pure ?_)))))
 show wpAny _ _ (match Builtin.Slice.sliceAdjust lo hi 1 (n:Int) with | (lo,hi)=>pure (lo,(1:Int),Builtin.Slice.slicePlaces lo hi 1)) _ _ s
 rw[y7t lo hi n]
 show wpAny _ _ (pure (((sIx n 0 lo:Nat):Int),(1:Int),Builtin.Slice.slicePlaces ((sIx n 0 lo:Nat):Int) ((sIx n n hi:Nat):Int) 1)) _ _ s
 rw[y6v]
 exact wpAny_pure h
theorem x1j(xs:Array Value)(i k:Nat):((List.range k).filterMap fun(m:Nat)=>xs[((i:Int)+(m:Int)*1).toNat]?).toArray=((xs.toList.drop i).take k).toArray:=by
 have e:(fun(m:Nat)=>xs[((i:Int)+(m:Int)*1).toNat]?)=fun m=>xs[i+m]?:=by
  funext m
  have:((i:Int)+(m:Int)*1).toNat=i+m:=by lia
  rw[this]
 rw[e]
 have:=pick_run xs i k
 rw[List.filterMap_map] at this
 have e2:((fun x=>xs[x]?) ∘ fun x=>i+x)=fun m=>xs[i+m]?:=rfl
 rw[e2] at this
 rw[this]
theorem getItem_tuple_cut{t sl:Addr}{items:Array Value}{vl vu:Value}{lo hi:Option Int}{Q:Value->Shared->Prop}(ht:IsTup s.heap t items)(hs:s.heap.IsSliceOf sl vl vu .none)(pl:IsPart vl lo)(pu:IsPart vu hi)
 (hw:¬(sIx items.size 0 lo=0/\sIx items.size items.size hi=items.size))
 (h:Q (.ref s.heap.objs.size) { s with heap:=s.heap.push { cls:=.type "tuple",data:=.seq ((items.toList.drop (sIx items.size 0 lo)).take (sIx items.size items.size hi-sIx items.size 0 lo)).toArray } })
 (hsz:items.size<=sizeLine):wpAny (model prog w) A (getItem (.ref t) (.ref sl)) Q E s:=by
 have htake:sizeOk (.seq ((items.toList.drop (sIx items.size 0 lo)).take (sIx items.size items.size hi-sIx items.size 0 lo)).toArray):=by
  show((items.toList.drop (sIx items.size 0 lo)).take (sIx items.size items.size hi-sIx items.size 0 lo)).toArray.size<=sizeLine
  rw[List.size_toArray,List.length_take,List.length_drop,Array.length_toList]
  lia
 have hj:sIx items.size items.size hi<=items.size:=x5z _ _ (Nat.le_refl _) hi
 obtain⟨os,hos,hcs,hds⟩:=id hs
 have hTs:s.TypeIs (.ref sl) "slice":=⟨os,hos,hcs⟩
 unfold getItem
 try with_reducible refine wpAny_holding ?_
 first | refine wpAny_bind (wpAny_pure ?_) | skip
 refine wpAny_bind (wpAny_sequenceKey ht.typeIs (by decide) ?_)
 refine wpAny_bind (wpAny_callSpecial?_slot (name:=Str.ofString "__getitem__") ht.typeIs PyProof.Rows.slot_tuple_getitem
  (wpAny_call_entry PyProof.Rows.slot_tuple_getitem ht.typeIs entry_tuple_getitem ?_ (args_tuple_getitem _ _)))
 show wpAny _ _ (Builtin.Tuple.tupleItemsOf (.ref t)>>=_) _ _ s
 refine wpAny_bind (tupleItemsOf_ ht ?_)
 refine wpAny_bind (wpAny_typeOf hTs ?_)
 rw[if_pos (by decide)]
 refine wpAny_bind (z5z hs pl pu ?_)
 have hno:¬((((sIx items.size 0 lo:Nat):Int)==0&&(1:Int)==1&&(sIx items.size items.size hi-sIx items.size 0 lo)==items.size)=true):=by
  intro q
  rw[Bool.and_eq_true,Bool.and_eq_true] at q
  have q1:((sIx items.size 0 lo:Nat):Int)=0:=eq_of_beq q.1.1
  have q2:sIx items.size items.size hi-sIx items.size 0 lo=items.size:=eq_of_beq q.2
  exact hw ⟨by lia,by lia⟩
 show wpAny _ _ (if (((sIx items.size 0 lo:Nat):Int)==0&&(1:Int)==1&&(sIx items.size items.size hi-sIx items.size 0 lo)==items.size)=true then _ else _) _ _ s
 rw[if_neg hno,x1j]
 first
  | exact wpAny_bind (m:=Builtin.Tuple.tupleExact _) (wpAny_newObj_type (wpAny_pure ⟨_,rfl,wpAny_pure h⟩) htake)
  | exact wpAny_bind (m:=Builtin.Tuple.tupleExact _) (wpAny_newObj_type (wpAny_bind (wpAny_pure (wpAny_pure ⟨_,rfl,wpAny_pure h⟩))) htake)
  | exact wpAny_bind (wpAny_bind (m:=Builtin.Tuple.tupleExact _) (wpAny_newObj_type (wpAny_pure (wpAny_pure ⟨_,rfl,wpAny_pure h⟩)) htake))
  | exact wpAny_bind (wpAny_bind (m:=Builtin.Tuple.tupleExact _) (wpAny_newObj_type (wpAny_pure ⟨_,rfl,wpAny_pure h⟩) htake))
end
end HT
namespace L2
open PySem PySem.Spec PyProof.Rows
noncomputable abbrev TO:=St->Hp->(Option Int->Hp->Prop)->Prop
theorem y7d{ns:List Int}:∀{us:List Value},Vals (ns.map V.int) us->IntsAre us ns:=by
 induction ns with
 | nil=>intro us r;rw[List.map_nil] at r;cases r;exact .nil
 | cons n ns ih =>
   intro us r
   rw[List.map_cons] at r
   cases r with
   | cons r1 r2 =>
     obtain⟨t,e⟩:=r1
     subst e
     exact .cons n t (ih r2)
section
variable {X:Cx}{e:Expr}{te:TE}{lo hi:Option Expr}{tl th:TO}{pos p2:Pos}
noncomputable def SlR(X:Cx)(r:V->Option Int->Option Int->Hp->VK->Prop):Prop :=
 ∀(pins:List (Addr×Obj)) (s:Shared) (σ:St) (H:Hp) (x:V) (v vl vu:Value) (lo hi:Option Int) (sl:Addr) (Q:VK),Inv X pins σ H s->RelV x v->s.heap.IsSliceOf sl vl vu .none->IsPart vl lo->IsPart vu hi->r x lo hi H Q ->
  ∃T id,typeLookup (.type T) "__getitem__"=pure (some (.builtin id))/\s.TypeIs v T/\wpAny (model X.prog X.w) X.A (getItem v (.ref sl)) (EP X pins σ Q) X.xe s
theorem SlR.or{r r':V->Option Int->Option Int->Hp->VK->Prop}(h:SlR X r)(h':SlR X r'):SlR X (fun x lo hi H Q=>r x lo hi H Q∨r' x lo hi H Q):=by
 intro pins s σ H x v vl vu lo hi sl Q I rx hs pl pu q
 rcases q with q | q
 ·exact h pins s σ H x v vl vu lo hi sl Q I rx hs pl pu q
 ·exact h' pins s σ H x v vl vu lo hi sl Q I rx hs pl pu q
noncomputable def cutV(xs:List V)(lo hi:Option Int):List V:=(xs.drop (HT.sIx xs.length 0 lo)).take (HT.sIx xs.length xs.length hi-HT.sIx xs.length 0 lo)
theorem y0p(xs:List V)(lo hi:Option Int):(cutV xs lo hi).length<=xs.length:=by
 unfold cutV
 rw[List.length_take,List.length_drop]
 lia
noncomputable def rSlT(K:PySem.W.Frag):V->Option Int->Option Int->Hp->VK->Prop:=fun x lo hi H Q=>∃a xs,x = .ref a/\SqT K H a xs /\
 ¬(HT.sIx xs.length 0 lo=0/\HT.sIx xs.length xs.length hi=xs.length)/\∀p,H p=none->Q (.ref p) (upd H p (.tup (cutV xs lo hi)))
theorem x5w:SlR X (rSlT X.K):=by
 intro pins s σ H x v vl vu lo hi sl Q I rx hs pl pu h
 obtain⟨a,xs,rfl,hx,hw,q⟩:=h
 cases rx
 obtain⟨its,r,ht,hz⟩:=I.tuple hx
 have hlen:its.toArray.size=xs.length:=by rw[List.size_toArray];exact r.length.symm
 refine⟨"tuple",_,PyProof.Rows.slot_tuple_getitem.lookup,ht.typeIs,?_⟩
 refine HT.getItem_tuple_cut ht hs pl pu (by rw[hlen];exact hw) ?_ (by rw[hlen];exact hz)
 rw[hlen]
 refine⟨.ref s.heap.objs.size,_,I.laid (t':=s.toks) (o:=.tup (cutV xs lo hi)) (fun b ob q=>Heap.get?_push_of_some _ q) (Nat.le_refl _) ?_,rfl,q _ (I.hok.fresh (Nat.le_refl _))⟩
 exact⟨Nat.le_trans (y0p xs lo hi) hz,_,(r.drop (HT.sIx xs.length 0 lo)).take (HT.sIx xs.length xs.length hi-HT.sIx xs.length 0 lo),IsTup.new _ _⟩
noncomputable def x7v(K:PySem.W.Frag):R2:=fun x y H Q=>∃a b xs ys,x = .ref a/\y = .ref b/\SqT K H a xs/\SqT K H b ys/\xs≠[]/\xs.length+ys.length<=sizeLine /\
 (ys=[]->Q (.ref a) H)/\(ys≠[]->∀p,H p=none->Q (.ref p) (upd H p (.tup (xs++ys))))
theorem Vals.nil_iff{xs:List V}{us:List Value}(r:Vals xs us):us=[]↔xs=[]:=by
 cases r with
 | nil=>simp
 | cons _ _=>simp
theorem x4f:OpR X (binaryOp .Add) (x7v X.K):=by
 intro pins s σ H x y v u Q I rx ry h
 obtain⟨a,b,xs,ys,rfl,rfl,ha,hb,hx,hz,q1,q2⟩:=h
 cases rx
 cases ry
 obtain⟨its,r1,p1,_⟩:=I.tuple ha
 obtain⟨its2,r2,p2,_⟩:=I.tuple hb
 refine HT.cat_tup p1 p2 (fun z=>hx (r1.nil_iff.mp z)) (fun z=>⟨.ref a,H,I,rfl,q1 (r2.nil_iff.mp z)⟩) (fun z=>?_) (by rw[<-r1.length,<-r2.length];exact hz)
 refine⟨.ref s.heap.objs.size,_,I.laid (t':=s.toks) (o:=.tup (xs++ys)) (fun b ob q=>Heap.get?_push_of_some _ q) (Nat.le_refl _) ?_,rfl,q2 (fun w=>z (r2.nil_iff.mpr w)) _ (I.hok.fresh (Nat.le_refl _))⟩
 exact⟨by rw[List.length_append];exact hz,_,r1.append r2,IsTup.new _ _⟩
end
end L2
namespace L2
open PySem PySem.Spec PyProof.Rows
noncomputable def ixN(n:Nat)(i:Int):Option Nat:=if 0<=i then (if i<n then some i.toNat else none) else if -(n:Int)<=i then some (i+n).toNat else none
noncomputable def atI{α:Type}(xs:List α)(i:Int):Option α:=(ixN xs.length i).bind fun j=>xs[j]?
theorem y9r{n:Nat}{i:Int}{j:Nat}(h:ixN n i=some j):seqIndex? i n=some j/\j<n /\ -(n:Int)<=i/\i<n:=by
 unfold ixN at h
 by_cases h0:0<=i
 ·rw[if_pos h0] at h
  by_cases h1:i<n
  ·rw[if_pos h1] at h
   have e:i.toNat=j:=Option.some.inj h
   exact⟨by rw[seqIndex_of h0 h1,e],by lia,by lia,h1⟩
  ·rw[if_neg h1] at h;cases h
 ·rw[if_neg h0] at h
  by_cases h1:-(n:Int)<=i
  ·rw[if_pos h1] at h
   have e:(i+n).toNat=j:=Option.some.inj h
   exact⟨by rw[seqIndex_neg (by lia) h1,e],by lia,h1,by lia⟩
  ·rw[if_neg h1] at h;cases h
theorem x0r{α:Type}{xs:List α}{i:Int}{v:α}(h:atI xs i=some v):∃j,seqIndex? i xs.length=some j/\xs[j]? = some v/\j<xs.length /\ -(xs.length:Int)<=i/\i<xs.length:=by
 unfold atI at h
 cases e:ixN xs.length i with
 | none=>rw[e] at h;cases h
 | some j =>
   rw[e] at h
   obtain⟨h1,h2,h3,h4⟩:=y9r e
   exact⟨j,h1,h,h2,h3,h4⟩
noncomputable def y2o(b:Expr):Prop:=∀o i,subscripted b false o i=operate [o,i] (getItem o i)
noncomputable def IxR(X:Cx)(r:R2):Prop :=
 ∀(value slice:Expr) (pins:List (Addr×Obj)) (s:Shared) (σ:St) (H:Hp) (x y:V) (v u:Value) (Q:VK),Inv X pins σ H s->RelV x v->RelV y u->r x y H Q ->
  subscripted slice false v u=operate [v,u] (getItem v u)->wpAny (model X.prog X.w) X.A (subscriptTail value slice v u) (EP X pins σ Q) X.xe s
noncomputable def MtR(X:Cx)(id:String)(r:V->List V->Hp->VK->Prop):Prop :=
 ∀(pins:List (Addr×Obj)) (s:Shared) (σ:St) (H:Hp) (x:V) (xs:List V) (v:Value) (us:List Value) (Q:VK),Inv X pins σ H s->RelV x v->Vals xs us->r x xs H Q ->
  wpAny (model X.prog X.w) X.A (call (.builtin id) (v::us)) (EP X pins σ Q) X.xe s
section
variable {X:Cx}{a b:Expr}{ta tb:TE}{pos:Pos}
theorem IxR.or{r r':R2}(h:IxR X r)(h':IxR X r'):IxR X (fun x y H Q=>r x y H Q∨r' x y H Q):=by
 intro value slice pins s σ H x y v u Q I rx ry q hs
 rcases q with q | q
 ·exact h value slice pins s σ H x y v u Q I rx ry q hs
 ·exact h' value slice pins s σ H x y v u Q I rx ry q hs
theorem MtR.or{id:String}{r r':V->List V->Hp->VK->Prop}(h:MtR X id r)(h':MtR X id r'):MtR X id (fun x xs H Q=>r x xs H Q∨r' x xs H Q):=by
 intro pins s σ H x xs v us Q I rx rs q
 rcases q with q | q
 ·exact h pins s σ H x xs v us Q I rx rs q
 ·exact h' pins s σ H x xs v us Q I rx rs q
theorem x6l{r:R2}(hr:IxR X r)(ha:PE X a ta)(hb:PE X b tb)(hs:y2o b):PE X (.Subscript a b pos) (tOp r ta tb):=by
 intro pins s σ H Q I h
 exact Subscript_ (binT ha hb I h fun v u s2 x y H2 I2 rx ry q=>hr a b pins s2 σ H2 x y v u Q I2 rx ry q (hs _ _))
noncomputable def rIxL(K:PySem.W.Frag):R2:=fun x y H Q=>∃p xs i v,x = .ref p/\y = .int i/\SqL K H p xs/\atI xs i=some v/\Q v H
noncomputable def rIxT(K:PySem.W.Frag):R2:=fun x y H Q=>∃p xs i v,x = .ref p/\y = .int i/\SqT K H p xs/\atI xs i=some v/\Q v H
theorem y4x:IxR X (rIxL X.K):=by
 intro value slice pins s σ H x y v u Q I rx ry h hs
 obtain⟨p,xs,i,z,rfl,rfl,hq,he,q⟩:=h
 cases rx
 obtain⟨t,rfl⟩:=ry
 obtain⟨its,r,pl,hz⟩:=I.list hq
 obtain⟨j,h1,h2,h3,h4,h5⟩:=x0r he
 obtain⟨w,ew,rw'⟩:=r.get h2
 have hl:=r.length
 have hn:=y5x
 have fin:EP X pins σ Q w s:=⟨z,H,I,rw',q⟩
 by_cases h0:0<=i
 ·have hj:i.toNat=j:=by
   rw[seqIndex_of h0 h5] at h1
   exact Option.some.inj h1
  exact item_listR pl.isList h0 (by lia) (by rw[hj];simpa using ew) fin hs
 ·have hj:(i+(its.toArray.size:Int)).toNat=j:=by
   rw[seqIndex_neg (by lia) h4] at h1
   rw[List.size_toArray,<-hl]
   exact Option.some.inj h1
  exact subscriptTail_builtinR (x:=w) pl.isList.typeIs slot_list_getitem.lookup
   (wpAny_getItem_list_neg (Q:=fun r s'=>r=w/\EP X pins σ Q r s') pl.isList (by lia) (by rw[List.size_toArray]<;>lia) (by lia) (by rw[hj];simpa using ew) ⟨rfl,fin⟩) hs
theorem x7k:IxR X (rIxT X.K):=by
 intro value slice pins s σ H x y v u Q I rx ry h hs
 obtain⟨p,xs,i,z,rfl,rfl,hq,he,q⟩:=h
 cases rx
 obtain⟨t,rfl⟩:=ry
 obtain⟨its,r,pl,hz⟩:=I.tuple hq
 obtain⟨j,h1,h2,h3,h4,h5⟩:=x0r he
 obtain⟨w,ew,rw'⟩:=r.get h2
 have hl:=r.length
 have hn:=y5x
 have fin:EP X pins σ Q w s:=⟨z,H,I,rw',q⟩
 exact subscriptTail_builtinR (x:=w) pl.typeIs slot_tuple_getitem.lookup
  (getItem_tuple (j:=j) (Q:=fun r s'=>r=w/\EP X pins σ Q r s') pl (by lia) (by lia) (by rw[List.size_toArray,<-hl];exact h1) (by simpa using ew) ⟨rfl,fin⟩) hs
theorem y7b(its:List Value)(n j:Nat)(u:Value):Obj.mapSeq (·.setIfInBounds j u) { cls:=.type "list",data:=.seq its.toArray n }={ cls:=.type "list",data:=.seq (its.set j u).toArray n }:=by
 simp[Obj.mapSeq]
theorem Inv.lst{pins:List (Addr×Obj)}{σ:St}{H:Hp}{s:Shared}{p:Addr}{xs:List V}(I:Inv X pins σ H s)(h:H p=some (.lst xs)) :
 ∃(its:List Value) (n:Nat),Vals xs its/\s.heap.get? p=some { cls:=.type "list",data:=.seq its.toArray n }/\xs.length<=sizeLine:=by
 obtain⟨z,its,n,r,e⟩:=I.hok p _ h
 exact⟨its,n,r,e,z⟩
theorem Inv.lstUpd{pins:List (Addr×Obj)}{σ:St}{H:Hp}{s:Shared}{p:Addr}{xs ys:List V}{its its':List Value}{n n':Nat}{f:Obj->Obj}(I:Inv X pins σ H s)(h:H p=some (.lst xs))
 (ho:s.heap.get? p=some { cls:=.type "list",data:=.seq its.toArray n }) (hf:f { cls:=.type "list",data:=.seq its.toArray n }={ cls:=.type "list",data:=.seq its'.toArray n' }) (r:Vals ys its') (hz:ys.length<=sizeLine) (t:Nat) :
 Inv X pins σ (upd H p (.lst ys)) { s with heap:=s.heap.update p f,toks:=t }:=by
 have e:(s.heap.update p f).get? p=some { cls:=.type "list",data:=.seq its'.toArray n' }:=by
  rw[Heap.get?_update_self f ho (by rw[hf]<;>rfl),hf]
 refine I.write (x:=p) (e:=p) (by rw[h];trivial) (.inl rfl) (fun b u hb q=>(Heap.get?_update_other _ _ (Ne.symm hb)).trans q) ⟨_,e⟩ ?_
 exact⟨hz,its',n',r,e⟩
noncomputable def x7t:V->V->V->Hp->(Hp->Prop)->Prop:=fun o i v H Q=>∃p xs k j,o = .ref p/\i = .int k/\H p=some (.lst xs)/\ixN xs.length k=some j/\Q (upd H p (.lst (xs.set j v)))
theorem x1b:PSet X x7t:=by
 intro pins s σ H o i v ov iv u Q I ro ri rv h
 obtain⟨p,xs,k,j,rfl,rfl,hp,hj,q⟩:=h
 cases ro
 obtain⟨t,rfl⟩:=ri
 obtain⟨its,n,r,ho,hz⟩:=I.lst hp
 obtain⟨h1,h2,h3,h4⟩:=y9r hj
 have hl:=r.length
 have hn:=y5x
 have I':Inv X pins σ (upd H p (.lst (xs.set j v))) { s with heap:=s.heap.update p (Obj.mapSeq (·.setIfInBounds j u)) } :=
  I.lstUpd hp ho (y7b its n j u) (r.set rv j) (by rw[List.length_set];exact hz) s.toks
 by_cases h0:0<=k
 ·have hk:k.toNat=j:=by
   rw[seqIndex_of h0 h4] at h1
   exact Option.some.inj h1
  exact PySem.W.ki_setAt ho h0 (by lia) (by rw[List.size_toArray,<-hl];exact h4) (by rw[hk];exact⟨_,I',q⟩)
 ·have hk:(k+(its.toArray.size:Int)).toNat=j:=by
   rw[seqIndex_neg (by lia) h3] at h1
   rw[List.size_toArray,<-hl]
   exact Option.some.inj h1
  exact PySem.W.ki_setBack ho (by lia) (by rw[List.size_toArray,<-hl];exact h3) (by lia) (by rw[hk];exact⟨_,I',q⟩)
theorem y2s(lo hi:Option Int)(n:Nat):(sliceBounds lo hi none n).1=((HT.sIx n 0 lo:Nat):Int)/\(sliceBounds lo hi none n).2.1=((HT.sIx n n hi:Nat):Int)/\(sliceBounds lo hi none n).2.2=1:=by
 refine⟨?_,?_,rfl⟩
 ·cases lo with
  | none=>simp[sliceBounds,HT.sIx]
  | some i =>
    simp only[sliceBounds,HT.sIx,Option.getD_none,show(1:Int)>0 by decide,if_true]
    by_cases h:i<0
    ·simp only[h,if_true]<;>lia
    ·simp only[h,if_false]<;>lia
 ·cases hi with
  | none=>simp[sliceBounds,HT.sIx]
  | some i =>
    simp only[sliceBounds,HT.sIx,Option.getD_none,show(1:Int)>0 by decide,if_true]
    by_cases h:i<0
    ·simp only[h,if_true]<;>lia
    ·simp only[h,if_false]<;>lia
theorem y1v(its:List Value)(lo hi:Option Int):slicePick its.toArray lo hi none=((its.drop (HT.sIx its.length 0 lo)).take (HT.sIx its.length its.length hi-HT.sIx its.length 0 lo)).toArray:=by
 obtain⟨h1,h2,h3⟩:=y2s lo hi its.toArray.size
 unfold slicePick
 rw[h1,h2,h3]
 simp only[sliceRange_one,pick_run,List.size_toArray]<;>rfl
noncomputable def rSlL(K:PySem.W.Frag):V->Option Int->Option Int->Hp->VK->Prop:=fun x lo hi H Q=>∃a xs,x = .ref a/\SqL K H a xs/\∀p,H p=none->Q (.ref p) (upd H p (.lst (cutV xs lo hi)))
theorem x3l:SlR X (rSlL X.K):=by
 intro pins s σ H x v vl vu lo hi sl Q I rx hs pl pu h
 obtain⟨a,xs,rfl,hx,q⟩:=h
 cases rx
 obtain⟨its,r,ht,hz⟩:=I.list hx
 have hlen:=r.length
 refine⟨"list",_,slot_list_getitem.lookup,ht.isList.typeIs,?_⟩
 refine wpAny_getItem_list_slice ht.isList hs pl pu .none (by simp) ?_ (by rw[List.size_toArray]<;>lia)
 rw[y1v,<-hlen]
 refine⟨.ref s.heap.objs.size,_,I.laid (t':=s.toks) (o:=.lst (cutV xs lo hi)) (fun b ob q=>Heap.get?_push_of_some _ q) (Nat.le_refl _) ?_,rfl,q _ (I.hok.fresh (Nat.le_refl _))⟩
 exact⟨Nat.le_trans (y0p xs lo hi) hz,_,0,(r.drop (HT.sIx xs.length 0 lo)).take (HT.sIx xs.length xs.length hi-HT.sIx xs.length 0 lo),Heap.get?_push_size _ rfl⟩
theorem y3v:z9c X (.builtin "len") (fun xs H Q=>∃p ys,xs=[.ref p]/\(SqL X.K H p ys∨SqT X.K H p ys)/\Q (.int ys.length) H):=by
 intro pins s σ H xs us Q I r h
 obtain⟨p,ys,rfl,hq,q⟩:=h
 obtain⟨u,rfl,rx⟩:=y2p r
 cases rx
 have hn:=y5x
 rcases hq with hq | hq
 ·obtain⟨its,r',pl,hz⟩:=I.list hq
  have hlen:=r'.length
  exact Calls.call_len_list pl.isList (by simp only[List.size_toArray]<;>lia) ⟨.int ys.length,H,I.tok _,⟨s.toks+1,by rw[List.size_toArray,hlen]⟩,q⟩
 ·obtain⟨its,r',pl,hz⟩:=I.tuple hq
  have hlen:=r'.length
  exact len_tuple pl (by simp only[List.size_toArray]<;>lia) ⟨.int ys.length,H,I.tok _,⟨s.toks+1,by rw[List.size_toArray,hlen]⟩,q⟩
theorem z9c.or{f:Value}{r r':List V->Hp->VK->Prop}(h:z9c X f r)(h':z9c X f r'):z9c X f (fun xs H Q=>r xs H Q∨r' xs H Q):=by
 intro pins s σ H xs us Q I rs q
 rcases q with q | q
 ·exact h pins s σ H xs us Q I rs q
 ·exact h' pins s σ H xs us Q I rs q
theorem y3u:z9c X (.type "list") (fun xs H Q=>∃p ys,xs=[.ref p]/\(SqL X.K H p ys∨SqT X.K H p ys)/\∀l,H l=none->Q (.ref l) (upd H l (.lst ys))):=by
 intro pins s σ H xs us Q I r h
 obtain⟨p,ys,rfl,hq,q⟩:=h
 obtain⟨u,rfl,rx⟩:=y2p r
 cases rx
 have fin:∀(its:List Value),Vals ys its->ys.length<=sizeLine->∀(h':Heap) (c':Nat),(∀b o',s.heap.get? b=some o'->h'.get? b=some o') ->
  h'.get? s.heap.objs.size=some { cls:=.type "list",dict:=none,data:=.seq its.toArray c',slots:=#[] }->EP X pins σ Q (.ref s.heap.objs.size) { s with heap:=h' }:=fun its r' hz h' c' kp e =>
  ⟨.ref s.heap.objs.size,_,I.laid (t':=s.toks) kp (Nat.le_refl _) (show z6z X.prog X.w _ h' _ (.lst ys) from⟨hz,its,c',r',e⟩),rfl,q _ (I.hok.fresh (Nat.le_refl _))⟩
 rcases hq with hq | hq
 ·obtain⟨its,r',pl,hz⟩:=I.list hq
  have hlen:=r'.length
  obtain⟨o,ho,hc,n,hd⟩:=pl.isList
  exact call_list_seq p (.inl rfl) ho hc hd (fun h' c' kp e=>fin its r' hz h' c' kp e) (by simp only[List.size_toArray]<;>lia)
 ·obtain⟨its,r',pl,hz⟩:=I.tuple hq
  have hlen:=r'.length
  obtain⟨o,ho,hc,n,hd⟩:=pl
  exact call_list_seq p (.inr rfl) ho hc hd (fun h' c' kp e=>fin its r' hz h' c' kp e) (by simp only[List.size_toArray]<;>lia)
theorem y2m:z9c X (.type "tuple") (fun xs H Q=>∃p ys,xs=[.ref p]/\((SqL X.K H p ys/\∀l,H l=none->Q (.ref l) (upd H l (.tup ys)))∨(SqT X.K H p ys/\Q (.ref p) H))):=by
 intro pins s σ H xs us Q I r h
 obtain⟨p,ys,rfl,h⟩:=h
 obtain⟨u,rfl,rx⟩:=y2p r
 cases rx
 rcases h with ⟨hq,q⟩ | ⟨hq,q⟩
 ·obtain⟨its,r',pl,hz⟩:=I.list hq
  have hlen:=r'.length
  refine call_tuple_list pl.isList (fun h' kp=>?_) (by simp only[List.size_toArray]<;>lia)
  have I1:Inv X pins σ H { s with heap:=h' }:=I.kept (t':=s.toks) kp
  have I2:Inv X pins σ (upd H h'.objs.size (.tup ys)) { s with heap:=h'.push { cls:=.type "tuple",data:=.seq its.toArray } } :=
   I1.laid (t':=s.toks) (fun b o e=>Heap.get?_push_of_some _ e) (Nat.le_refl _) (show z6z X.prog X.w _ _ _ (.tup ys) from⟨hz,its,r',IsTup.new _ _⟩)
  exact⟨.ref h'.objs.size,_,I2,rfl,q _ (I1.hok.fresh (Nat.le_refl _))⟩
 ·obtain⟨its,r',pl,hz⟩:=I.tuple hq
  exact call_tuple_same pl ⟨.ref p,H,I,rfl,q⟩
noncomputable def tyV(K:PySem.W.Frag)(T:String)(x:V)(H:Hp):Prop:=match x with
 | .str _=>T="str"
 | .int _=>T="int"
 | .ref p=>(T="list"/\∃xs,SqL K H p xs)∨(T="tuple"/\∃o,K.lookup p=some o/\o.cls = .type "tuple"/\o.dict=none) ∨
    (T="dict"/\((∃kvs,H p=some (.dK kvs))∨∃kvs,H p=some (.dT kvs)))∨(T="set"/\∃S n,H p=some (.set S n))
 | _=>False
theorem z9k{pins:List (Addr×Obj)}{σ:St}{H:Hp}{s:Shared}{T:String}{x:V}{v:Value}(I:Inv X pins σ H s)(r:RelV x v)(ty:tyV X.K T x H) :
 s.TypeIs v T/\∀a,v = .ref a->∃ob,s.heap.get? a=some ob/\ob.dict=none:=by
 cases x with
 | str z =>
   obtain⟨t,rfl⟩:=r
   cases (show T="str" from ty)
   exact⟨typeIs_str s z t,fun _ e=>nomatch e⟩
 | int i =>
   obtain⟨t,rfl⟩:=r
   cases (show T="int" from ty)
   exact⟨typeIs_int s i t,fun _ e=>nomatch e⟩
 | ref p =>
   cases r
   rcases ty with ⟨rfl,xs,hq⟩ | ⟨rfl,o,hk,hc,hd⟩ | ⟨rfl,hk⟩ | ⟨rfl,S,n,hk⟩
   ·obtain⟨its,_,pl,_⟩:=I.list hq
    refine⟨pl.isList.typeIs,fun a e=>?_⟩
    cases e
    obtain⟨o,n,e,c,hd,_⟩:=pl
    exact⟨o,e,hd⟩
   ·refine⟨⟨o,I.kIn p o hk,hc⟩,fun a e=>?_⟩
    cases e
    exact⟨o,I.kIn _ o hk,hd⟩
   ·have z:∃o,s.heap.get? p=some o/\o.ExactDict:=by
     rcases hk with ⟨kvs,hk⟩ | ⟨kvs,hk⟩
     ·obtain⟨_,_,_,_,o,_,_,e,ex,_⟩:=I.hok p _ hk
      exact⟨o,e,ex⟩
     ·obtain⟨_,_,_,_,o,_,_,e,ex,_⟩:=I.hok p _ hk
      exact⟨o,e,ex⟩
    obtain⟨o,e,ex⟩:=z
    refine⟨⟨o,e,ex.1⟩,fun a e2=>?_⟩
    cases e2
    exact⟨o,e,ex.2.1⟩
   ·obtain⟨o,_,_,_,e,ex,_⟩:=I.hok p _ hk
    refine⟨⟨o,e,ex.1⟩,fun a e2=>?_⟩
    cases e2
    exact⟨o,e,ex.2.1⟩
 | _=>exact False.elim ty
variable {o e:Expr}{es:List Expr}{to:TE}{t:TA}{name:Str}{apos cpos:Pos}{T id:String}{r:V->List V->Hp->VK->Prop}
end
end L2
namespace L2
open PySem PySem.Spec PyProof.Rows
noncomputable def MtM(X:Cx)(id:String)(r:V->List V->Hp->VK->Prop):Prop :=
 ∀(pins:List (Addr×Obj)) (s:Shared) (σ:St) (H:Hp) (x:V) (xs:List V) (v:Value) (us:List Value) (Q:VK),Inv X pins σ H s->RelV x v->Vals xs us->r x xs H Q ->
  wpAny (model X.prog X.w) X.A (call (.builtin id) (v::us)) (EP X pins σ Q) X.xe s
theorem Vals.one:∀{x:V} {us:List Value},Vals [x] us->∃u,us=[u]/\RelV x u
 | _,_,.cons r .nil=>⟨_,rfl,r⟩
theorem Vals.zero:∀{us:List Value},Vals [] us->us=[]
 | _,.nil=>rfl
theorem Vals.dropLast{xs:List V}{us:List Value}(h:Vals xs us):Vals xs.dropLast us.dropLast:=by
 induction h with
 | nil=>exact .nil
 | cons r t ih =>
   cases t with
   | nil=>exact .nil
   | cons q t'=>exact .cons r ih
theorem Vals.eraseIdx:∀{xs:List V} {us:List Value} (i:Nat),Vals xs us->Vals (xs.eraseIdx i) (us.eraseIdx i)
 | _,_,_,.nil=>.nil
 | _,_,0,.cons _ t=>t
 | _,_,i+1,.cons r t=>.cons r (Vals.eraseIdx i t)
theorem Vals.reverse{xs:List V}{us:List Value}(h:Vals xs us):Vals xs.reverse us.reverse:=by
 induction h with
 | nil=>exact .nil
 | cons r t ih=>rw[List.reverse_cons,List.reverse_cons];exact Vals.append ih (.cons r .nil)
theorem Vals.rep{xs:List V}{us:List Value}(h:Vals xs us):∀k:Nat,Vals (List.replicate k xs).flatten (List.replicate k us).flatten
 | 0=>.nil
 | k+1=>by
   rw[List.replicate_succ,List.replicate_succ,List.flatten_cons,List.flatten_cons]
   exact Vals.append h (Vals.rep h k)
theorem y7n{α:Type}(l:List α):l.eraseIdx (l.length-1)=l.dropLast:=by
 induction l with
 | nil=>rfl
 | cons a r ih =>
   cases r with
   | nil=>rfl
   | cons b r =>
     have e:(a::b::r).length-1=((b::r).length-1)+1:=by
      have h1:(a::b::r).length=r.length+2:=rfl
      have h2:(b::r).length=r.length+1:=rfl
      lia
     rw[e,List.eraseIdx_cons_succ,ih]
     all_goals rfl
theorem y0m(its:List Value):∀(k:Nat) (acc:List Value),
 List.foldl (fun x1 x2=>x1++x2) acc.toArray (List.replicate k its.toArray)=(acc++(List.replicate k its).flatten).toArray
 | 0,acc=>by simp
 | k+1,acc=>by
   have e:acc.toArray++its.toArray=(acc++its).toArray:=by simp
   have e2:(acc++its)++(List.replicate k its).flatten=acc++(List.replicate (k+1) its).flatten:=by
    rw[List.replicate_succ,List.flatten_cons,List.append_assoc]
   rw[<-e2,<-y0m its k (acc++its),<-e,List.replicate_succ,List.foldl_cons]
section
variable {X:Cx}{pins:List (Addr×Obj)}{σ:St}{H:Hp}{s:Shared}{l b:Addr}{xs ys zs:List V}
theorem Inv.lset{its its':List Value}{n:Nat}{f:Array Value->Array Value}{t':Nat}(I:Inv X pins σ H s)(hH:H l=some (.lst xs))
 (e:s.heap.get? l=some { cls:=.type "list",data:=.seq its.toArray n }) (hf:f its.toArray=its'.toArray) (hv:Vals ys its') (hz:ys.length<=sizeLine) :
 Inv X pins σ (upd H l (.lst ys)) { s with heap:=s.heap.update l (Obj.mapSeq f),toks:=t' }:=by
 have q:=PySem.IsL.update e f
 rw[hf] at q
 refine I.write (x:=l) (e:=l) (by rw[hH];exact trivial) (.inl rfl) (fun b' u hb hu=>(Heap.get?_update_other s.heap (Obj.mapSeq f) (Ne.symm hb)).trans hu) ⟨_,q⟩ ?_
 exact⟨hz,its',_,hv,q⟩
theorem Inv.lnew{its:List Value}{t':Nat}(I:Inv X pins σ H s)(hv:Vals ys its)(hz:ys.length<=sizeLine) :
 Inv X pins σ (upd H s.heap.objs.size (.lst ys)) { s with heap:=s.heap.push { cls:=.type "list",data:=.seq its.toArray },toks:=t' } :=
 I.laid (fun _ _ q=>Heap.get?_push_of_some _ q) (Nat.le_refl _) ⟨hz,its,0,hv,Heap.get?_push_size _ rfl⟩
theorem Inv.fresh(I:Inv X pins σ H s):H s.heap.objs.size=none:=I.hok.fresh (Nat.le_refl _)
theorem Inv.lstM(I:Inv X pins σ H s)(hH:H l=some (.lst xs)):xs.length<=sizeLine/\∃(its:List Value) (n:Nat),Vals xs its/\xs.length=its.length/\s.heap.get? l=some { cls:=.type "list",data:=.seq its.toArray n }:=by
 obtain⟨z,its,n,r,e⟩:=I.hok l _ hH
 exact⟨z,its,n,r,r.length,e⟩
theorem x1o{n:Nat}(h:n<=sizeLine):Builtin.List.listTooLong n=false:=by
 unfold Builtin.List.listTooLong
 exact decide_eq_false (by lia)
end
section
variable {X:Cx}
noncomputable def x3p:V->List V->Hp->VK->Prop:=fun x vs H Q=>∃l xs y,x = .ref l/\vs=[y]/\H l=some (.lst xs)/\xs.length<sizeLine/\Q .non (upd H l (.lst (xs++[y])))
theorem z6l:MtM X "list.append" x3p:=by
 intro pins s σ H x vs v us Q I rx rv h
 obtain⟨l,xs,y,rfl,rfl,hH,hz,q⟩:=h
 cases rx
 obtain⟨u,rfl,ru⟩:=rv.one
 obtain⟨z,its,n,r,hl,e⟩:=I.lstM hH
 refine call_meets F.slot_list_append ⟨_,e,rfl⟩ F.entry_list_append (F.args_list_append_2 _ _) (PySem.list_append l its.toArray n u (by rw[List.size_toArray];lia)) ⟨e,?_⟩
 refine⟨.non,_,I.lset (its':=its++[u]) hH e (by simp) (r.append (.cons ru .nil)) ?_,rfl,q⟩
 rw[List.length_append,List.length_singleton]
 lia
noncomputable def rPop:V->List V->Hp->VK->Prop:=fun x vs H Q=>∃l xs y,x = .ref l/\vs=[]/\H l=some (.lst xs)/\xs[xs.length-1]? = some y/\Q y (upd H l (.lst xs.dropLast))
theorem x2y:MtM X "list.pop" rPop:=by
 intro pins s σ H x vs v us Q I rx rv h
 obtain⟨l,xs,y,rfl,rfl,hH,hy,q⟩:=h
 cases rx
 have hus:=rv.zero
 subst hus
 obtain⟨z,its,n,r,hl,e⟩:=I.lstM hH
 obtain⟨u,hu,ru⟩:=r.get hy
 have hy':its.toArray[its.toArray.size-1]? = some u:=by
  show its.toArray[its.length-1]? = some u
  rw[<-Array.getElem?_toList,<-hl]
  exact hu
 refine call_meets F.slot_list_pop ⟨_,e,rfl⟩ F.entry_list_pop (F.args_list_pop_1 _) (MeetsSeq.list_pop_last l its.toArray n u hy' (by rw[List.size_toArray];lia)) ⟨e,?_⟩
 refine⟨y,_,I.lset (its':=its.dropLast) hH e ?_ r.dropLast ?_,ru,q⟩
 ·show its.toArray.eraseIdxIfInBounds (its.toArray.size-1)=its.dropLast.toArray
  rw[List.size_toArray,List.eraseIdxIfInBounds_toArray,y7n]
 ·rw[List.length_dropLast]
  lia
noncomputable def rCat:R2:=fun x y H Q=>∃l b xs zs,x = .ref l/\y = .ref b/\H l=some (.lst xs)/\H b=some (.lst zs)/\xs.length+zs.length<=sizeLine/\∀p,H p=none->Q (.ref p) (upd H p (.lst (xs++zs)))
theorem x6u:OpR X (binaryOp .Add) rCat:=by
 intro pins s σ H x y v u Q I rx ry h
 obtain⟨l,b,xs,zs,rfl,rfl,hH,hB,hz,q⟩:=h
 cases rx
 cases ry
 obtain⟨z,its,n,r,hl,e⟩:=I.lstM hH
 obtain⟨z2,its2,n2,r2,hl2,e2⟩:=I.lstM hB
 refine PySem.P.add_list e e2 ?_ (by rw[List.size_toArray,List.size_toArray];lia)
 have ea:its.toArray++its2.toArray=(its++its2).toArray:=by simp
 rw[ea]
 exact⟨.ref _,_,I.lnew (t':=s.toks) (r.append r2) (by rw[List.length_append];lia),rfl,q _ I.fresh⟩
noncomputable def rRep:R2:=fun x y H Q=>∃l k xs,x = .ref l/\y = .int k/\H l=some (.lst xs) /\ -(2^63)<=k/\k<2^63/\xs.length*k.toNat<=sizeLine /\
 ∀p,H p=none->Q (.ref p) (upd H p (.lst (List.replicate k.toNat xs).flatten))
theorem y4v{α:Type}(xs:List α)(k:Nat):(List.replicate k xs).flatten.length=k*xs.length:=by
 induction k with
 | zero=>simp
 | succ k ih=>rw[List.replicate_succ,List.flatten_cons,List.length_append,ih,Nat.succ_mul,Nat.add_comm]
theorem x6q:OpR X (binaryOp .Mult) rRep:=by
 intro pins s σ H x y v u Q I rx ry h
 obtain⟨l,k,xs,rfl,rfl,hH,h1,h2,hz,q⟩:=h
 cases rx
 obtain⟨t,rfl⟩:=ry
 obtain⟨z,its,n,r,hl,e⟩:=I.lstM hH
 have hlen:its.toArray.size*k.toNat<=sizeLine:=by rw[List.size_toArray,<-hl];exact hz
 have hcap:¬its.toArray.size*k.toNat>(2^63-1)/8:=by
  have:(sizeLine:Nat)<=(2^63-1)/8:=by decide
  lia
 have hfit:¬(!Builtin.List.listFitsIndex k)=true:=by
  rw[fitsIndex_both h1 h2]
  exact Bool.false_ne_true
 have hlong:¬Builtin.List.listTooLong (its.toArray.size*k.toNat)=true:=by
  rw[x1o hlen]
  exact Bool.false_ne_true
 have hnew:List.foldl (fun x1 x2=>x1++x2) #[] (List.replicate (if its.toArray.isEmpty=true then 0 else k.toNat) its.toArray)=(List.replicate k.toNat its).flatten.toArray:=by
  have f0:∀m:Nat,List.foldl (fun x1 x2=>x1++x2) #[] (List.replicate m its.toArray)=(List.replicate m its).flatten.toArray:=fun m=>by
   have:=y0m its m []
   rw[List.nil_append] at this
   exact this
  rw[f0]
  cases its with
  | nil=>simp
  | cons a r'=>rw[if_neg (by simp)]
 refine wpAny_binaryOp_repeat_ref (T:="list") (U:="int") (by decide) ⟨_,e,rfl⟩ (fun s'=>typeIs_int s' k t) noFill_list_mul F.fills_int_mul F.slot_int_rmul repeat_list F.slot_int_index.lookup
  (call_meets F.slot_int_rmul (typeIs_int s k t) F.entry_int_rmul (F.args_int_rmul_2 _ _) (int___rmul___int_list k t l its.toArray n)
    ⟨e,rfl,⟨_,e,rfl⟩,call_meets F.slot_list_mul ⟨_,e,rfl⟩ F.entry_list_mul (F.args_list_mul_2 _ _) (AutoListH.list___mul___list_int_3 l its.toArray n k t hfit hcap hlong) ⟨e,?_⟩⟩)
 rw[hnew]
 exact⟨.ref _,_,I.lnew (t':=s.toks) (r.rep k.toNat) (by rw[y4v,Nat.mul_comm];exact hz),rfl,q _ I.fresh⟩
end
section
variable {prog:Program}{w:World}{A:Around}{E:Value->Shared->Prop}{s:Shared}
end
section
variable {X:Cx}
end
end L2
namespace Att
open PySem PySem.W PySem.Calls PyProof.Rows
theorem y0i{P:Params}{h:Heap}:∀(ns:List Int) (vs:List Value),WellAll P h vs (ns.map WData.int)->IntsAre vs ns:=by
 intro ns
 induction ns with
 | nil =>
   intro vs w
   rw[List.map_nil] at w
   cases w
   exact .nil
 | cons n ns ih =>
   intro vs w
   rw[List.map_cons] at w
   cases w with
   | cons a b =>
     cases a
     exact .cons _ _ (ih _ b)
theorem y8l{l:OpenLaw}{n:Nat}(hn:l.most=some n){P:Params}{h:Heap}{args:List WData}{vals:List Value}
 (hpre:l.row.toRowW.claim.pre args=true) (hwl:WellAll P h vals args) :
 ∃a vs ns,vals=[Value.ref a]/\args=[WData.list (ns.map WData.int)]/\h.get? a=some { cls:=.type "list",data:=.seq vs.toArray }/\IntsAre vs ns/\ns.length<=n:=by
 have hsh:WShape.hasAll [] args [.list .int]=true:=(pre_splitW hpre).1
 have hc:l.pre.holds [] { args:=args }=true:=(pre_splitW hpre).2
 obtain⟨d,r,rfl,h1,h2⟩:=hasAllW_cons hsh
 obtain rfl:=hasAllW_nil h2
 obtain⟨xs,rfl,h3⟩:=hasW_list h1
 obtain⟨ns,rfl⟩:=items_int h3
 have hlen:ns.length<=n:=by
  unfold OpenLaw.pre at hc
  have h4:(WTm.not (.lt (.lit (.int (n:Int))) (.len (.arg 0)))).holds [] { args:=[.list (ns.map .int)] }=true:=by
   have h4:=(holds_andW hc).1
   rw[hn] at h4
   exact h4
  have h5:=condW_of h4 (w_not (w_lt w_lit (w_len_list (w_arg rfl))))
  rw[List.length_map] at h5
  refine Nat.le_of_not_lt fun q=>?_
  have q':(n:Int)<((ns.length:Nat):Int):=by lia
  first
   | (rw[decide_eq_true q'] at h5;exact absurd h5 (by decide))
   | (simp at h5;lia)
 cases hwl with
 | cons w1 w2 =>
   cases w2
   cases w1 with
   | list ho hall=>exact⟨_,_,ns,rfl,rfl,ho,y0i ns _ hall,hlen⟩
theorem y8s(l:OpenLaw)(args:List WData):l.row.toRowW.claim.post args (.bool true) args=true :=
 postW_of (r:=l.row.toRowW) (X:=(true==true))
  (show WShape.has [] (.bool true) .bool=true by first | rfl | decide | simp[WShape.has,WShape.arms,WShape.armsAll])
  (show(WTm.eq .res (.lit (.bool true))).value [] { args:=args,res:=some (.bool true),after:=args }=some (.bool (true==true)) from w_eq_bool (w_res rfl) w_lit) rfl
theorem attach_call{l:OpenLaw}{n:Nat}{q:Program}{loose:List Str}{XP:(Str->Option Value)->Heap->Prop}{YP:World->Heap->Prop}{d:DefRec}
 (hn:l.most=some n) (hdf:d.params.defaults=[])
 (call:∀(w:World) (s₀ s₁:Shared) (mg mb:Str->Option Value) (fa:Addr) (o:Obj) (pm cd doc:Value) (a:Addr) (vs:List Value) (ns:List Int),
   Ground q loose [] XP w s₀ mg mb s₁.heap->YP w s₁.heap ->
   s₁.heap.get? fa=some o->o.data = .func (docDef d.name d.params d.body d.scope pm cd doc)->s₁.heap.CodeRec cd d.name->mg d.name=some (.ref fa) ->
   s₁.heap.get? a=some { cls:=.type "list",data:=.seq vs.toArray }->IntsAre vs ns->ns.length<=n->s₁.gens=#[] ->
   codeAny (model l.prog w) callerA (.call (.ref fa) ⟨[.ref a],[]⟩) (fun r s'=>r = .ok (.ret (.bool true))/\OldK s₁.heap s'.heap/\s'.os=s₁.os/\AllBare s'.gens) s₁) :
 WalkO q loose XP YP l.row.toRowW d [] (fun f vs=>PySem.call f vs):=by
 intro w s₀ s₁ mg mb G Y fa o pm cd doc dV kV ho hd hcd hD hmg hg args vals as hpre hlay hrd hwl hlo
 obtain rfl:dV = .none:=Dflts.none hD hdf
 obtain rfl:kV = .none:=Dflts.noKw hD
 obtain⟨a,vs,ns,rfl,rfl,hobj,hints,hlen⟩:=y8l hn hpre hwl
 refine enter_call (codeAny_mono (call w s₀ s₁ mg mb fa o pm cd doc a vs ns G Y ho (fd_plain hd) hcd hmg hobj hints hlen hg) fun r s' hq=>?_)
 obtain⟨rfl,h2,h3,h4⟩:=hq
 exact⟨.inl ⟨.bool true,.bool true,[],rfl,fun _=>rfl,.bool true,y8s l _,fun _=>⟨List.Pairwise.nil,fun _ hm=>(nomatch hm)⟩⟩,h2,h3,h4⟩
section
variable {prog:Program}{w:World}{A:Around}{E:Value->Shared->Prop}{s:Shared}{K:Frag}
end
end Att
namespace L2
open PySem PySem.Spec PyProof.Rows
theorem vals_ints:∀{vs:List Value} {ns:List Int},IntsAre vs ns->Vals (ns.map V.int) vs
 | _,_,.nil=>.nil
 | _,_,.cons n t h=>.cons ⟨t,rfl⟩ (vals_ints h)
noncomputable def Only(H:Hp):Prop:=∀b,H b=none∨∃o xs,H b=some (.frz o (.lst xs))
theorem x1t{P:Program}{w:World}{K:PySem.W.Frag}{mg mb:Str->Option Value}{CX:CXT}{k:Nat}{fa a:Addr}{fd:FuncData}{x:Str}{sp:Sp}{s₁:Shared}{vs:List Value}{ns:List Int}
 (KX:K.In s₁.heap) (hns:s₁.heap.Ns mainGlobals mg) (hb:s₁.heap.Ns builtinsNs mb) (hbb:∀x:Str,x≠"__name__"->mb x=bootBuiltins x) (hlim:s₁.heap.NoLimit) (hg:s₁.gens=#[])
 (ha:s₁.heap.get? a=some { cls:=.type "list",data:=.seq vs.toArray }) (hi:IntsAre vs ns) (hl:ns.length<=sizeLine) (hr:Room k callerA)
 (F:∀base:Heap,K.In base->base.Ns mainGlobals mg->FnOk P w K mg base CX k fa fd [x] sp) (hbind:∀(s:Shared) (u:Value),BindsTo s fd ⟨[u],[]⟩ [(x,u)])
 (hsp:∀H:Hp,Only H->SqL K H a (ns.map V.int)->sp [.ref a] H (fun v _=>v = .bl true) fun _ _ _=>False)
 (hCX:∀H e s',CX [] H s₁ (fun _ _ _=>False) e s'->False) :
 codeAny (model P w) callerA (.call (.ref fa) ⟨[.ref a],[]⟩) (fun r s'=>r = .ok (.ret (.bool true))/\OldK s₁.heap s'.heap/\s'.os=s₁.os/\AllBare s'.gens) s₁:=by
 have rv:=vals_ints hi
 have lenV:=hi.length
 have core:∀H:Hp,Only H->SqL K H a (ns.map V.int)->HOk P w H s₁.heap->(∀b,H b≠none->b=a)->(H a≠none->K.lookup a=none) ->
  codeAny (model P w) callerA (.call (.ref fa) ⟨[.ref a],[]⟩) (fun r s'=>r = .ok (.ret (.bool true))/\OldK s₁.heap s'.heap/\s'.os=s₁.os/\AllBare s'.gens) s₁:=by
  intro H hO hS hok hA hK
  have base_of:∀{b:Addr} {o:Obj},s₁.heap.get? b=some o->H b=none->(hidT s₁.heap H).get? b=some o:=fun e n=>y2h e n
  have noA:∀{b:Addr} {o:Obj} {es:Array DictEntry} {ep:Nat},s₁.heap.get? b=some o->o.data = .dict es ep->H b=none:=fun {b o es ep} e d=>by
   cases q:H b with
   | none=>rfl
   | some u =>
     have e':b=a:=hA b (by rw[q];simp)
     subst e'
     rw[ha] at e;cases e
     have d':Data.seq vs.toArray _=Data.dict es ep:=d
     cases d'
  have nsK:∀{b:Addr} {m:Str->Option Value},s₁.heap.Ns b m->(hidT s₁.heap H).Ns b m:=fun {b m} ⟨o,es,ep,e,d,r⟩=>⟨o,es,ep,base_of e (noA e d),d,r⟩
  have hKb:K.In (hidT s₁.heap H):=fun b o e=>base_of (KX b o e) (by
   cases q:H b with
   | none=>rfl
   | some u =>
     have e':b=a:=hA b (by rw[q];simp)
     subst e'
     rw[hK (by rw[q];simp)] at e;cases e)
  have hM:Mod K mg (hidT s₁.heap H):=⟨hKb,nsK hns,⟨mb,nsK hb,hbb⟩,let ⟨mc,h1,h2⟩:=hlim;⟨mc,nsK h1,h2⟩⟩
  have e0:Env0 P w K mg (hidT s₁.heap H) callerA [] s₁ H:=⟨rfl,hM,fun b o e=>y4q e,Nat.le_of_eq (y9v _ _),trivial,fun b hb=>absurd (show b∈([]:List Addr) from hb) (by simp),hok,.of_eq hg⟩
  refine codeAny_mono ((F _ hKb (nsK hns)).run callerA [] s₁ H ⟨[.ref a],[]⟩ [.ref a] [.ref a] _ _ hr e0 (hbind s₁ (.ref a)) (.cons rfl .nil) (hsp H hO hS)) fun r s' h=>?_
  cases r with
  | error e=>exact(hCX H e s' h).elim
  | ok fl =>
    cases fl with
    | next=>exact False.elim h
    | brk=>exact False.elim h
    | cont=>exact False.elim h
    | ret u =>
      obtain⟨v,H',os,bare,un,hok',r',q⟩:=h
      have q':v = .bl true:=q
      subst q'
      obtain rfl:u=Value.bool true:=r'
      refine⟨rfl,OldK.of_keep fun b o e=>?_,os,bare⟩
      cases q:H b with
      | none=>exact un.keep b o e q (by intro z;exact absurd (show b∈([]:List Addr) from z) (by simp)) (by simp)
      | some u =>
        rcases hO b with z | ⟨ob,xs,z⟩
        ·rw[q] at z;cases z
        ·have z2:=un.frzs b ob _ z
         obtain⟨e1,_⟩:=hok b _ z
         obtain⟨e2,_⟩:=hok' b _ z2
         rw[e] at e1;cases e1
         exact e2
 cases hk:K.lookup a with
 | some o =>
   have e:=KX a o hk
   rw[ha] at e
   cases e
   refine core (fun _=>none) (fun _=>.inl rfl) (.inr ⟨_,vs.toArray,_,hk,rfl,rfl,rfl,by rw[List.size_toArray,lenV];exact hl,by simpa using rv⟩) (fun b u z=>by have z':(none:Option HO)=some u:=z;cases z') (fun b z=>absurd rfl z) fun z=>absurd rfl z
 | none =>
   refine core (fun b=>if b=a then some (.frz { cls:=.type "list",data:=.seq vs.toArray } (.lst (ns.map V.int))) else none) (fun b=>?_) (.inl (.inr ⟨{ cls:=.type "list",data:=.seq vs.toArray },if_pos rfl⟩)) (fun b u z=>?_) (fun b z=>?_) fun _=>hk
   ·by_cases hb:b=a
    ·exact .inr ⟨_,_,if_pos hb⟩
    ·exact .inl (if_neg hb)
   ·by_cases hb:b=a
    ·have z':=(if_pos hb).symm.trans z
     cases z'
     subst hb
     exact⟨ha,by rw[List.length_map];exact hl,vs,_,rv,ha⟩
    ·have z':=(if_neg hb).symm.trans z
     cases z'
   ·by_cases hb:b=a
    ·exact hb
    ·exact absurd (if_neg hb) z
end L2
namespace L2
open PySem PySem.Spec PyProof.Rows
noncomputable abbrev KOf {K:PySem.W.Frag} {h:Heap} (_:K.In h):PySem.W.Frag:=K
theorem walk_of{l:PySem.W.OpenLaw}{n k:Nat}{q:Program}{loose:List Str}{XP:(Str->Option Value)->Heap->Prop}{YP:World->Heap->Prop}{d:DefRec}{K:Params->PySem.W.Frag}{CX:World->CXT}{sp:World->Sp}{x:Str}
 (hn:l.most=some n) (hn2:n<=sizeLine) (hdf:d.params.defaults=[]) (hr:Room k callerA)
 (hY:∀(w:World) (h:Heap),YP w h->(K w.params).In h)
 (F:∀(w:World) (mg:Str->Option Value) (fa:Addr) (h:Heap),(K w.params).In h->h.Ns mainGlobals mg->mg d.name=some (.ref fa) ->
   ∃fd:FuncData,(∀(s:Shared) (u:Value),BindsTo s fd ⟨[u],[]⟩ [(x,u)]) /\
    ∀base:Heap,(K w.params).In base->base.Ns mainGlobals mg->FnOk l.prog w (K w.params) mg base (CX w) k fa fd [x] (sp w))
 (hsp:∀(w:World) (H:Hp) (a:Addr) (ns:List Int),ns.length<=n->Only H->SqL (K w.params) H a (ns.map V.int)->sp w [.ref a] H (fun v _=>v = .bl true) fun _ _ _=>False)
 (hCX:∀(w:World) (H:Hp) (s:Shared) (e:Value) (s':Shared),CX w [] H s (fun _ _ _=>False) e s'->False) :
 PySem.W.WalkO q loose XP YP l.row.toRowW d [] (fun f vs=>PySem.call f vs):=by
 refine Att.attach_call hn hdf fun w s₀ s₁ mg mb fa o pm cd doc a vs ns G Y ho hd hcd hmg hobj hints hlen hg=>?_
 have KX:=hY w _ Y
 obtain⟨fd,hb,hF⟩:=F w mg fa _ KX G.T.g hmg
 exact x1t KX G.T.g G.T.b G.T.builtins G.T.nolimit hg hobj hints (Nat.le_trans hlen hn2) hr hF hb (fun H hO hS=>hsp w H a ns hlen hO hS) fun H e s'=>hCX w H s₁ e s'
end L2
/- THE LAST THEOREM (shape;LID,My.* are yours):
   My.Adr: a structure of the addresses that your layer names (classes,functions);My.Txt K t: a structure (Prop) of the equations over K;
   My.txt_mk:{K} {implicit addresses ..} (e1:nsIn K mainGlobals "law"=some (some (.ref f))) (e2:K.lookup f=some ⟨oc,od,.func (fnOf "law" "law" params body scope dV kV doc pm an cdv ct),sl⟩) (e3:codeIn K cdv "law"=true) ..:∃t,My.Txt K t
set_option maxRecDepth 100000 in
set_option maxHeartbeats 0 in
theorem PySem.Challenge.cw_LID_holds : PySem.Challenge.rw_LID.Holds := by
 w_on;o_law;k_head;(case hw=>w_witness2)
 k_fill
 refine L2.walk_of (l:=PySem.Challenge.rw_LID) (n:=63) (k:=40) (x:="script") (CX:=fun w=>..) (sp:=fun _=>My.sp_law) rfl (by decide) rfl ⟨rfl,by decide,by decide⟩ (fun w h Y=>PySem.W.kIn_of Y) ?F ?S ?C
 case F =>
  intro w mg fa h KX G hmg
  have T:∃t,My.Txt (L2.KOf KX) t:=by
   dsimp only[L2.KOf]                          -- K must stand as «<heap const> w.params» for k_is
   refine' My.txt_mk ?e1 ?e2 ?e3 ..
   (case e1=>PySem.W.k_is)                    -- in the order: a name->its address->its object->its parts
   (case e2=>PySem.W.k_is)
   ..
  obtain⟨t,T⟩:=T
  have e0:=hmg.symm.trans (PySem.W.mg_of KX G T.law)
  cases e0                                       -- fa is the law's own address
  exact⟨_,fun s u=>.of_eq rfl,fun base kb nb=>My.law_fn T kb nb⟩     -- if «.of_eq rfl» comes too early: refine' ⟨_,?b,fun base kb nb=>My.law_fn T kb nb⟩;exact fun s u=>.of_eq rfl
 case S=>exact fun w H a ns hl hO hS=>..
 case C=>exact ..
(the tactic k_is has no namespace: write k_is) -/
namespace L2
open PySem PySem.Spec PyProof.Rows
noncomputable def z0n(s:Stmt):Arguments:=match s with
 | .FunctionDef _ a _ _ _ _ _ _ _ _=>a
 | _=>{ posonlyargs:=[],args:=[],vararg:=none,kwonlyargs:=[],kw_defaults:=[],kwarg:=none,defaults:=[] }
noncomputable def z0l(s:Stmt):List Stmt:=match s with
 | .FunctionDef _ _ b _ _ _ _ _ _ _=>b
 | _=>[]
noncomputable def z0d(s:Stmt):Scope:=match s with
 | .FunctionDef _ _ _ _ _ _ sc _ _ _=>sc
 | _=>{ kind:=.function,names:=[],isGenerator:=false,isCoroutine:=false }
noncomputable abbrev CX0:CXT:=fun _ _ _ _ _ _=>False
structure Fun (K:PySem.W.Frag) (x qual:Str) (st:Stmt) (f:Addr) (fd:FuncData):Prop where
 ex:∃(oc:Value) (od:Option Addr) (kV doc pm:Value) (an:Option Addr) (cdv ct:Value) (osl:Array (Option Value)),
  fd=PySem.W.fnOf x qual (z0n st) (z0l st) (z0d st) .none kV doc pm an cdv ct/\K.lookup f=some ⟨oc,od,.func fd,osl⟩/\PySem.W.codeIn K cdv qual=true
 kp:PySem.W.keepIn K (.ref f)=true
section
variable {P:Program}{w:World}{K:PySem.W.Frag}{mg:Str->Option Value}{base:Heap}
theorem Fun.ok{x qual:Str}{st:Stmt}{f:Addr}{fd:FuncData}{N ps:List Str}{k:Nat}{sp:Sp}(F:Fun K x qual st f fd)(S:FnScope N ps (z0d st))(len:∀vs H Q E,sp vs H Q E->vs.length=ps.length)
 (hbody:∀(cdv:Value) (A:Around) (outer:List Env) (s:Shared) (H:Hp) (vs:List V) (Q:VK) (E:XK),Room k (A.deeper (envOfC qual (z0d st) s.heap.objs.size f cdv))->sp vs H Q E ->
   ∃t,PSs (cxOf CX0 P w K mg base N qual (z0d st) f cdv A outer s H E).nox (z0l st) t/\t { nx:=fun _ H'=>Q .non H',rt:=Q } (start N vs) H):FnOk P w K mg base CX0 (k+1) f fd ps sp:=by
 obtain⟨oc,od,kV,doc,pm,an,cdv,ct,osl,rfl,lk,hcd⟩:=F.ex
 refine x2g lk hcd S len fun A outer s H vs Q E hr hsp=>?_
 obtain⟨t,h,q⟩:=hbody cdv A outer s H vs Q E hr hsp
 exact⟨t,h.nox,q⟩
theorem Fun.binds{x qual:Str}{st:Stmt}{f:Addr}{fd:FuncData}{ps:List Str}(F:Fun K x qual st f fd)
 (h:∀(kV doc pm:Value) (an:Option Addr) (cdv ct:Value) (us:List Value),us.length=ps.length->bindArgs (PySem.W.fnOf x qual (z0n st) (z0l st) (z0d st) .none kV doc pm an cdv ct) ⟨us,[]⟩=pure (ps.zip us)):z1j K fd ps []:=by
 obtain⟨oc,od,kV,doc,pm,an,cdv,ct,osl,rfl,lk,hcd⟩:=F.ex
 exact .all (h kV doc pm an cdv ct)
theorem z0x{x qual:Str}{st:Stmt}{f:Addr}{oc:Value}{od an:Option Addr}{osl:Array (Option Value)}{kV doc pm cdv ct:Value}(l:K.lookup f=some ⟨oc,od,.func (PySem.W.fnOf x qual (z0n st) (z0l st) (z0d st) .none kV doc pm an cdv ct),osl⟩)
 (c:PySem.W.codeIn K cdv qual=true) (k:PySem.W.keepIn K (.ref f)=true):Fun K x qual st f (PySem.W.fnOf x qual (z0n st) (z0l st) (z0d st) .none kV doc pm an cdv ct):=⟨⟨oc,od,kV,doc,pm,an,cdv,ct,osl,rfl,l,c⟩,k⟩
end
theorem y8h{n:Nat}(h:n<=1000):n<sizeLine:=Nat.lt_of_le_of_lt h (by decide)
section
variable {X:Cx}
end
noncomputable def Same(H H':Hp):Prop:=∀b o,H b=some o->H' b=some o
theorem Same.refl(H:Hp):Same H H:=fun _ _ h=>h
theorem Same.trans{H H1 H2:Hp}(a:Same H H1)(b:Same H1 H2):Same H H2:=fun c o h=>b c o (a c o h)
theorem Same.free{H H':Hp}(e:Same H H'){l:Addr}(h:H' l=Option.none):H l=Option.none:=by
 cases q:H l with
 | none=>rfl
 | some o =>
   rw[e l o q] at h
   cases h
theorem Same.seq{K:PySem.W.Frag}{H H':Hp}{a:Addr}{xs:List V}(e:Same H H')(h:SqL K H a xs):SqL K H' a xs:=by
 rcases h with (h | ⟨o,h⟩) | h
 ·exact .inl (.inl (e _ _ h))
 ·exact .inl (.inr ⟨o,e _ _ h⟩)
 ·exact .inr h
end L2
namespace L3
open PySem
noncomputable section
inductive Er where
 | noPrime | noNumber | noProgram | tooLong | lossy | noText
 deriving DecidableEq
noncomputable def Er.nm:Er->Str
 | .noPrime=>"NoPrime" | .noNumber=>"NoNumber" | .noProgram=>"NoProgram" | .tooLong=>"TooLong" | .lossy=>"Lossy" | .noText=>"NoText"
inductive D where
 | non | bl (b:Bool) | int (i:Int) | str (x:Str) | tup (ds:List D) | lst (ds:List D) | dct | exc (c:Er)
mutual
noncomputable def D.noL:D->Bool
 | .lst _=>false
 | .dct=>false
 | .tup ds=>D.noLs ds
 | _=>true
noncomputable def D.noLs:List D->Bool
 | []=>true
 | d::ds=>d.noL&&D.noLs ds
end
theorem z4f:D.noLs []=true:=by unfold D.noLs;rfl
theorem z9g:∀ds:List D,D.noLs ds=ds.all D.noL
 | []=>by unfold D.noLs;rfl
 | d::ds=>by unfold D.noLs;rw[z9g ds];rfl
theorem z1o(i:Int):D.noL (.int i)=true:=by simp[D.noL]
theorem z3p(i:Bool):D.noL (.bl i)=true:=by simp[D.noL]
theorem z5p(i:Str):D.noL (.str i)=true:=by simp[D.noL]
theorem z5q:D.noL .non=true:=by simp[D.noL]
theorem y9i(ds:List D):D.noL (.tup ds)=D.noLs ds:=by simp[D.noL]
theorem y4t(ds es:List D):D.noLs (ds++es)=(D.noLs ds&&D.noLs es):=by simp only[z9g,List.all_append]
theorem x4p{ds:List D}(h:∀d∈ds,d.noL=true):D.noLs ds=true:=by rw[z9g,List.all_eq_true];exact h
theorem x1p{ds:List D}(h:D.noLs ds=true){d:D}(hd:d∈ds):d.noL=true:=by rw[z9g,List.all_eq_true] at h;exact h d hd
theorem z7w{α:Type}{f:α->D}{l:List α}(h:∀x∈l,(f x).noL=true):D.noLs (l.map f)=true:=x4p fun d hd=>by
 obtain⟨x,hx,rfl⟩:=List.mem_map.mp hd;exact h x hx
theorem z0s(ns:List Int):D.noLs (ns.map D.int)=true:=z7w fun _ _=>z1o _
theorem z3e(ns:List Int):D.noL (.tup (ns.map D.int))=true:=by rw[y9i];exact z0s ns
inductive R (α:Type) where
 | no | ok (a:α) | er (c:Er)
noncomputable def R.bind{α β:Type}(r:R α)(k:α->R β):R β:=match r with
 | .no=>.no
 | .ok a=>k a
 | .er c=>.er c
noncomputable instance:Monad R where
 pure:=R.ok
 bind:=R.bind
@[simp] theorem R.bind_no {α β:Type} (k:α->R β):(R.no>>=k)=R.no:=rfl
@[simp] theorem R.bind_ok {α β:Type} (a:α) (k:α->R β):(R.ok a>>=k)=k a:=rfl
@[simp] theorem R.bind_er {α β:Type} (c:Er) (k:α->R β):(R.er c>>=k)=R.er c:=rfl
@[simp] theorem R.pure_ok {α:Type} (a:α):(pure a:R α)=R.ok a:=rfl
theorem R.left{α β:Type}{r:R α}{k:α->R β}(h:(r>>=k) ≠ .no):r ≠ .no:=fun e=>h (by rw[e];rfl)
theorem R.next{α β:Type}{r:R α}{k:α->R β}{a:α}(h:(r>>=k) ≠ .no)(e:r = .ok a):k a ≠ .no:=by
 rw[e] at h;exact h
theorem R.step{α β:Type}{r:R α}{a:α}(e:r = .ok a)(k:α->R β):(r>>=k)=k a:=by rw[e];rfl
theorem R.stop{α β:Type}{r:R α}{c:Er}(e:r = .er c)(k:α->R β):(r>>=k) = .er c:=by rw[e];rfl
noncomputable def R.guard{α:Type}(p:Prop)(r:R α):R α:=@ite _ p (Classical.propDecidable p) r .no
theorem R.guard_pos{α:Type}{p:Prop}{r:R α}(h:p):R.guard p r=r:=if_pos h
theorem R.guard_ne{α:Type}{p:Prop}{r:R α}(h:R.guard p r ≠ .no):p/\R.guard p r=r:=by
 unfold R.guard at h ⊢
 by_cases q:p
 ·exact⟨q,if_pos q⟩
 ·rw[if_neg q] at h;exact absurd rfl h
theorem z2m{α:Type}{r:R α}:R.guard True r=r:=R.guard_pos trivial
theorem z0w{α:Type}{p:Prop}{r:R α}(h:p):R.guard p r=r:=R.guard_pos h
inductive En where
 | no | ro (d:D) | own (ds:List D)
noncomputable abbrev G:=List En
noncomputable def lk(Γ:G)(i:Nat):R D:=match Γ[i]? with
 | some (.ro d)=>.ok d
 | some (.own ds)=>.ok (.lst ds)
 | _=>.no
noncomputable def lkr(Γ:G)(i:Nat):R D:=match Γ[i]? with
 | some (.ro d)=>.ok d
 | _=>.no
theorem x8g{Γ:G}{i:Nat}(h:lk Γ i ≠ .no):∃d,lk Γ i = .ok d:=by
 cases e:lk Γ i with
 | no=>exact absurd e h
 | ok d=>exact⟨d,rfl⟩
 | er c =>
   unfold lk at e
   cases q:Γ[i]? with
   | none=>rw[q] at e;cases e
   | some en=>rw[q] at e;cases en<;>cases e
theorem x6x{Γ:G}{i:Nat}(h:lkr Γ i ≠ .no):∃d,lkr Γ i = .ok d:=by
 cases e:lkr Γ i with
 | no=>exact absurd e h
 | ok d=>exact⟨d,rfl⟩
 | er c =>
   unfold lkr at e
   cases q:Γ[i]? with
   | none=>rw[q] at e;cases e
   | some en=>rw[q] at e;cases en<;>cases e
theorem y2f(d:D)(Γ:G):lk (En.ro d::Γ) 0 = .ok d:=rfl
theorem z7y(ds:List D)(Γ:G):lk (En.own ds::Γ) 0 = .ok (.lst ds):=rfl
theorem z5r(e:En)(Γ:G)(i:Nat):lk (e::Γ) (i+1)=lk Γ i:=rfl
theorem z7x(d:D)(Γ:G):lkr (En.ro d::Γ) 0 = .ok d:=rfl
theorem z4g(e:En)(Γ:G)(i:Nat):lkr (e::Γ) (i+1)=lkr Γ i:=rfl
noncomputable def gV(i:Nat):G->R D:=fun Γ=>lk Γ i
noncomputable def gVr(i:Nat):G->R D:=fun Γ=>lkr Γ i
noncomputable def gC(d:D):G->R D:=fun _=>.ok d
noncomputable def gNL(g:G->R D):G->R D:=fun Γ=>g Γ>>=fun d=>R.guard (d.noL=true) (.ok d)
noncomputable def gL(g:G->R (List D)):G->R D:=fun Γ=>g Γ>>=fun ds=>.ok (.lst ds)
noncomputable def gBin(g:D->D->R D)(ga gb:G->R D):G->R D:=fun Γ=>ga Γ>>=fun x=>gb Γ>>=fun y=>g x y
noncomputable def asB(d:D):R Bool:=match d with
 | .bl b=>.ok b
 | _=>.no
theorem x0s{d:D}(h:asB d ≠ .no):∃b,d = .bl b/\asB d = .ok b:=by
 cases d<;>first | exact⟨_,rfl,rfl⟩ | exact absurd rfl h
theorem z8d(b:Bool):asB (.bl b) = .ok b:=rfl
noncomputable def gT(g:G->R D):G->R Bool:=fun Γ=>g Γ>>=asB
noncomputable def gAnd(ga gb:G->R Bool):G->R Bool:=fun Γ=>ga Γ>>=fun k=>if k=true then gb Γ else .ok false
noncomputable def gNot(ga:G->R Bool):G->R Bool:=fun Γ=>ga Γ>>=fun k=>.ok (!k)
noncomputable def z7l(ga gb:G->R D):G->R D:=fun Γ=>ga Γ>>=fun d=>asB d>>=fun k=>if k=true then gb Γ else .ok (.bl false)
noncomputable def y0k(ga:G->R D):G->R D:=fun Γ=>ga Γ>>=fun d=>asB d>>=fun k=>.ok (.bl (!k))
noncomputable def dNeg(d:D):R D:=match d with | .int i=>.ok (.int (-i)) | _=>.no
noncomputable def gNeg(ga:G->R D):G->R D:=fun Γ=>ga Γ>>=dNeg
noncomputable def gIf(gc:G->R Bool)(ga gb:G->R D):G->R D:=fun Γ=>gc Γ>>=fun k=>if k=true then ga Γ else gb Γ
noncomputable def gNil:G->R (List D):=fun _=>.ok []
noncomputable def gCons(g:G->R D)(gs:G->R (List D)):G->R (List D):=fun Γ=>g Γ>>=fun d=>gs Γ>>=fun ds=>.ok (d::ds)
noncomputable def gTup(gs:G->R (List D)):G->R D:=fun Γ=>gs Γ>>=fun ds=>R.guard (ds.length<=1000) (.ok (.tup ds))
noncomputable def gLst(gs:G->R (List D)):G->R (List D):=fun Γ=>gs Γ>>=fun ds=>R.guard (ds.length<=1000/\D.noLs ds=true) (.ok ds)
noncomputable def z9b(i:Int):Prop:=-18446744073709551616<i/\i<18446744073709551616
noncomputable instance (i:Int):Decidable (z9b i):=by unfold z9b;exact inferInstance
noncomputable def z7i(i j:Int):Prop:=z9b i∨z9b j
noncomputable instance (i j:Int):Decidable (z7i i j):=by unfold z7i;exact inferInstance
noncomputable def y2v(j:Int):Prop:=-4611686018427387904<=j/\j<4611686018427387904
noncomputable instance (j:Int):Decidable (y2v j):=by unfold y2v;exact inferInstance
theorem z0r{j:Int}(h:-4611686018427387904<=j/\j<4611686018427387904):y2v j:=h
theorem z1l{j:Int}(h:-18446744073709551616<j/\j<18446744073709551616):z9b j:=h
theorem z3g{i j:Int}(h:z9b i):z7i i j:=.inl h
theorem z3f{i j:Int}(h:z9b j):z7i i j:=.inr h
noncomputable def dAdd(x y:D):R D:=match x,y with
 | .int i,.int j=>.ok (.int (i+j))
 | .tup xs,.tup ys=>R.guard (xs.length+ys.length<=1000) (.ok (.tup (xs++ys)))
 | _,_=>.no
noncomputable def dSub(x y:D):R D:=match x,y with
 | .int i,.int j=>.ok (.int (i-j))
 | _,_=>.no
noncomputable def dMul(x y:D):R D:=match x,y with
 | .int i,.int j=>R.guard (z7i i j) (.ok (.int (i*j)))
 | .tup xs,.int j=>R.guard (0<=j/\j<1000000/\xs.length*j.toNat<=1000) (.ok (.tup (List.replicate j.toNat xs).flatten))
 | _,_=>.no
noncomputable def dDiv(x y:D):R D:=match x,y with
 | .int i,.int j=>R.guard (0<j/\j<1073741824) (.ok (.int (i/j)))
 | _,_=>.no
noncomputable def dMod(x y:D):R D:=match x,y with
 | .int i,.int j=>R.guard (0<j) (.ok (.int (i%j)))
 | _,_=>.no
noncomputable def dPow(x y:D):R D:=match x,y with
 | .int i,.int j=>R.guard (0<=j/\j<=1000000/\i.natAbs<18446744073709551616) (.ok (.int (i^j.toNat)))
 | _,_=>.no
noncomputable def dLt(x y:D):R D:=match x,y with
 | .int i,.int j=>.ok (.bl (decide (i<j)))
 | _,_=>.no
noncomputable def dLe(x y:D):R D:=match x,y with
 | .int i,.int j=>.ok (.bl (decide (i<=j)))
 | _,_=>.no
noncomputable def dGt(x y:D):R D:=match x,y with
 | .int i,.int j=>.ok (.bl (decide (j<i)))
 | _,_=>.no
noncomputable def dGe(x y:D):R D:=match x,y with
 | .int i,.int j=>.ok (.bl (decide (j<=i)))
 | _,_=>.no
noncomputable def sOk(x:Str):Bool:=x.cps.all (·<0x110000)
mutual
noncomputable def D.lay:Nat->D->Bool
 | n+1,.tup ds=>D.lays n ds
 | n+1,.lst ds=>D.lays n ds
 | 0,.tup _=>false
 | 0,.lst _=>false
 | _,.dct=>false
 | _,.exc _=>false
 | _,.str x=>sOk x
 | _,_=>true
noncomputable def D.lays:Nat->List D->Bool
 | _,[]=>true
 | n,d::ds=>D.lay n d&&D.lays n ds
end
theorem D.lays_all(n:Nat):∀ds:List D,D.lays n ds=ds.all (D.lay n)
 | []=>by unfold D.lays;rfl
 | d::ds=>by unfold D.lays;rw[D.lays_all n ds];rfl
theorem z4b(n:Nat)(i:Int):D.lay n (.int i)=true:=by cases n<;>simp[D.lay]
theorem z7z(n:Nat)(i:Bool):D.lay n (.bl i)=true:=by cases n<;>simp[D.lay]
theorem y0f(n:Nat)(x:Str):D.lay n (.str x)=sOk x:=by cases n<;>simp[D.lay]
theorem z8i(n:Nat)(ds:List D):D.lay (n+1) (.tup ds)=ds.all (D.lay n):=by rw[D.lay,D.lays_all]
theorem x4t(n:Nat)(ds:List D):D.lay (n+1) (.lst ds)=ds.all (D.lay n):=by rw[D.lay,D.lays_all]
theorem z3h(n:Nat)(ns:List Int):D.lay (n+1) (.tup (ns.map D.int))=true:=by
 rw[z8i,List.all_map,List.all_eq_true];intro x _;exact z4b n x
mutual
noncomputable def eqD:D->D->Bool
 | .non,y=>(match y with | .non=>true | _=>false)
 | .bl a,y=>(match y with | .bl b=>a==b | .int j=>(if a then 1 else 0)==j | _=>false)
 | .int i,y=>(match y with | .bl b=>i==(if b then 1 else 0) | .int j=>i==j | _=>false)
 | .str x,y=>(match y with | .str z=>x==z | _=>false)
 | .tup xs,y=>(match y with | .tup ys=>eqDs xs ys | _=>false)
 | .lst xs,y=>(match y with | .lst ys=>eqDs xs ys | _=>false)
 | .dct,_=>false
 | .exc _,_=>false
noncomputable def eqDs:List D->List D->Bool
 | [],[]=>true
 | x::xs,y::ys=>eqD x y&&eqDs xs ys
 | [],_::_=>false
 | _::_,[]=>false
end
theorem z5x(i j:Int):eqD (.int i) (.int j)=(i==j):=by rw[eqD]
theorem z8c(i j:Bool):eqD (.bl i) (.bl j)=(i==j):=by rw[eqD]
theorem y5d(i j:Str):eqD (.str i) (.str j)=(i==j):=by rw[eqD]
mutual
noncomputable def D.pl:D->Bool
 | .bl _=>false
 | .dct=>false
 | .exc _=>false
 | .tup ds=>D.pls ds
 | .lst ds=>D.pls ds
 | _=>true
noncomputable def D.pls:List D->Bool
 | []=>true
 | d::ds=>d.pl&&D.pls ds
end
theorem y4o:∀ds:List D,D.pls ds=ds.all D.pl
 | []=>by unfold D.pls;rfl
 | d::ds=>by unfold D.pls;rw[y4o ds];rfl
theorem y8w(i:Int):D.pl (.int i)=true:=by simp[D.pl]
theorem y1i(ds:List D):D.pl (.tup ds)=ds.all D.pl:=by rw[D.pl,y4o]
theorem x6f(ds:List D):D.pl (.lst ds)=ds.all D.pl:=by rw[D.pl,y4o]
theorem y8v(ns:List Int):D.pl (.tup (ns.map D.int))=true:=by
 rw[y1i,List.all_map,List.all_eq_true];intro x _;exact y8w x
mutual
theorem y2k:∀(x y:D),x.pl=true->y.pl=true->(eqD x y=true↔x=y)
 | .non,y,_,hy=>by cases y<;>simp_all [eqD,D.pl]
 | .bl _,y,hx,hy=>by simp[D.pl] at hx
 | .int i,y,_,hy=>by cases y<;>simp_all [eqD,D.pl]
 | .str i,y,_,hy=>by cases y<;>simp_all [eqD,D.pl]
 | .dct,y,hx,hy=>by simp[D.pl] at hx
 | .exc _,y,hx,hy=>by simp[D.pl] at hx
 | .tup xs,y,hx,hy=>by
   cases y with
   | tup ys=>rw[eqD,eqDs_iff xs ys (by simpa [D.pl] using hx) (by simpa [D.pl] using hy)];simp
   | _=>simp_all [eqD,D.pl]
 | .lst xs,y,hx,hy=>by
   cases y with
   | lst ys=>rw[eqD,eqDs_iff xs ys (by simpa [D.pl] using hx) (by simpa [D.pl] using hy)];simp
   | _=>simp_all [eqD,D.pl]
theorem eqDs_iff:∀(xs ys:List D),D.pls xs=true->D.pls ys=true->(eqDs xs ys=true↔xs=ys)
 | [],[],_,_=>by simp[eqDs]
 | [],y::ys,_,_=>by simp[eqDs]
 | x::xs,[],_,_=>by simp[eqDs]
 | x::xs,y::ys,hx,hy=>by
   have hx':x.pl=true/\D.pls xs=true:=by simpa [D.pls] using hx
   have hy':y.pl=true/\D.pls ys=true:=by simpa [D.pls] using hy
   rw[eqDs,Bool.and_eq_true,y2k x y hx'.1 hy'.1,eqDs_iff xs ys hx'.2 hy'.2];simp
end
theorem y6f{x:D}(h:x.pl=true):eqD x x=true:=(y2k x x h h).mpr rfl
theorem x0f{x y:D}(hx:x.pl=true)(hy:y.pl=true){p:Prop}[Decidable p](h:x=y↔p):eqD x y=decide p:=by
 by_cases q:p
 ·rw[decide_eq_true q];exact(y2k x y hx hy).mpr (h.mpr q)
 ·rw[decide_eq_false q]
  cases e:eqD x y with
  | false=>rfl
  | true=>exact absurd (h.mp ((y2k x y hx hy).mp e)) q
noncomputable def dEq(x y:D):R D:=R.guard (D.lay 40 x=true/\D.lay 40 y=true) (.ok (.bl (eqD x y)))
noncomputable def dNe(x y:D):R D:=R.guard (D.lay 40 x=true/\D.lay 40 y=true) (.ok (.bl (!eqD x y)))
noncomputable def ixN(n:Nat)(i:Int):Option Nat:=if 0<=i then (if i<n then some i.toNat else none) else if -(n:Int)<=i then some (i+n).toNat else none
noncomputable def atI{α:Type}(xs:List α)(i:Int):Option α:=(ixN xs.length i).bind fun j=>xs[j]?
theorem z3y{α:Type}{ds:List α}(i:Nat):atI ds (i:Int)=ds[i]?:=by
 unfold atI ixN
 rw[if_pos (by lia)]
 by_cases h:(i:Int)<ds.length
 ·rw[if_pos h];simp
 ·rw[if_neg h]
  have:ds.length<=i:=by lia
  rw[List.getElem?_eq_none this];rfl
theorem x7q{α:Type}{ds:List α}{i:Int}(h:0<=i):atI ds i=ds[i.toNat]?:=by
 obtain⟨n,rfl⟩:∃n:Nat,i=(n:Int):=⟨i.toNat,by lia⟩
 rw[z3y];rfl
theorem atI_neg{α:Type}{ds:List α}{i:Int}(h:i<0)(h2:-(ds.length:Int)<=i):atI ds i=ds[(i+ds.length).toNat]?:=by
 unfold atI ixN
 rw[if_neg (by lia),if_pos h2];rfl
theorem z3n{α:Type}(a:α)(ds:List α):atI (a::ds) 0=some a:=z3y 0
theorem z4q{α:Type}(a b:α)(ds:List α):atI (a::b::ds) 1=some b:=z3y 1
theorem z4p{α:Type}(a b c:α)(ds:List α):atI (a::b::c::ds) 2=some c:=z3y 2
theorem z2o{α:Type}(a b c d:α)(ds:List α):atI (a::b::c::d::ds) 3=some d:=z3y 3
noncomputable def dIx(x y:D):R D:=match x,y with
 | .tup ds,.int i=>(match atI ds i with | some d=>.ok d | none=>.no)
 | .lst ds,.int i=>(match atI ds i with | some d=>.ok d | none=>.no)
 | _,_=>.no
noncomputable def sIx(n d:Nat):Option Int->Nat
 | none=>d
 | some v=>if v<0 then (v+(n:Int)).toNat else min v.toNat n
theorem sIx_none(n d:Nat):sIx n d none=d:=rfl
theorem sIx_nat(n d k:Nat):sIx n d (some (k:Int))=min k n:=by
 show(if (k:Int)<0 then ((k:Int)+(n:Int)).toNat else min (k:Int).toNat n)=min k n
 rw[if_neg (by lia),Int.toNat_natCast]
noncomputable def cutL{α:Type}(xs:List α)(lo hi:Option Int):List α:=(xs.drop (sIx xs.length 0 lo)).take (sIx xs.length xs.length hi-sIx xs.length 0 lo)
noncomputable def gON:G->R (Option Int):=fun _=>.ok none
noncomputable def dOS(d:D):R (Option Int):=match d with | .int i=>.ok (some i) | _=>.no
noncomputable def gOS(g:G->R D):G->R (Option Int):=fun Γ=>g Γ>>=dOS
noncomputable def dCut(d:D)(lo hi:Option Int):R D:=match d with
 | .tup xs=>.ok (.tup (cutL xs lo hi))
 | .lst xs=>.ok (.lst (cutL xs lo hi))
 | _=>.no
noncomputable def gSl(ga:G->R D)(lo hi:G->R (Option Int)):G->R D:=fun Γ=>ga Γ>>=fun d=>lo Γ>>=fun l=>hi Γ>>=fun h=>dCut d l h
theorem x0j{α:Type}(xs:List α)(k:Nat):cutL xs (some (k:Int)) none=xs.drop k:=by
 unfold cutL
 rw[sIx_none,sIx_nat]
 by_cases h:k<=xs.length
 ·rw[Nat.min_eq_left h,List.take_of_length_le (by rw[List.length_drop];lia)]
 ·rw[Nat.min_eq_right (by lia),List.drop_length,List.drop_of_length_le (by lia)];simp
theorem x5i{α:Type}(xs:List α)(k:Nat):cutL xs none (some (k:Int))=xs.take k:=by
 unfold cutL
 rw[sIx_none,sIx_nat,Nat.sub_zero,List.drop_zero]
 by_cases h:k<=xs.length
 ·rw[Nat.min_eq_left h]
 ·rw[Nat.min_eq_right (by lia),List.take_length,List.take_of_length_le (by lia)]
inductive Cl where
 | noPrime | noNumber | noProgram | tooLong | lossy | noText | longError | valueError
noncomputable def z0i(g:List D->R D)(gs:G->R (List D)):G->R D:=fun Γ=>gs Γ>>=g
noncomputable def dLen(ds:List D):R D:=match ds with
 | [.tup xs]=>.ok (.int xs.length)
 | [.lst xs]=>.ok (.int xs.length)
 | _=>.no
noncomputable def z1i(ds:List D):R D:=match ds with
 | [.tup xs]=>.ok (.tup xs)
 | [.lst xs]=>.ok (.tup xs)
 | _=>.no
noncomputable def ints?:List D->Option (List Int)
 | []=>some []
 | .int i::ds=>(ints? ds).map (i::·)
 | _::_=>none
theorem ints?_some:∀{ds:List D} {ns:List Int},ints? ds=some ns->ds=ns.map D.int
 | [],ns,h=>by unfold ints? at h;cases h;rfl
 | d::ds,ns,h=>by
   cases d with
   | int i =>
     unfold ints? at h
     cases q:ints? ds with
     | none=>rw[q] at h;cases h
     | some ms=>rw[q] at h;cases h;rw[ints?_some q];rfl
   | _=>unfold ints? at h;cases h
theorem ints?_map:∀ns:List Int,ints? (ns.map D.int)=some ns
 | []=>rfl
 | n::ns=>by show(ints? (ns.map D.int)).map (n::·)=_;rw[ints?_map ns];rfl
noncomputable def bools?:List D->Option (List Bool)
 | []=>some []
 | .bl i::ds=>(bools? ds).map (i::·)
 | _::_=>none
theorem bools?_some:∀{ds:List D} {ns:List Bool},bools? ds=some ns->ds=ns.map D.bl
 | [],ns,h=>by unfold bools? at h;cases h;rfl
 | d::ds,ns,h=>by
   cases d with
   | bl i =>
     unfold bools? at h
     cases q:bools? ds with
     | none=>rw[q] at h;cases h
     | some ms=>rw[q] at h;cases h;rw[bools?_some q];rfl
   | _=>unfold bools? at h;cases h
theorem bools?_map:∀ns:List Bool,bools? (ns.map D.bl)=some ns
 | []=>rfl
 | n::ns=>by show(bools? (ns.map D.bl)).map (n::·)=_;rw[bools?_map ns];rfl
noncomputable def dSum(ds:List D):R D:=match ds with
 | [.lst xs]=>(match ints? xs with | some ns=>.ok (.int ns.sum) | none=>.no)
 | _=>.no
theorem z4l(ns:List Int):dSum [.lst (ns.map D.int)] = .ok (.int ns.sum):=by simp only[dSum,ints?_map]
noncomputable def dAny(ds:List D):R D:=match ds with
 | [.lst xs]=>(match bools? xs with | some bs=>.ok (.bl (bs.any (fun b=>b))) | none=>.no)
 | _=>.no
theorem z4m(ns:List Bool):dAny [.lst (ns.map D.bl)] = .ok (.bl (ns.any fun b=>b)):=by simp only[dAny,bools?_map]
noncomputable def noEr(φ:List D->R D):List D->R D:=fun ds=>match φ ds with
 | .ok d=>.ok d
 | _=>.no
theorem y9j{φ:List D->R D}{ds:List D}(h:noEr φ ds ≠ .no):∃d,φ ds = .ok d/\noEr φ ds = .ok d:=by
 unfold noEr at h ⊢
 cases q:φ ds with
 | ok d=>exact⟨d,rfl,rfl⟩
 | no=>rw[q] at h;exact absurd rfl h
 | er c=>rw[q] at h;exact absurd rfl h
noncomputable def z6d(φ:List D->R (List D))(gs:G->R (List D)):G->R (List D):=fun Γ=>gs Γ>>=fun ds=>φ ds>>=fun es=>R.guard (D.noLs es=true) (.ok es)
noncomputable def y0w(d:D):R (List D):=match d with
 | .tup ds=>R.guard (D.noLs ds=true) (.ok ds)
 | .lst ds=>R.guard (D.noLs ds=true) (.ok ds)
 | _=>.no
noncomputable def z6q(g:G->R D):G->R (List D):=fun Γ=>g Γ>>=y0w
noncomputable def gCat(ga gb:G->R (List D)):G->R (List D):=fun Γ=>ga Γ>>=fun x=>gb Γ>>=fun y=>R.guard (x.length+y.length<=1000) (.ok (x++y))
noncomputable def D.ty:D->String
 | .non=>"NoneType"
 | .bl _=>"bool"
 | .int _=>"int"
 | .str _=>"str"
 | .tup _=>"tuple"
 | .lst _=>"list"
 | .dct=>"dict"
 | .exc _=>""
noncomputable def D.noX:D->Bool
 | .exc _=>false
 | _=>true
noncomputable def dIsi(f:String->Bool)(d:D):R D:=match d with
 | .exc _=>.no
 | d=>.ok (.bl (f d.ty))
noncomputable def gIsi(f:String->Bool)(g:G->R D):G->R D:=fun Γ=>g Γ>>=dIsi f
theorem x5h{f:String->Bool}{d:D}(h:dIsi f d ≠ .no):d.noX=true/\dIsi f d = .ok (.bl (f d.ty)):=by
 cases d<;>first | exact⟨rfl,rfl⟩ | exact absurd rfl h
noncomputable def z6e(t:String):Bool:=t=="int"||t=="bool"
noncomputable def z4c(t:String):Bool:=t=="bool"
noncomputable def dSeq(d:D):R (List D):=match d with
 | .tup ds=>.ok ds
 | .lst ds=>.ok ds
 | _=>.no
noncomputable def gSeq(g:G->R D):G->R (List D):=fun Γ=>g Γ>>=dSeq
noncomputable def z7k(g:G->R D):G->R (List D):=fun Γ=>g Γ>>=fun d=>dSeq d>>=fun ds=>R.guard (D.noLs ds=true) (.ok ds)
noncomputable def z2r(lo:Int)(n:Nat):List D:=(List.range n).map fun(i:Nat)=>D.int (lo+(i:Int))
theorem z0o(lo:Int)(n:Nat):(z2r lo n).length=n:=by unfold z2r;simp
theorem z8e(lo:Int)(n i:Nat)(h:i<n):(z2r lo n)[i]? = some (.int (lo+(i:Int))):=by unfold z2r;simp[h]
theorem z1x(lo:Int):z2r lo 0=[]:=rfl
noncomputable def z5a(g:G->R D):G->R (List D):=fun Γ=>g Γ>>=fun d=>match d with
 | .int j=>R.guard (y2v j) (.ok (z2r 0 j.toNat))
 | _=>.no
noncomputable def z8m(ga gb:G->R D):G->R (List D):=fun Γ=>ga Γ>>=fun d=>gb Γ>>=fun d'=>match d,d' with
 | .int i,.int j=>R.guard (y2v i/\y2v j) (.ok (z2r i (j-i).toNat))
 | _,_=>.no
noncomputable def z0y(f:D->R (Option D)):List D->List D->R (List D)
 | [],acc=>.ok acc
 | d::r,acc=>match f d with
   | .ok (some e)=>z0y f r (acc++[e])
   | .ok none=>z0y f r acc
   | _=>.no
theorem z2n(f:D->R (Option D))(acc:List D):z0y f [] acc = .ok acc:=rfl
theorem z7o(f:D->R (Option D))(d:D)(r acc:List D):z0y f (d::r) acc=match f d with
 | .ok (some e)=>z0y f r (acc++[e])
 | .ok none=>z0y f r acc
 | _=>.no:=rfl
theorem z5h{f:D->R (Option D)}:∀{ds acc:List D},z0y f ds acc ≠ .no->∃es,z0y f ds acc = .ok es
 | [],acc,_=>⟨acc,rfl⟩
 | d::r,acc,h=>by
   unfold z0y at h ⊢
   cases q:f d with
   | no=>rw[q] at h;exact absurd rfl h
   | er c=>rw[q] at h;exact absurd rfl h
   | ok o =>
     rw[q] at h
     cases o with
     | none=>exact z5h h
     | some e=>exact z5h h
theorem z2b{α:Type}{f:D->R (Option D)}{k h:α->D}{l:List α}(q:∀x∈l,f (k x) = .ok (some (h x))):z0y f (l.map k) [] = .ok (l.map h):=by
 suffices H:∀(l:List α) (acc:List D),(∀x∈l,f (k x) = .ok (some (h x)))->z0y f (l.map k) acc = .ok (acc++l.map h) by
  have:=H l [] q;simpa using this
 intro l
 induction l with
 | nil=>intro acc _;simp[z0y]
 | cons x l ih =>
   intro acc q
   rw[List.map_cons,z7o,q x List.mem_cons_self]
   simp only
   rw[ih _ fun y hy=>q y (List.mem_cons_of_mem _ hy)]
   simp
theorem y0x{α:Type}{f:D->R (Option D)}{k:α->D}{h:α->Option D}{l:List α}(q:∀x∈l,f (k x) = .ok (h x)):z0y f (l.map k) [] = .ok (l.filterMap h):=by
 suffices H:∀(l:List α) (acc:List D),(∀x∈l,f (k x) = .ok (h x))->z0y f (l.map k) acc = .ok (acc++l.filterMap h) by
  have:=H l [] q;simpa using this
 intro l
 induction l with
 | nil=>intro acc _;simp[z0y]
 | cons x l ih =>
   intro acc q
   rw[List.map_cons,z7o,q x List.mem_cons_self]
   cases e:h x with
   | none=>simp only;rw[ih _ fun y hy=>q y (List.mem_cons_of_mem _ hy)];simp[e]
   | some z=>simp only;rw[ih _ fun y hy=>q y (List.mem_cons_of_mem _ hy)];simp[e]
theorem z3x{f:D->R (Option D)}{lo:Int}{n:Nat}{h:Nat->D}(q:∀i,i<n->f (.int (lo+(i:Int))) = .ok (some (h i))):z0y f (z2r lo n) [] = .ok ((List.range n).map h) :=
 z2b (k:=fun(i:Nat)=>D.int (lo+(i:Int))) fun i hi=>q i (List.mem_range.mp hi)
noncomputable def fElt(ge:G->R D):D->G->R (Option D):=fun d Γ=>ge (.ro d::Γ)>>=fun e=>.ok (some e)
noncomputable def z6y(gc:G->R Bool)(ge:G->R D):D->G->R (Option D):=fun d Γ=>gc (.ro d::Γ)>>=fun k=>if k=true then ge (.ro d::Γ)>>=fun e=>.ok (some e) else .ok none
noncomputable def z2y(gi:G->R (List D))(f:D->G->R (Option D)):G->R (List D):=fun Γ=>gi Γ>>=fun items=>R.guard (items.length<=100000) (z0y (fun d=>f d Γ) items [])
inductive Fl where
 | nx (Γ:G) | rt (d:D) | rtF (ds:List D) | bk (Γ:G) | ct (Γ:G) | ex (c:Er) (Γ:G)
noncomputable def lift{α:Type}(r:R α)(Γ:G)(k:α->R Fl):R Fl:=match r with
 | .no=>.no
 | .er c=>.ok (.ex c Γ)
 | .ok a=>k a
theorem z0v{α:Type}{r:R α}{Γ:G}{k:α->R Fl}(h:lift r Γ k ≠ .no):r ≠ .no:=fun e=>h (by rw[e];rfl)
theorem z1v{α:Type}{r:R α}{Γ:G}{k:α->R Fl}{a:α}(e:r = .ok a):lift r Γ k=k a:=by rw[e];rfl
theorem z6m{α:Type}{r:R α}{Γ:G}{k:α->R Fl}{a:α}(h:lift r Γ k ≠ .no)(e:r = .ok a):k a ≠ .no:=by rw[e] at h;exact h
theorem z2k{α:Type}(a:α)(Γ:G)(k:α->R Fl):lift (.ok a) Γ k=k a:=rfl
theorem z4h{α:Type}(c:Er)(Γ:G)(k:α->R Fl):lift (.er c:R α) Γ k = .ok (.ex c Γ):=rfl
noncomputable def frz(i:Nat)(Γ:G):G:=match Γ[i]? with
 | some (.own ds)=>Γ.set i (.ro (.lst ds))
 | _=>Γ
noncomputable def z2q:G->R Fl:=fun Γ=>.ok (.nx Γ)
noncomputable def gSt(t u:G->R Fl):G->R Fl:=fun Γ=>t Γ>>=fun r=>match r with
 | .nx Γ'=>u Γ'
 | r=>.ok r
noncomputable def z8n(g:G->R (List D)):G->R Fl:=fun Γ=>lift (g Γ) Γ fun ds=>.ok (.rtF ds)
noncomputable def z9a(i:Nat):G->R Fl:=fun Γ=>match Γ[i]? with
 | some (.own ds)=>.ok (.rtF ds)
 | _=>.no
noncomputable def gEx(g:G->R D):G->R Fl:=fun Γ=>lift (g Γ) Γ fun _=>.ok (.nx Γ)
noncomputable def setAll:List Nat->List D->G->G
 | i::is,d::ds,Γ=>setAll is ds (Γ.set i (.ro d))
 | _,_,Γ=>Γ
noncomputable def gUnp(is:List Nat)(g:G->R D):G->R Fl:=fun Γ=>lift (g Γ) Γ fun d=>lift (dSeq d) Γ fun ds=>R.guard (ds.length=is.length/\D.noLs ds=true) (.ok (.nx (setAll is ds Γ)))
noncomputable def z3w(c:Er):G->R Fl:=fun Γ=>.ok (.ex c Γ)
noncomputable def gRet(g:G->R D):G->R Fl:=fun Γ=>lift (g Γ) Γ fun d=>.ok (.rt d)
noncomputable def gIfS(gc:G->R Bool)(t u:G->R Fl):G->R Fl:=fun Γ=>lift (gc Γ) Γ fun k=>if k=true then t Γ else u Γ
noncomputable def gSet(i:Nat)(g:G->R D):G->R Fl:=fun Γ=>lift (g Γ) Γ fun d=>.ok (.nx (Γ.set i (.ro d)))
noncomputable def frz1:En->En
 | .own ds=>.ro (.lst ds)
 | e=>e
noncomputable def z3b(i:Nat)(g:G->R (List D)):G->R Fl:=fun Γ=>lift (g Γ) Γ fun ds=>.ok (.nx (Γ.set i (.own ds)))
noncomputable def gApp(i:Nat)(g:G->R D):G->R Fl:=fun Γ=>match Γ[i]? with
 | some (.own ds)=>lift (g Γ) Γ fun d=>R.guard (ds.length<=100000) (.ok (.nx (Γ.set i (.own (ds++[d])))))
 | _=>.no
noncomputable def gPut(i:Nat)(gi g:G->R D):G->R Fl:=fun Γ=>match Γ[i]? with
 | some (.own ds)=>lift (g Γ) Γ fun d=>lift (gi Γ) Γ fun k=>(match k with
   | .int j=>(match ixN ds.length j with | some j'=>.ok (.nx (Γ.set i (.own (ds.set j' d)))) | none=>.no)
   | _=>.no)
 | _=>.no
noncomputable def z3r(gb:G->R Fl)(i:Nat):List D->G->R Fl
 | [],Γ=>.ok (.nx Γ)
 | d::r,Γ=>match gb (Γ.set i (.ro d)) with
   | .ok (.nx Γ')=>z3r gb i r Γ'
   | .ok (.ct Γ')=>z3r gb i r Γ'
   | .ok (.bk Γ')=>.ok (.nx Γ')
   | .ok (.rt d)=>.ok (.rt d)
   | .ok (.rtF d)=>.ok (.rtF d)
   | .ok (.ex c Γ')=>.ok (.ex c Γ')
   | _=>.no
noncomputable def gFor(i:Nat)(gi:G->R (List D))(gb:G->R Fl):G->R Fl:=fun Γ=>lift (gi Γ) Γ fun ds=>z3r gb i ds Γ
noncomputable def whGo(gc:G->R Bool)(gb:G->R Fl):Nat->G->R Fl
 | 0,_=>.no
 | n+1,Γ=>lift (gc Γ) Γ fun k=>if k=true then (match gb Γ with
    | .ok (.nx Γ')=>whGo gc gb n Γ'
    | .ok (.ct Γ')=>whGo gc gb n Γ'
    | .ok (.bk Γ')=>.ok (.nx Γ')
    | .ok (.rt d)=>.ok (.rt d)
    | .ok (.rtF d)=>.ok (.rtF d)
    | .ok (.ex c Γ')=>.ok (.ex c Γ')
    | _=>.no) else .ok (.nx Γ)
theorem z3i(gb:G->R Fl)(i:Nat)(Γ:G):z3r gb i [] Γ = .ok (.nx Γ):=rfl
theorem y7l(gb:G->R Fl)(i:Nat)(d:D)(ds:List D)(Γ:G):z3r gb i (d::ds) Γ=match gb (Γ.set i (.ro d)) with
 | .ok (.nx Γ')=>z3r gb i ds Γ'
 | .ok (.ct Γ')=>z3r gb i ds Γ'
 | .ok (.bk Γ')=>.ok (.nx Γ')
 | .ok (.rt d)=>.ok (.rt d)
 | .ok (.rtF d)=>.ok (.rtF d)
 | .ok (.ex c Γ')=>.ok (.ex c Γ')
 | _=>.no:=rfl
theorem z8b{gb:G->R Fl}{i:Nat}(I:Nat->G->Prop):∀(ds:List D) (k:Nat) (Γ:G),I k Γ ->
 (∀(j:Nat) (d:D) (Γ:G),ds[j]? = some d->I (k+j) Γ->∃Γ',(gb (Γ.set i (.ro d)) = .ok (.nx Γ')∨gb (Γ.set i (.ro d)) = .ok (.ct Γ'))/\I (k+j+1) Γ') ->
 ∃Γ',z3r gb i ds Γ = .ok (.nx Γ')/\I (k+ds.length) Γ'
 | [],k,Γ,h,_=>⟨Γ,rfl,h⟩
 | d::ds,k,Γ,h,q=>by
   obtain⟨Γ1,e1,h1⟩:=q 0 d Γ rfl h
   obtain⟨Γ2,e2,h2⟩:=z8b I ds (k+1) Γ1 h1 fun j d' Γ' hd hI=>by
    have:=q (j+1) d' Γ' (by simpa using hd) (by rw[show k+(j+1)=k+1+j by lia];exact hI)
    rw[show k+(j+1)=k+1+j by lia] at this
    exact this
   refine⟨Γ2,?_,by rw[List.length_cons,show k+(ds.length+1)=k+1+ds.length by lia];exact h2⟩
   rw[y7l]
   rcases e1 with e1 | e1<;>rw[e1]<;>exact e2
theorem y9z{gb:G->R Fl}{i:Nat}(S:Nat->G)(ds:List D)(q:∀(j:Nat) (d:D),ds[j]? = some d->gb ((S j).set i (.ro d)) = .ok (.nx (S (j+1)))):z3r gb i ds (S 0) = .ok (.nx (S ds.length)):=by
 obtain⟨Γ',e,h⟩:=z8b (gb:=gb) (i:=i) (fun k Γ=>Γ=S k) ds 0 (S 0) rfl fun j d Γ hd hI=>by
  rw[Nat.zero_add] at hI ⊢
  subst hI
  exact⟨_,.inl (q j d hd),rfl⟩
 rw[Nat.zero_add] at h
 rw[e,h]
theorem y7k{gb:G->R Fl}{i:Nat}{Γ:G}(S:Nat->G){ds:List D}(h0:Γ=S 0)(q:∀(j:Nat) (d:D),ds[j]? = some d->gb ((S j).set i (.ro d)) = .ok (.nx (S (j+1)))):z3r gb i ds Γ = .ok (.nx (S ds.length)):=by
 rw[h0];exact y9z S ds q
theorem y5a{gb:G->R Fl}{i:Nat}{Γ:G}(S:Nat->G){lo:Int}{n:Nat}(h0:Γ=S 0)(q:∀(j:Nat),j<n->gb ((S j).set i (.ro (.int (lo+(j:Int))))) = .ok (.nx (S (j+1)))):z3r gb i (z2r lo n) Γ = .ok (.nx (S n)):=by
 rw[y7k S h0,z0o]
 intro j d hd
 have hj:j<n:=by
  have:=(List.getElem?_eq_some_iff.mp hd).1
  rw[z0o] at this;exact this
 rw[z8e lo _ _ hj] at hd
 cases hd
 exact q j hj
theorem y7w(gc:G->R Bool)(gb:G->R Fl)(n:Nat)(Γ:G):whGo gc gb (n+1) Γ=lift (gc Γ) Γ fun k=>if k=true then (match gb Γ with
 | .ok (.nx Γ')=>whGo gc gb n Γ'
 | .ok (.ct Γ')=>whGo gc gb n Γ'
 | .ok (.bk Γ')=>.ok (.nx Γ')
 | .ok (.rt d)=>.ok (.rt d)
 | .ok (.rtF d)=>.ok (.rtF d)
 | .ok (.ex c Γ')=>.ok (.ex c Γ')
 | _=>.no) else .ok (.nx Γ):=rfl
theorem z9d{gc:G->R Bool}{gb:G->R Fl}(I:Nat->G->Prop)(Q:R Fl->Prop)(q:∀m Γ,I m Γ->(gc Γ = .ok false/\Q (.ok (.nx Γ)))∨(gc Γ = .ok true /\
 ((∃Γ' m',m'<m/\(gb Γ = .ok (.nx Γ')∨gb Γ = .ok (.ct Γ'))/\I m' Γ')∨(∃Γ',gb Γ = .ok (.bk Γ')/\Q (.ok (.nx Γ')))∨(∃d,gb Γ = .ok (.rt d)/\Q (.ok (.rt d)))∨(∃d,gb Γ = .ok (.rtF d)/\Q (.ok (.rtF d)))∨(∃c Γ',gb Γ = .ok (.ex c Γ')/\Q (.ok (.ex c Γ')))))) :
 ∀(n m:Nat) (Γ:G),m<n->I m Γ->Q (whGo gc gb n Γ)
 | 0,m,Γ,h,_=>absurd h (Nat.not_lt_zero _)
 | n+1,m,Γ,h,hI=>by
   rw[y7w]
   rcases q m Γ hI with ⟨e,hq⟩ | ⟨e,h2⟩
   ·rw[e,z2k,if_neg Bool.false_ne_true];exact hq
   ·rw[e,z2k,if_pos rfl]
    rcases h2 with ⟨Γ',m',hm,e',h'⟩ | ⟨Γ',e',h'⟩ | ⟨d,e',h'⟩ | ⟨d,e',h'⟩ | ⟨c,Γ',e',h'⟩
    ·rcases e' with e' | e'<;>rw[e']<;>exact z9d I Q q n m' Γ' (by lia) h'
    ·rw[e'];exact h'
    ·rw[e'];exact h'
    ·rw[e'];exact h'
    ·rw[e'];exact h'
noncomputable def ini(n:Nat)(ds:List D):G:=ds.map En.ro++List.replicate (n-ds.length) En.no
noncomputable def fin(r:R Fl):R D:=match r with
 | .ok (.rt d)=>.ok d
 | .ok (.nx _)=>.ok .non
 | .ok (.ex c _)=>.er c
 | _=>.no
noncomputable def finF(r:R Fl):R (List D):=match r with
 | .ok (.rtF d)=>.ok d
 | .ok (.ex c _)=>.er c
 | _=>.no
noncomputable def fnC(p n:Nat)(g:G->R Fl):List D->R D:=fun ds=>if ds.length=p then fin (g (ini n ds)) else .no
theorem z0g{p n:Nat}{g:G->R Fl}{ds:List D}(h:fnC p n g ds ≠ .no):ds.length=p:=by
 unfold fnC at h
 by_cases q:ds.length=p
 ·exact q
 ·rw[if_neg q] at h;exact absurd rfl h
theorem z0z{p n:Nat}{g:G->R Fl}{ds:List D}(h:ds.length=p):fnC p n g ds=fin (g (ini n ds)):=if_pos h
noncomputable def fnF(p n:Nat)(g:G->R Fl):List D->R (List D):=fun ds=>if ds.length=p then finF (g (ini n ds)) else .no
theorem y2j{p n:Nat}{g:G->R Fl}{ds:List D}(h:fnF p n g ds ≠ .no):ds.length=p:=by
 unfold fnF at h
 by_cases q:ds.length=p
 ·exact q
 ·rw[if_neg q] at h;exact absurd rfl h
theorem x0a{p n:Nat}{g:G->R Fl}{ds:List D}(h:ds.length=p):fnF p n g ds=finF (g (ini n ds)):=if_pos h
theorem y2e:((0:Nat):Int)=0:=rfl
theorem y2d:((1:Nat):Int)=1:=rfl
theorem y2c:((2:Nat):Int)=2:=rfl
theorem y2b:((3:Nat):Int)=3:=rfl
theorem y2a:((4:Nat):Int)=4:=rfl
end
noncomputable def dAbs(ds:List D):R D:=match ds with
 | [.int i]=>.ok (.int (if i<0 then -i else i))
 | _=>.no
noncomputable def dInt(ds:List D):R D:=match ds with
 | [.int i]=>.ok (.int i)
 | [.bl b]=>.ok (.int (if b then 1 else 0))
 | _=>.no
noncomputable def bigN:Nat:=10^1200
noncomputable def z6w(i j:Int):Prop:=i.natAbs<bigN/\j.natAbs<bigN
noncomputable instance (i j:Int):Decidable (z6w i j):=by unfold z6w;exact inferInstance
theorem x7p{n:Nat}(h:n<=10^300):n<bigN:=Nat.lt_of_le_of_lt h (Nat.pow_lt_pow_right (by decide) (by decide))
noncomputable def y3p(x y:D):R D:=match x,y with
 | .int i,.int j=>R.guard (z6w i j) (.ok (.int (i*j)))
 | _,_=>.no
noncomputable def D.isNon:D->Bool
 | .non=>true
 | _=>false
noncomputable def gRep(ga:G->R (List D))(gb:G->R D):G->R (List D):=fun Γ=>ga Γ>>=fun xs=>gb Γ>>=fun d=>match d with
 | .int k=>R.guard (0<=k/\k<1000000/\xs.length*k.toNat<=1000) (.ok (List.replicate k.toNat xs).flatten)
 | _=>.no
noncomputable def x0q(n:Int):Nat:=if n==0 then 0 else n.natAbs.log2+1
noncomputable def y7p(d:D):R D:=match d with
 | .int n=>.ok (.int (x0q n))
 | _=>.no
noncomputable def y4y(ga:G->R D):G->R D:=fun Γ=>ga Γ>>=y7p
noncomputable def y0o(x y:D):R D:=match x,y with
 | .int i,.int j=>R.guard (0<j/\j.natAbs<bigN) (.ok (.int (i/j)))
 | _,_=>.no
noncomputable def dShr(x y:D):R D:=match x,y with
 | .int i,.int j=>R.guard (0<=i/\0<=j) (.ok (.int (i/2^j.toNat)))
 | _,_=>.no
noncomputable def y5c(ge:G->R D):D->D->G->R (Option D):=fun d d2 Γ=>ge (.ro d :: .ro d2::Γ)>>=fun e=>.ok (some e)
noncomputable def y1n(gc:G->R Bool)(ge:G->R D):D->D->G->R (Option D):=fun d d2 Γ=>gc (.ro d :: .ro d2::Γ)>>=fun k=>if k=true then ge (.ro d :: .ro d2::Γ)>>=fun e=>.ok (some e) else .ok none
noncomputable def z8h(f:D->D->G->R (Option D))(Γ:G)(d:D):R (Option D):=match d with
 | .tup [a,b]=>f a b Γ
 | _=>.no
noncomputable def z8a(gi:G->R (List D))(f:D->D->G->R (Option D)):G->R (List D):=fun Γ=>gi Γ>>=fun items=>R.guard (items.length<=100000) (z0y (z8h f Γ) items [])
noncomputable def zipD:List D->List D->List D
 | x::xs,y::ys=>.tup [x,y]::zipD xs ys
 | _,_=>[]
noncomputable def gZip(ga gb:G->R D):G->R (List D):=fun Γ=>ga Γ>>=fun a=>gb Γ>>=fun b=>dSeq a>>=fun xs=>dSeq b>>=fun ys=>R.guard (D.noLs xs=true/\D.noLs ys=true) (.ok (zipD xs ys))
noncomputable def z6s:Nat->List D->List D
 | _,[]=>[]
 | k,x::xs=>.tup [.int k,x]::z6s (k+1) xs
noncomputable def y7j(ga:G->R D):G->R (List D):=fun Γ=>ga Γ>>=fun a=>match a with
 | .lst xs=>R.guard (D.noLs xs=true) (.ok (z6s 0 xs))
 | _=>.no
noncomputable def frzAt(i:Nat)(Γ:G):G:=match Γ[i]? with
 | some (.own ds)=>Γ.set i (.ro (.lst ds))
 | _=>Γ
noncomputable def gFrz(i:Nat)(g:G->R Fl):G->R Fl:=fun Γ=>g (frzAt i Γ)
noncomputable def gStP(t u:G->R Fl):G->R Fl:=fun Γ=>match t Γ with
 | .ok (.nx Γ')=>u Γ'
 | _=>.no
noncomputable def z2g:En->Prop
 | .ro d=>d.noL=true
 | .own ds=>D.noLs ds=true
 | .no=>True
noncomputable def z1t(p:Nat)(Γ:G):Prop:=∀(j:Nat) (e:En),j≠p->Γ[j]? = some e->z2g e
noncomputable def z5f(gb:G->R Fl)(i:Nat):List D->G->R Fl
 | [],Γ=>.ok (.nx Γ)
 | d::ds,Γ=>match gb (Γ.set i (.ro d)) with
   | .ok (.nx Γ')=>z5f gb i ds Γ'
   | _=>.no
noncomputable def x2e(p i:Nat)(gi:G->R (List D))(gb:G->R Fl):G->R Fl:=fun Γ=>R.guard (z1t p Γ) (lift (gi (Γ.set p .no)) Γ fun ds=>z5f gb i ds Γ)
noncomputable def z4x(dl:List D)(d:D):Option (List D):=match dl.getLast? with
 | some (.lst ds)=>some (dl.dropLast++[.lst (ds++[d])])
 | _=>none
noncomputable def y7h(p:Nat)(g:G->R D):G->R Fl:=fun Γ=>match Γ[p]?,g Γ with
 | some (.ro (.lst dl)),.ok d=>(match z4x dl d with
   | some dl'=>R.guard (z1t p Γ/\d.noL=true/\∀ds,D.lst ds∈dl->ds.length<=100000) (.ok (.nx (Γ.set p (.ro (.lst dl')))))
   | none=>.no)
 | _,_=>.no
noncomputable def y7g(p:Nat):G->R Fl:=fun Γ=>match Γ[p]? with
 | some (.ro (.lst dl))=>R.guard (z1t p Γ/\dl.length<=100000) (.ok (.nx (Γ.set p (.ro (.lst (dl++[.lst []]))))))
 | _=>.no
noncomputable def y7f(p j:Nat):G->R Fl:=fun Γ=>match Γ[p]? with
 | some (.ro (.lst dl))=>(match dl.getLast? with
   | some (.lst ds)=>R.guard (z1t p Γ/\z1i [.lst ds] = .ok (.tup ds)) (.ok (.nx ((Γ.set p (.ro (.lst dl.dropLast))).set j (.ro (.tup ds)))))
   | _=>.no)
 | _=>.no
noncomputable def y1m(p:Nat)(gm:G->R (D×G)):G->R Fl:=fun Γ=>match Γ[p]?,gm Γ with
 | some (.ro (.lst dl)),.ok (d,Γ1)=>(match z4x dl d with
   | some dl'=>R.guard (Γ1[p]? = some (.ro (.lst dl))/\z1t p Γ1/\d.noL=true/\∀ds,D.lst ds∈dl->ds.length<=100000) (.ok (.nx (Γ1.set p (.ro (.lst dl')))))
   | none=>.no)
 | _,_=>.no
noncomputable def z8l(s:Str)(q k:Nat):G->R (D×G):=fun Γ=>match Γ[q]?,Γ[k]? with
 | some (.own cs),some (.ro t)=>(match cs.getLast? with
   | some c=>R.guard (c.noL=true/\t.noL=true/\D.noLs cs=true) (.ok (.tup [.str s,c,t],Γ.set q (.own cs.dropLast)))
   | none=>.no)
 | _,_=>.no
noncomputable def y9x(p:Nat)(u:G->R Fl):G->R Fl:=fun Γ=>u (Γ.set p (.ro (.lst ([([]:List D)].map D.lst))))
noncomputable def x5c(g:G->R D):G->R (List D):=fun Γ=>g Γ>>=fun d=>match d with
 | .lst ds=>.ok ds.reverse
 | _=>.no
end L3
namespace L3
section
variable {Γ Γ':G}{i:Nat}{g gk:G->R D}{gs:G->R (List D)}{gc:G->R Bool}{t u e gb:G->R Fl}{r:R Fl}{d k:D}{ds:List D}{c:Er}
theorem z8r(h:t Γ = .ok (.nx Γ'))(h2:u Γ'=r):gSt t u Γ=r:=by unfold gSt;rw[h];exact h2
theorem y7s(h:t Γ = .ok (.rt d)):gSt t u Γ = .ok (.rt d):=by unfold gSt;rw[h];rfl
theorem z4s(h:g Γ = .ok d):gSet i g Γ = .ok (.nx (Γ.set i (.ro d))):=by unfold gSet;rw[h];rfl
theorem y9q(h:gs Γ = .ok ds):z3b i gs Γ = .ok (.nx (Γ.set i (.own ds))):=by unfold z3b;rw[h];rfl
theorem x1w(ho:Γ[i]? = some (.own ds))(h:g Γ = .ok d)(hl:ds.length<=100000):gApp i g Γ = .ok (.nx (Γ.set i (.own (ds++[d])))):=by
 unfold gApp;rw[ho];simp only[h,z2k,z0w hl]
theorem x7a{j:Int}{n:Nat}(ho:Γ[i]? = some (.own ds))(h:g Γ = .ok d)(hk:gk Γ = .ok (.int j))(hn:ixN ds.length j=some n):gPut i gk g Γ = .ok (.nx (Γ.set i (.own (ds.set n d)))):=by
 unfold gPut;rw[ho];simp only[h,hk,z2k,hn]
theorem y0h(hc:gc Γ = .ok true)(h:t Γ=r):gIfS gc t u Γ=r:=by unfold gIfS;rw[hc];exact h
theorem x1v(hc:gc Γ = .ok false)(h:u Γ=r):gIfS gc t u Γ=r:=by unfold gIfS;rw[hc];exact h
theorem y5z(hc:gc Γ = .ok false):gIfS gc t z2q Γ = .ok (.nx Γ):=x1v hc rfl
theorem x8i(hi:gs Γ = .ok ds)(h:z3r gb i ds Γ=r):gFor i gs gb Γ=r:=by unfold gFor;rw[hi];exact h
theorem z2l(h:g Γ = .ok d):gRet g Γ = .ok (.rt d):=by unfold gRet;rw[h];rfl
theorem x6z(h:gs Γ = .ok ds):z8n gs Γ = .ok (.rtF ds):=by unfold z8n;rw[h];rfl
theorem l_ex(h:g Γ = .ok d):gEx g Γ = .ok (.nx Γ):=by unfold gEx;rw[h];rfl
theorem z2s(hg:g Γ = .ok d)(h:u (Γ.set i (.ro d))=r):gSt (gSet i g) u Γ=r:=z8r (z4s hg) h
theorem z8q(hg:gs Γ = .ok ds)(h:u (Γ.set i (.own ds))=r):gSt (z3b i gs) u Γ=r:=z8r (y9q hg) h
theorem z3m(hc:gc Γ = .ok false)(h:u Γ=r):gSt (gIfS gc t z2q) u Γ=r:=z8r (y5z hc) h
theorem x3f(hi:gs Γ = .ok ds)(hf:z3r gb i ds Γ = .ok (.nx Γ'))(h:u Γ'=r):gSt (gFor i gs gb) u Γ=r:=z8r (x8i hi hf) h
theorem z1n{p n:Nat}(hl:ds.length=p)(h:t (ini n ds) = .ok (.rt d)):fnC p n t ds = .ok d:=by rw[z0z hl,h];rfl
theorem x3d{p n:Nat}{es:List D}(hl:ds.length=p)(h:t (ini n ds) = .ok (.rtF es)):fnF p n t ds = .ok es:=by rw[x0a hl,h];rfl
noncomputable def Ends(r:R Fl)(I:G->Prop):Prop:=∃Γ',(r = .ok (.nx Γ')∨r = .ok (.ct Γ'))/\I Γ'
theorem Ends.nx{I:G->Prop}{r:R Fl}(h:r = .ok (.nx Γ))(hI:I Γ):Ends r I:=⟨Γ,.inl h,hI⟩
theorem z6v(I:Nat->G->Prop)(hi:gs Γ = .ok ds)(h0:I 0 Γ)(hq:∀(j:Nat) (d:D) (Γ:G),ds[j]? = some d->I j Γ->Ends (gb (Γ.set i (.ro d))) (I (j+1)))(h:∀Γ',I ds.length Γ'->u Γ'=r):gSt (gFor i gs gb) u Γ=r:=by
 obtain⟨Γ',e,h'⟩:=z8b I ds 0 Γ h0 fun j d Γ hd hI=>by rw[Nat.zero_add] at hI ⊢;exact hq j d Γ hd hI
 rw[Nat.zero_add] at h'
 exact x3f hi e (h Γ' h')
end
noncomputable def sumN(f:Nat->Int):Nat->Int
 | 0=>0
 | n+1=>sumN f n+f n
theorem y8b(f:Nat->Int):sumN f 0=0:=rfl
theorem z1p(f:Nat->Int)(n:Nat):sumN f (n+1)=sumN f n+f n:=rfl
theorem z2z{f g:Nat->Int}:∀{n:Nat},(∀i,i<n->f i=g i)->sumN f n=sumN g n
 | 0,_=>rfl
 | n+1,h=>by rw[z1p,z1p,z2z fun i hi=>h i (by lia),h n (by lia)]
theorem y1u(f g:Nat->Int):∀n:Nat,sumN (fun i=>f i+g i) n=sumN f n+sumN g n
 | 0=>rfl
 | n+1=>by rw[z1p,z1p,z1p,y1u f g n];lia
theorem z9m(c:Int)(f:Nat->Int):∀n:Nat,sumN (fun i=>c*f i) n=c*sumN f n
 | 0=>by simp[sumN]
 | n+1=>by rw[z1p,z1p,z9m c f n,Int.mul_add]
theorem y8d(c:Int)(f:Nat->Int)(n:Nat):sumN (fun i=>f i*c) n=sumN f n*c:=by
 rw[z2z (g:=fun i=>c*f i) fun i _=>Int.mul_comm _ _,z9m,Int.mul_comm]
theorem z5k:∀n:Nat,sumN (fun _=>0) n=0
 | 0=>rfl
 | n+1=>by rw[z1p,z5k n];rfl
theorem y2r(f:Nat->Nat->Int)(m:Nat):∀n:Nat,sumN (fun i=>sumN (fun j=>f i j) m) n=sumN (fun j=>sumN (fun i=>f i j) n) m
 | 0=>by simp only[y8b,z5k]
 | n+1=>by
   rw[z1p,y2r f m n,<-y1u]
   rfl
theorem z7d{f:Nat->Int}{k:Nat}:∀{n:Nat},k<n->(∀i,i<n->i≠k->f i=0)->sumN f n=f k
 | 0,h,_=>absurd h (Nat.not_lt_zero _)
 | n+1,h,q=>by
   rw[z1p]
   by_cases e:k=n
   ·subst e
    rw[z2z (g:=fun _=>0) fun i hi=>q i (by lia) (by lia),z5k];lia
   ·rw[z7d (by lia) fun i hi hk=>q i (by lia) hk,q n (by lia) (Ne.symm e)];lia
theorem y8c{f:Nat->Int}{n:Nat}(q:∀i,i<n->f i=0):sumN f n=0:=by
 rw[z2z (g:=fun _=>0) q,z5k]
theorem z9l(f:Nat->Int):∀n:Nat,((List.range n).map f).sum=sumN f n
 | 0=>rfl
 | n+1=>by rw[List.range_succ,List.map_append,List.sum_append,z9l f n,z1p];simp
noncomputable def cg(P a b:Int):Prop:=a%P=b%P
theorem cg.refl{P a:Int}:cg P a a:=rfl
theorem cg.symm{P a b:Int}(h:cg P a b):cg P b a:=Eq.symm h
theorem cg.trans{P a b c:Int}(h:cg P a b)(g:cg P b c):cg P a c:=Eq.trans h g
theorem cg.of_eq{P a b:Int}(h:a=b):cg P a b:=by rw[h];exact cg.refl
theorem y0r{P a:Int}:cg P (a%P) a:=by unfold cg;exact Int.emod_emod_of_dvd a (Int.dvd_refl P)
theorem cg.add{P a b c d:Int}(h:cg P a b)(g:cg P c d):cg P (a+c) (b+d):=by unfold cg at *;rw[Int.add_emod,h,g,<-Int.add_emod]
theorem cg.sub{P a b c d:Int}(h:cg P a b)(g:cg P c d):cg P (a-c) (b-d):=by unfold cg at *;rw[Int.sub_emod,h,g,<-Int.sub_emod]
theorem cg.mul{P a b c d:Int}(h:cg P a b)(g:cg P c d):cg P (a*c) (b*d):=by unfold cg at *;rw[Int.mul_emod,h,g,<-Int.mul_emod]
theorem cg.sumN{P:Int}{f g:Nat->Int}:∀{n:Nat},(∀i,i<n->cg P (f i) (g i))->cg P (L3.sumN f n) (L3.sumN g n)
 | 0,_=>cg.refl
 | n+1,h=>(cg.sumN fun i hi=>h i (by lia)).add (h n (by lia))
theorem cg.eq_of{P a b:Int}(h:cg P a b)(ha:0<=a)(ha':a<P)(hb:0<=b)(hb':b<P):a=b:=by
 unfold cg at h;rw[Int.emod_eq_of_lt ha ha',Int.emod_eq_of_lt hb hb'] at h;exact h
theorem z7m{w P:Int}(h:0<P):0<=w%P:=Int.emod_nonneg _ (by lia)
theorem z7n{w P:Int}(h:0<P):w%P<P:=Int.emod_lt_of_pos _ h
end L3
namespace L3
open PySem
noncomputable section
noncomputable def g_q:G->R Fl :=
 (gSt (gIfS (gT (gBin dLt (gV 1) (z0i dLen (gCons (gV 0) gNil)))) (gRet (gBin dIx (gV 0) (gV 1))) z2q)
 (gRet (gC (.int 0))))
noncomputable def c_q:List D->R D:=fnC 2 2 g_q
noncomputable def g_f:G->R Fl :=
 (gSt (z3b 3 (gLst gNil))
 (gSt (gFor 4 (z5a (gV 2))
 (gSt (gApp 3 (gNL (gBin dMod (gV 0) (gV 1))))
 (gSet 0 (gNL (gBin dDiv (gV 0) (gV 1))))))
 (gRet (z0i z1i (gCons (gV 3) gNil)))))
noncomputable def c_f:List D->R D:=fnC 3 5 g_f
noncomputable def g_on:G->R Fl :=
 (gRet (gBin dMod (gV 1) (gV 0)))
noncomputable def c_on:List D->R D:=fnC 2 2 g_on
noncomputable def g_G:G->R Fl :=
 (gSt (gSet 3 (gNL (z0i dLen (gCons (gV 2) gNil))))
 (gRet (z0i c_on (gCons (gV 0) (gCons (gBin dAdd (z0i dSum (gCons (gL (z2y (z5a (gV 3)) (fElt (gNL (gBin dMul (gBin dIx (gV 2) (gV 0)) (gBin dIx (gV 3) (gV 0))))))) gNil)) (gBin dIx (gV 1) (gV 3))) gNil)))))
noncomputable def c_G:List D->R D:=fnC 3 4 g_G
noncomputable def g_B:G->R Fl :=
 (gRet (z0i z1i (gCons (gL (z2y (z7k (gV 1)) (fElt (gNL (z0i (noEr c_G) (gCons (gV 1) (gCons (gV 0) (gCons (gV 3) gNil)))))))) gNil)))
noncomputable def c_B:List D->R D:=fnC 3 3 g_B
noncomputable def g_l:G->R Fl :=
 (gRet (z0i dSum (gCons (gL (z2y (z5a (z0i dLen (gCons (gV 1) gNil))) (fElt (gNL (gBin dMul (gBin dIx (gV 1) (gV 0)) (gBin dIx (gBin dIx (gV 2) (gV 0)) (gV 3))))))) gNil)))
noncomputable def c_l:List D->R D:=fnC 3 3 g_l
noncomputable def g_m:G->R Fl :=
 (gSt (gSet 3 (gNL (z0i dLen (gCons (gV 1) gNil))))
 (gSt (z3b 4 (z2y (z5a (gBin dAdd (gV 3) (gC (.int 1)))) (fElt (gNL (z0i (noEr c_l) (gCons (gV 3) (gCons (gV 2) (gCons (gV 0) gNil))))))))
 (gSt (gPut 4 (gV 3) (gNL (gBin dAdd (gBin dIx (gV 4) (gV 3)) (gBin dIx (gV 2) (gV 3)))))
 (gRet (z0i z1i (gCons (gL (z2y (z7k (gV 4)) (fElt (gNL (z0i (noEr c_on) (gCons (gV 1) (gCons (gV 0) gNil))))))) gNil))))))
noncomputable def c_m:List D->R D:=fnC 3 5 g_m
noncomputable def g_J:G->R Fl :=
 (gRet (z0i z1i (gCons (gL (z2y (z7k (gV 2)) (fElt (gNL (z0i (noEr c_m) (gCons (gV 1) (gCons (gV 2) (gCons (gV 0) gNil)))))))) gNil)))
noncomputable def c_J:List D->R D:=fnC 3 3 g_J
noncomputable def g_C:G->R Fl :=
 (gRet (z0i z1i (gCons (gL (z2y (z5a (gV 0)) (fElt (gNL (gIf (gT (gBin dEq (gV 0) (gV 2))) (gC (.int 1)) (gC (.int 0))))))) gNil)))
noncomputable def c_C:List D->R D:=fnC 2 2 g_C
noncomputable def g_I:G->R Fl :=
 (gRet (z0i z1i (gCons (gL (z2y (z5a (gV 0)) (fElt (gNL (z0i (noEr c_C) (gCons (gBin dAdd (gV 1) (gC (.int 1))) (gCons (gV 0) gNil))))))) gNil)))
noncomputable def c_I:List D->R D:=fnC 1 1 g_I
noncomputable def g_z:G->R Fl :=
 (gSt (z3b 3 (z6q (z0i c_I (gCons (gV 0) gNil))))
 (gSt (gPut 3 (gV 1) (gNL (z0i z1i (gCons (gV 2) gNil))))
 (gRet (z0i z1i (gCons (gV 3) gNil)))))
noncomputable def c_z:List D->R D:=fnC 3 4 g_z
end
def wkL (e : String) : Lean.MacroM (Lean.TSyntax `tactic) := do let l <- (("L3.fin L3.finF L3.fnC L3.fnF L3.gV L3.gVr L3.gC L3.gNil L3.z2q L3.gSt L3.gSet L3.z3b L3.gNL L3.z0i L3.z6d L3.gCons L3.gRet L3.z8n L3.z9a L3.gEx L3.gUnp L3.setAll L3.gBin L3.gL L3.z2y L3.z5a L3.z8m L3.fElt L3.z6y L3.gT L3.gAnd L3.gNot L3.z7l L3.y0k L3.gNeg L3.dNeg L3.gIf L3.gIfS L3.gTup L3.gLst L3.frz1 L3.gSeq L3.z7k L3.dSeq L3.gFor L3.gApp L3.gPut L3.gIsi L3.dIsi L3.z3w L3.gSl L3.gON L3.gOS L3.dOS L3.dCut L3.gCat L3.z6q L3.y0w L3.D.ty L3.z6e L3.z4c L3.z2k L3.z4h L3.y2f L3.z7y L3.z5r L3.z7x L3.z4g L3.ini L3.dLen L3.z1i L3.dAdd L3.dSub L3.dMul L3.dDiv L3.dMod L3.dPow L3.dLt L3.dLe L3.dGt L3.dGe L3.dEq L3.dNe L3.dIx L3.noEr L3.z8d R.bind_ok R.bind_er R.bind_no L3.z0w L3.z2m L3.z3i Bool.not_true Bool.not_false if_true if_false Bool.false_eq_true beq_self_eq_true ite_true ite_false Int.reduceToNat L3.z0o L3.y2e L3.y2d L3.y2c L3.y2b L3.y2a L3.z1o L3.z3p L3.z5p L3.z5q L3.z4f L3.z4b L3.z7z and_true true_and and_self List.map_cons List.map_nil List.length_cons List.length_nil List.length_map List.length_range List.length_set List.length_append List.length_replicate List.cons_append List.nil_append List.append_assoc List.replicate List.set_cons_zero List.set_cons_succ List.getElem?_cons_zero List.getElem?_cons_succ L3.ints?_map L3.bools?_map L3.z4l L3.z4m L3.z5x L3.z8c Nat.reduceAdd Nat.reduceSub Nat.reduceMul Int.reduceAdd Int.reduceSub Int.reduceMul Int.reduceNeg Int.toNat_natCast L3.z1x L3.z2n L3.z3n L3.z4q L3.z4p L3.z2o Option.map_some Int.add_zero Nat.reduceEqDiff Nat.reduceLeDiff Nat.zero_add Nat.add_zero Nat.sub_zero Nat.sub_self" ++ e).splitOn " ").toArray.mapM fun n => `(Lean.Parser.Tactic.simpLemma| $(Lean.mkIdent n.toName):term); `(tactic| try simp (disch := first | decide | omega | exact z1o _ | exact z3p _ | exact z3e _ | exact z0s _ | exact z3h _ _ | exact z0r (by omega) | exact ⟨z0r (by omega), z0r (by omega)⟩ | exact z3g (by first | assumption | exact z1l (by omega)) | exact z3f (by first | assumption | exact z1l (by omega)) | assumption) only [$l,*])
local macro_rules | `(tactic| walk_at "ev") => wkL ""
noncomputable def z6t(ns:List Int)(k:Int):Int:=(ns[k.toNat]?).getD 0
theorem x5l{ns:List Int}{k:Int}(h0:0<=k)(h:k<(ns.length:Int)):atI (ns.map D.int) k=some (.int (z6t ns k)):=by
 rw[x7q h0,List.getElem?_map]
 unfold z6t
 rw[List.getElem?_eq_getElem (by lia)];rfl
theorem x2k{ns:List Int}{k:Int}(h0:0<=k)(h:¬k<(ns.length:Int)):z6t ns k=0:=by
 unfold z6t
 rw[List.getElem?_eq_none (by lia)];rfl
theorem z8u{ns:List Int}{k:Int}(h0:0<=k):c_q [.lst (ns.map D.int),.int k] = .ok (.int (z6t ns k)):=by
 unfold c_q g_q
 by_cases h:k<(ns.length:Int)
 ·have e1:=x5l h0 h
  have e2:decide (k<(ns.length:Int))=true:=decide_eq_true h
  walk_at "ev"
  simp only[e1,e2]
  walk_at "ev"
 ·have e2:decide (k<(ns.length:Int))=false:=decide_eq_false h
  have e3:=x2k h0 h
  walk_at "ev"
  simp only[e2,e3]
  walk_at "ev"
noncomputable def z2u:D->Bool
 | .int _=>true
 | _=>false
noncomputable def z3s(P:Int):Nat->Int->List Int
 | 0,_=>[]
 | n+1,c=>c%P::z3s P n (c/P)
theorem z5b(P:Int):∀(n:Nat) (c:Int),(z3s P n c).length=n
 | 0,_=>rfl
 | n+1,c=>by rw[z3s,List.length_cons,z5b P n]
noncomputable def onW(P:Int)(ns:List Int):Prop:=∀n∈ns,0<=n/\n<P
theorem z8p{P:Int}(hp:0<P):∀(n:Nat) (c:Int),onW P (z3s P n c)
 | 0,_=>fun x hx=>by simp[z3s] at hx
 | n+1,c=>fun x hx=>by
   rw[z3s] at hx
   rcases List.mem_cons.mp hx with e | e
   ·subst e;exact⟨z7m hp,z7n hp⟩
   ·exact z8p hp n _ x e
noncomputable def divs(P:Int):Nat->Int->Int
 | 0,c=>c
 | n+1,c=>divs P n c/P
noncomputable def digs(P:Int)(n:Nat)(c:Int):List Int:=(List.range n).map fun i=>divs P i c%P
theorem x0h(P:Int)(n:Nat)(c:Int):digs P (n+1) c=digs P n c++[divs P n c%P]:=by
 unfold digs;rw[List.range_succ,List.map_append];rfl
theorem x0g(P:Int):∀(n:Nat) (c:Int),divs P (n+1) c=divs P n (c/P)
 | 0,c=>rfl
 | n+1,c=>by rw[divs,x0g P n c];rfl
theorem x0i(P:Int):∀(n:Nat) (c:Int),digs P n c=z3s P n c
 | 0,c=>rfl
 | n+1,c=>by
   rw[z3s,<-x0i P n (c/P)]
   unfold digs
   rw[List.range_succ_eq_map,List.map_cons,List.map_map]
   congr 1
   apply List.map_congr_left
   intro i _
   show divs P (i+1) c%P=_
   rw[x0g]
theorem z4v{c P n:Int}(h1:0<P)(h2:P<1000000)(h3:0<=n)(h4:n<=20):c_f [.int c,.int P,.int n] = .ok (.tup ((z3s P n.toNat c).map D.int)):=by
 unfold c_f g_f
 walk_at "ev"
 rw[y5a (fun j=>[.ro (.int (divs P j c)),.ro (.int P),.ro (.int n),.own ((digs P j c).map D.int),(match j with | 0=>.no | k+1=>.ro (.int (0+(k:Int))))])]
 ·walk_at "ev"
  rw[x0i]
 ·rfl
 ·intro j hj
  have hl:(digs P j c).length<=100000:=by unfold digs;simp;lia
  walk_at "ev"
  rw[x0h]
  simp[divs]
noncomputable def z4e(n:Int):Bool:=((List.range 98).filterMap fun(i:Nat)=>if 2+(i:Int)<n then some (n%(2+(i:Int))==0) else none).any fun b=>b
theorem z8k(n:Int):z4e n=true↔∃b:Int,2<=b/\b<100/\b<n/\n%b=0:=by
 unfold z4e
 simp only[List.any_eq_true,List.mem_filterMap,List.mem_range]
 constructor
 ·rintro⟨x,⟨i,hi,e⟩,hx⟩
  by_cases q:2+(i:Int)<n
  ·rw[if_pos q] at e;cases e
   exact⟨2+i,by lia,by lia,q,by simpa using hx⟩
  ·rw[if_neg q] at e;cases e
 ·rintro⟨b,h1,h2,h3,h4⟩
  refine⟨true,⟨(b-2).toNat,by lia,?_⟩,rfl⟩
  have e:(2+(((b-2).toNat:Nat):Int))=b:=by lia
  rw[e,if_pos h3,h4];rfl
theorem y3s{f:D->R (Option D)}{lo:Int}{n:Nat}{h:Nat->Option Bool}(q:∀i,i<n->f (.int (lo+(i:Int))) = .ok ((h i).map D.bl)):z0y f (z2r lo n) [] = .ok (((List.range n).filterMap h).map D.bl):=by
 unfold z2r
 rw[y0x (h:=fun i=>(h i).map D.bl) fun i hi=>q i (List.mem_range.mp hi),List.map_filterMap]
theorem x2i{n c:Int}(Γ:G):gT (z0i dAny (gCons (gL (z2y (z8m (gC (.int 2)) (gC (.int 100))) (z6y (gT (gBin dLt (gV 0) (gV 2))) (gNL (gBin dEq (gBin dMod (gV 2) (gV 0)) (gC (.int 0))))))) gNil)) (.ro (.int c) :: .ro (.int n)::Γ) = .ok (z4e n):=by
 walk_at "ev"
 rw[y3s (h:=fun(i:Nat)=>if 2+(i:Int)<n then some (n%(2+(i:Int))==0) else none)]
 ·walk_at "ev";rfl
 ·intro i hi
  walk_at "ev"
  by_cases q:2+(i:Int)<n
  ·simp only[decide_eq_true q,if_pos q]
   walk_at "ev"
  ·simp only[decide_eq_false q,if_neg q]
   rfl
noncomputable def z1h(f s:List Int):Int:=sumN (fun i=>(f[i]?).getD 0*(s[i]?).getD 0) s.length+(f[s.length]?).getD 0
theorem s_on{P n:Int}(h:0<P):c_on [.int P,.int n] = .ok (.int (n%P)):=by
 unfold c_on g_on
 walk_at "ev"
theorem atD{l:List Int}{i:Nat}(h:i<l.length):atI (l.map D.int) (i:Int)=some (.int ((l[i]?).getD 0)):=by
 rw[z3y,List.getElem?_map,List.getElem?_eq_getElem h];rfl
noncomputable def fits(l:List Int):Prop:=∀n∈l,z9b n
theorem y5b{l:List Int}(h:fits l)(i:Nat):z9b ((l[i]?).getD 0):=by
 by_cases q:i<l.length
 ·rw[List.getElem?_eq_getElem q];exact h _ (List.getElem_mem q)
 ·rw[List.getElem?_eq_none (by lia)];exact⟨by decide,by decide⟩
theorem onW.fits{P:Int}{l:List Int}(h:onW P l)(hp:P<18446744073709551616):fits l:=fun n hn=>by
 have:=h n hn
 exact⟨by lia,by lia⟩
theorem s_G{P:Int}{fs ss:List Int}(hp:0<P)(hf:fits fs)(hl:fs.length=ss.length+1)(hn:ss.length<=1000):c_G [.int P,.tup (fs.map D.int),.tup (ss.map D.int)] = .ok (.int (z1h fs ss%P)):=by
 unfold c_G g_G
 walk_at "ev"
 rw[z3x (h:=fun i=>D.int ((fs[i]?).getD 0*(ss[i]?).getD 0))]
 ·have e1:((List.range ss.length).map fun i=>D.int ((fs[i]?).getD 0*(ss[i]?).getD 0))=((List.range ss.length).map fun i=>(fs[i]?).getD 0*(ss[i]?).getD 0).map D.int:=by rw[List.map_map];rfl
  rw[e1]
  have e2:=atD (l:=fs) (i:=ss.length) (by lia)
  walk_at "ev"
  simp only[e2]
  walk_at "ev"
  rw[s_on hp,z9l]
  rfl
 ·intro i hi
  have e1:=atD (l:=fs) (i:=i) (by lia)
  have e2:=atD (l:=ss) (i:=i) (by lia)
  have e3:=y5b hf i
  walk_at "ev"
  simp only[Int.zero_add,e1,e2]
  walk_at "ev"
noncomputable def rowD(r:List Int):D:=.tup (r.map D.int)
theorem z2t(r:List Int):rowD r = .tup (r.map D.int):=rfl
theorem z2e(r:List Int):(rowD r).noL=true:=z3e r
theorem z7v(t:List (List Int)):D.noLs (t.map rowD)=true:=z7w fun r _=>z3e r
theorem z2h(t:List (List Int)):D.noL (.tup (t.map rowD))=true:=by rw[y9i];exact z7v t
theorem z5t(n:Nat)(r:List Int):D.lay (n+1) (rowD r)=true:=z3h n r
theorem x4s(n:Nat)(t:List (List Int)):D.lay (n+2) (.tup (t.map rowD))=true:=by
 rw[z8i,List.all_map,List.all_eq_true];intro x _;exact z3h n x
theorem y5s(r:List Int):D.pl (rowD r)=true:=y8v r
theorem x2t(t:List (List Int)):D.pl (.tup (t.map rowD))=true:=by
 rw[y1i,List.all_map,List.all_eq_true];intro x _;exact y8v x
theorem y0d:∀{a b:List Int},a.map D.int=b.map D.int->a=b
 | [],[],_=>rfl
 | [],_::_,h=>by simp at h
 | _::_,[],h=>by simp at h
 | x::a,y::b,h=>by simp at h;rw[h.1,y0d h.2]
theorem y5o{a b:List Int}(h:rowD a=rowD b):a=b:=y0d (by unfold rowD at h;simpa using h)
theorem y0c:∀{a b:List (List Int)},a.map rowD=b.map rowD->a=b
 | [],[],_=>rfl
 | [],_::_,h=>by simp at h
 | _::_,[],h=>by simp at h
 | x::a,y::b,h=>by simp only[List.map_cons,List.cons.injEq] at h;rw[y5o h.1,y0c h.2]
theorem z6r(a b:List Int):eqD (rowD a) (rowD b)=decide (a=b):=x0f (y5s a) (y5s b) ⟨y5o,fun h=>by rw[h]⟩
theorem z5w(a b:List Int):eqD (.tup (a.map D.int)) (.tup (b.map D.int))=decide (a=b):=z6r a b
theorem x5g(a b:List (List Int)):eqD (.tup (a.map rowD)) (.tup (b.map rowD))=decide (a=b):=x0f (x2t a) (x2t b) ⟨fun h=>y0c (by simpa using h),fun h=>by rw[h]⟩
theorem atT{t:List (List Int)}{i:Nat}(h:i<t.length):atI (t.map rowD) (i:Int)=some (rowD ((t[i]?).getD [])):=by
 rw[z3y,List.getElem?_map,List.getElem?_eq_getElem h];rfl
noncomputable def y4j(P:Int)(n:Nat)(r:List Int):Prop:=onW P r/\r.length=n+1
noncomputable def z3z(P:Int)(n:Nat)(t:List (List Int)):Prop:=t.length=n/\∀r∈t,y4j P n r
noncomputable def z2v(P:Int)(t:List (List Int))(s:List Int):List Int:=t.map fun r=>z1h r s%P
theorem z3v(P:Int)(t:List (List Int))(s:List Int):(z2v P t s).length=t.length:=by unfold z2v;simp
theorem x0z{P:Int}(hp:0<P)(t:List (List Int))(s:List Int):onW P (z2v P t s):=fun n hn=>by
 unfold z2v at hn
 obtain⟨r,_,rfl⟩:=List.mem_map.mp hn
 exact⟨z7m hp,z7n hp⟩
theorem s_B{P:Int}{ts:List (List Int)}{ss:List Int}(hp:0<P)(hp2:P<18446744073709551616)(ht:z3z P ss.length ts)(hn:ss.length<=1000):c_B [.int P,.tup (ts.map rowD),.tup (ss.map D.int)] = .ok (.tup ((z2v P ts ss).map D.int)):=by
 unfold c_B g_B
 have hlt:ts.length<=100000:=by rw[ht.1];lia
 have hnl:=z7v ts
 walk_at "ev"
 rw[z2b (h:=fun r=>D.int (z1h r ss%P))]
 ·walk_at "ev"
  unfold z2v
  rw[List.map_map];rfl
 ·intro r hr
  have q:=ht.2 r hr
  have e1:c_G [D.int P,rowD r,D.tup (ss.map D.int)]=R.ok (D.int (z1h r ss%P)):=s_G hp (q.1.fits hp2) q.2 hn
  rw[e1]
  walk_at "ev"
noncomputable def x8h(c:List D->R D):Prop:=∀ns:List Int,ns.length<=63->c [.lst (ns.map D.int)] = .ok (.bl true)
theorem y0j{α:Type}{l:List α}{i:Nat}{d:α}(h:i<l.length):(l[i]?).getD d=l[i]:=by rw[List.getElem?_eq_getElem h];rfl
noncomputable def z1w(P:Int)(t:List (List Int))(f:List Int):List Int:=(List.range (t.length+1)).map fun place =>
 (sumN (fun x=>(f[x]?).getD 0*(((t[x]?).getD [])[place]?).getD 0) t.length+(if place=t.length then (f[t.length]?).getD 0 else 0))%P
noncomputable def z2w(P:Int)(a b:List (List Int)):List (List Int):=b.map (z1w P a)
theorem y2n(P:Int)(t:List (List Int))(f:List Int):(z1w P t f).length=t.length+1:=by unfold z1w;simp
theorem x0u{P:Int}(hp:0<P)(t:List (List Int))(f:List Int):onW P (z1w P t f):=fun n hn=>by
 unfold z1w at hn
 obtain⟨r,_,rfl⟩:=List.mem_map.mp hn
 exact⟨z7m hp,z7n hp⟩
theorem z4u{P:Int}(hp:0<P){n:Nat}{a b:List (List Int)}(ha:a.length=n)(hb:b.length=n):z3z P n (z2w P a b):=by
 unfold z2w
 refine⟨by rw[List.length_map,hb],fun r hr=>?_⟩
 obtain⟨f,_,rfl⟩:=List.mem_map.mp hr
 exact⟨x0u hp _ _,by rw[y2n,ha]⟩
theorem y4c{P:Int}{t:List (List Int)}{f:List Int}{k:Nat}(h:k<=t.length):((z1w P t f)[k]?).getD 0=(sumN (fun x=>(f[x]?).getD 0*(((t[x]?).getD [])[k]?).getD 0) t.length+(if k=t.length then (f[t.length]?).getD 0 else 0))%P:=by
 unfold z1w
 rw[List.getElem?_map,List.getElem?_range (by lia)];rfl
theorem y4f{P:Int}{t:List (List Int)}{f s:List Int}(hs:s.length=t.length):cg P (z1h (z1w P t f) s) (z1h f (z2v P t s)):=by
 unfold z1h
 rw[z3v,hs]
 have h1:cg P (sumN (fun i=>((z1w P t f)[i]?).getD 0*(s[i]?).getD 0) t.length+((z1w P t f)[t.length]?).getD 0)
  (sumN (fun i=>sumN (fun x=>(f[x]?).getD 0*(((t[x]?).getD [])[i]?).getD 0) t.length*(s[i]?).getD 0) t.length+(sumN (fun x=>(f[x]?).getD 0*(((t[x]?).getD [])[t.length]?).getD 0) t.length+(f[t.length]?).getD 0)):=by
  refine cg.add (cg.sumN fun i hi=>cg.mul ?_ cg.refl) ?_
  ·rw[y4c (by lia),if_neg (by lia),Int.add_zero];exact y0r
  ·rw[y4c (Nat.le_refl _),if_pos rfl];exact y0r
 have h2:cg P (sumN (fun i=>(f[i]?).getD 0*((z2v P t s)[i]?).getD 0) t.length+(f[t.length]?).getD 0)
  (sumN (fun x=>(f[x]?).getD 0*(sumN (fun i=>(((t[x]?).getD [])[i]?).getD 0*(s[i]?).getD 0) t.length+(((t[x]?).getD [])[t.length]?).getD 0)) t.length+(f[t.length]?).getD 0):=by
  refine cg.add (cg.sumN fun x hx=>cg.mul cg.refl ?_) cg.refl
  unfold z2v
  rw[List.getElem?_map,List.getElem?_eq_getElem hx]
  show cg P (z1h t[x] s%P) _
  refine y0r.trans (cg.of_eq ?_)
  unfold z1h
  rw[hs];rfl
 refine h1.trans (cg.trans (cg.of_eq ?_) h2.symm)
 have e1:sumN (fun i=>sumN (fun x=>(f[x]?).getD 0*(((t[x]?).getD [])[i]?).getD 0) t.length*(s[i]?).getD 0) t.length=sumN (fun x=>(f[x]?).getD 0*sumN (fun i=>(((t[x]?).getD [])[i]?).getD 0*(s[i]?).getD 0) t.length) t.length:=by
  rw[z2z (g:=fun i=>sumN (fun x=>(f[x]?).getD 0*((((t[x]?).getD [])[i]?).getD 0*(s[i]?).getD 0)) t.length) fun i _=>by
   rw[<-y8d];exact z2z fun x _=>Int.mul_assoc _ _ _]
  rw[y2r]
  exact z2z fun x _=>z9m _ _ _
 rw[e1,z2z (f:=fun x=>(f[x]?).getD 0*(sumN (fun i=>(((t[x]?).getD [])[i]?).getD 0*(s[i]?).getD 0) t.length+(((t[x]?).getD [])[t.length]?).getD 0)) (g:=fun x=>(f[x]?).getD 0*sumN (fun i=>(((t[x]?).getD [])[i]?).getD 0*(s[i]?).getD 0) t.length+(f[x]?).getD 0*(((t[x]?).getD [])[t.length]?).getD 0) fun x _=>Int.mul_add _ _ _,y1u]
 lia
noncomputable def y4e(n:Nat):List Int:=List.replicate n 0
noncomputable def z5c(n k:Nat):List Int:=(List.range n).map fun i=>if i=k then 1 else 0
theorem z8t(n:Nat):(y4e n).length=n:=by unfold y4e;simp
theorem z4t(n k:Nat):(z5c n k).length=n:=by unfold z5c;simp
theorem x0w(n i:Nat):((y4e n)[i]?).getD 0=0:=by
 unfold y4e
 rw[List.getElem?_replicate];split<;>rfl
theorem z7p{n k i:Nat}(h:i<n):((z5c n k)[i]?).getD 0=if i=k then 1 else 0:=by
 unfold z5c
 rw[List.getElem?_map,List.getElem?_range h];rfl
theorem y0z(f:List Int)(n:Nat):z1h f (y4e n)=(f[n]?).getD 0:=by
 unfold z1h
 rw[z8t,y8c fun i _=>by rw[x0w,Int.mul_zero]];lia
theorem y1a(f:List Int){n k:Nat}(h:k<n):z1h f (z5c n k)=(f[k]?).getD 0+(f[n]?).getD 0:=by
 unfold z1h
 rw[z4t,z7d h fun i hi hk=>by rw[z7p hi,if_neg hk,Int.mul_zero]]
 rw[z7p h,if_pos rfl,Int.mul_one]
theorem y0u{P:Int}{f:List Int}(hp:0<P)(h:onW P f)(k:Nat):0<=(f[k]?).getD 0/\(f[k]?).getD 0<P:=by
 by_cases q:k<f.length
 ·rw[y0j q];exact h _ (List.getElem_mem q)
 ·rw[List.getElem?_eq_none (by lia)];exact⟨by simp,by simpa using hp⟩
theorem y6e{a b:List Int}(hl:a.length=b.length)(h:∀k,k<a.length->(a[k]?).getD 0=(b[k]?).getD 0):a=b:=by
 apply List.ext_getElem hl
 intro k h1 h2
 have:=h k h1
 rw[y0j h1,y0j h2] at this
 exact this
theorem x2f{P:Int}{n:Nat}{f g:List Int}(hp:0<P)(hf:y4j P n f)(hg:y4j P n g)(h0:cg P (z1h f (y4e n)) (z1h g (y4e n)))(h1:∀k,k<n->cg P (z1h f (z5c n k)) (z1h g (z5c n k))):f=g:=by
 have e0:(f[n]?).getD 0=(g[n]?).getD 0:=by
  rw[y0z,y0z] at h0
  exact h0.eq_of (y0u hp hf.1 n).1 (y0u hp hf.1 n).2 (y0u hp hg.1 n).1 (y0u hp hg.1 n).2
 refine y6e (by rw[hf.2,hg.2]) fun k hk=>?_
 rw[hf.2] at hk
 by_cases q:k=n
 ·rw[q];exact e0
 ·have hk':k<n:=by lia
  have h2:=h1 k hk'
  rw[y1a f hk',y1a g hk',e0] at h2
  have h3:=h2.sub (cg.refl (P:=P) (a:=(g[n]?).getD 0))
  rw[show(f[k]?).getD 0+(g[n]?).getD 0-(g[n]?).getD 0=(f[k]?).getD 0 by lia,show(g[k]?).getD 0+(g[n]?).getD 0-(g[n]?).getD 0=(g[k]?).getD 0 by lia] at h3
  exact h3.eq_of (y0u hp hf.1 k).1 (y0u hp hf.1 k).2 (y0u hp hg.1 k).1 (y0u hp hg.1 k).2
theorem turn_J{P:Int}{n:Nat}{a b:List (List Int)}{s:List Int}(ha:a.length=n)(hs:s.length=n):z2v P (z2w P a b) s=z2v P b (z2v P a s):=by
 unfold z2w
 show(b.map (z1w P a)).map (fun r=>z1h r s%P)=b.map fun r=>z1h r (z2v P a s)%P
 rw[List.map_map]
 apply List.map_congr_left
 intro f _
 exact y4f (by rw[hs,ha])
theorem y4h{P:Int}{n:Nat}{a b:List (List Int)}(hp:0<P)(ha:z3z P n a)(hb:z3z P n b)(h:∀s,s.length=n->z2v P a s=z2v P b s):a=b:=by
 apply List.ext_getElem (by rw[ha.1,hb.1])
 intro k h1 h2
 have hw:∀s,s.length=n->cg P (z1h a[k] s) (z1h b[k] s):=fun s hs=>by
  have e:=congrArg (fun l=>(l[k]?).getD 0) (h s hs)
  unfold z2v at e
  simp only[List.getElem?_map,List.getElem?_eq_getElem h1,List.getElem?_eq_getElem h2,Option.map_some,Option.getD_some] at e
  exact e
 exact x2f hp (ha.2 _ (List.getElem_mem h1)) (hb.2 _ (List.getElem_mem h2)) (hw _ (z8t n)) fun j _=>hw _ (z4t n j)
theorem y1c{P:Int}{n:Nat}{a b c:List (List Int)}(hp:0<P)(ha:a.length=n)(hb:b.length=n)(hc:c.length=n):z2w P (z2w P a b) c=z2w P a (z2w P b c):=by
 have h1:=(z4u hp ha hb).1
 have h2:=(z4u hp hb hc).1
 refine y4h hp (z4u hp h1 hc) (z4u hp ha h2) fun s hs=>?_
 rw[turn_J h1 hs,turn_J ha hs,turn_J ha hs,turn_J hb (by rw[z3v,ha])]
noncomputable def z2x(n:Nat):List (List Int):=(List.range n).map fun x=>z5c (n+1) x
theorem z2i(n:Nat):(z2x n).length=n:=by unfold z2x;simp
theorem y2g{P:Int}(hp:1<P)(n:Nat):z3z P n (z2x n):=by
 refine⟨z2i n,fun r hr=>?_⟩
 unfold z2x at hr
 obtain⟨x,_,rfl⟩:=List.mem_map.mp hr
 refine⟨fun z hz=>?_,by rw[z4t]⟩
 unfold z5c at hz
 obtain⟨i,_,rfl⟩:=List.mem_map.mp hz
 split<;>lia
theorem worth_I{n x:Nat}{s:List Int}(h:x<n)(hs:s.length=n):z1h (z5c (n+1) x) s=(s[x]?).getD 0:=by
 unfold z1h
 rw[hs,z7d h fun i hi hk=>by rw[z7p (by lia),if_neg hk,Int.zero_mul],z7p (by lia),if_pos rfl,z7p (by lia),if_neg (by lia)]
 lia
theorem turn_I{P:Int}{n:Nat}{s:List Int}(hs:s.length=n)(ho:onW P s):z2v P (z2x n) s=s:=by
 refine y6e (by rw[z3v,z2i,hs]) fun k hk=>?_
 rw[z3v,z2i] at hk
 have e:((z2v P (z2x n) s)[k]?).getD 0=z1h (z5c (n+1) k) s%P:=by
  unfold z2v z2x
  rw[List.map_map,List.getElem?_map,List.getElem?_range hk];rfl
 rw[e,worth_I hk hs]
 have h2:k<s.length:=by lia
 rw[y0j h2]
 have:=ho _ (List.getElem_mem h2)
 exact Int.emod_eq_of_lt this.1 this.2
theorem y7v{P:Int}{f s:List Int}:cg P (z1h f (s.map (·%P))) (z1h f s):=by
 unfold z1h
 rw[List.length_map]
 refine cg.add (cg.sumN fun i hi=>cg.mul cg.refl ?_) cg.refl
 rw[List.getElem?_map,List.getElem?_eq_getElem hi]
 exact y0r
theorem y5j{P:Int}{t:List (List Int)}{s:List Int}:z2v P t (s.map (·%P))=z2v P t s:=by
 unfold z2v
 exact List.map_congr_left fun r _=>y7v
theorem y6l{P:Int}{n:Nat}{s:List Int}(hp:0<P)(hs:s.length=n):z2v P (z2x n) s=s.map (·%P):=by
 rw[<-y5j,turn_I (by rw[List.length_map,hs])]
 intro z hz
 obtain⟨y,_,rfl⟩:=List.mem_map.mp hz
 exact⟨z7m hp,z7n hp⟩
theorem idle_J{P:Int}{n:Nat}{t:List (List Int)}(hp:1<P)(ht:z3z P n t):z2w P (z2x n) t=t:=by
 refine y4h (by lia) (z4u (by lia) (z2i n) ht.1) ht fun s hs=>?_
 rw[turn_J (z2i n) hs,y6l (by lia) hs,y5j]
theorem then_I{P:Int}{n:Nat}{t:List (List Int)}(hp:1<P)(ht:z3z P n t):z2w P t (z2x n)=t:=by
 refine y4h (by lia) (z4u (by lia) ht.1 (z2i n)) ht fun s hs=>?_
 rw[turn_J ht.1 hs,turn_I (by rw[z3v,ht.1]) (x0z (by lia) _ _)]
local macro_rules | `(tactic| walk_at "evs") => wkL " L3.z8u L3.z4v L3.s_on L3.z2u"
theorem z4r{α:Type}(l:List α)(f:α->Int):l.map (fun x=>D.int (f x))=(l.map f).map D.int:=by rw[List.map_map];rfl
theorem y0b{α:Type}(l:List α)(f:α->List Int):l.map (fun x=>rowD (f x))=(l.map f).map rowD:=by rw[List.map_map];rfl
theorem x5u{P:Int}{n k:Nat}{t:List (List Int)}(ht:z3z P n t)(hk:k<n):y4j P n ((t[k]?).getD []):=by
 rw[y0j (by rw[ht.1];exact hk)]
 exact ht.2 _ (List.getElem_mem _)
theorem s_l{P:Int}{n k:Nat}{f:List Int}{t:List (List Int)}(hf:fits f)(hl:n<=f.length)(ht:z3z P n t)(hn:n<=1000)(hk:k<=n):c_l [.tup (f.map D.int),.tup (t.map rowD),.int k] = .ok (.int (sumN (fun x=>(f[x]?).getD 0*(((t[x]?).getD [])[k]?).getD 0) n)):=by
 refine z1n rfl ?_
 delta g_l
 refine z2l ?_
 have htl:=ht.1
 walk_at "evs"
 rw[z3x (h:=fun x=>D.int ((f[x]?).getD 0*(((t[x]?).getD [])[k]?).getD 0)),z4r]
 ·walk_at "evs"
  rw[z9l,htl]
 ·intro x hx
  have hr:=x5u ht (k:=x) (by lia)
  have e1:=atD (l:=f) (i:=x) (by lia)
  have e2:=atT (t:=t) (i:=x) (by lia)
  have e3:=atD (l:=(t[x]?).getD []) (i:=k) (by rw[hr.2];lia)
  have e4:=y5b hf x
  walk_at "evs"
  simp only[Int.zero_add,e1,e2]
  walk_at "evs"
  simp only[z2t,e3]
  walk_at "evs"
theorem s_m{P:Int}{n:Nat}{f:List Int}{t:List (List Int)}(hp:0<P)(hp2:P<1000000)(hf:y4j P n f)(ht:z3z P n t)(hn:n<=100):c_m [.int P,.tup (t.map rowD),.tup (f.map D.int)] = .ok (rowD (z1w P t f)):=by
 have htl:=ht.1
 refine z1n rfl ?_
 delta g_m
 refine z2s (d:=.int n) (by walk_at "evs";rw[htl]) ?_
 refine z8q (ds:=((List.range (n+1)).map fun k=>sumN (fun x=>(f[x]?).getD 0*(((t[x]?).getD [])[k]?).getD 0) n).map D.int) ?_ ?_
 ·walk_at "evs"
  rw[show((n:Int)+1).toNat=n+1 by lia,z3x (h:=fun k=>D.int (sumN (fun x=>(f[x]?).getD 0*(((t[x]?).getD [])[k]?).getD 0) n)),z4r]
  intro k hk
  have e:=s_l (f:=f) (k:=k) (hf.1.fits (by lia)) (by rw[hf.2];lia) ht (by lia) (by lia)
  walk_at "evs"
  simp only[Int.zero_add,e]
  walk_at "evs"
 have e1:=atD (l:=f) (i:=n) (by rw[hf.2];lia)
 have e2:=atD (l:=(List.range (n+1)).map fun k=>sumN (fun x=>(f[x]?).getD 0*(((t[x]?).getD [])[k]?).getD 0) n) (i:=n) (by simp)
 have e3:((((List.range (n+1)).map fun k=>sumN (fun x=>(f[x]?).getD 0*(((t[x]?).getD [])[k]?).getD 0) n)[n]?).getD 0)=sumN (fun x=>(f[x]?).getD 0*(((t[x]?).getD [])[n]?).getD 0) n:=by
  rw[List.getElem?_map,List.getElem?_range (by lia)];rfl
 rw[e3] at e2
 generalize hL:((List.range (n+1)).map fun k=>sumN (fun x=>(f[x]?).getD 0*(((t[x]?).getD [])[k]?).getD 0) n)=L at *
 have hLl:L.length=n+1:=by rw[<-hL];simp
 refine z8r (x7a (ds:=L.map D.int) (j:=n) (n:=n) (d:=.int (sumN (fun x=>(f[x]?).getD 0*(((t[x]?).getD [])[n]?).getD 0) n+(f[n]?).getD 0)) ?_ ?_ ?_ ?_) ?_
 ·rfl
 ·walk_at "evs"
  simp only[e1,e2]
  walk_at "evs"
 ·walk_at "evs"
 ·rw[List.length_map,hLl]
  unfold ixN
  rw[if_pos (by lia),if_pos (by lia)];simp
 refine z2l ?_
 have e4:(L.map D.int).set n (.int (sumN (fun x=>(f[x]?).getD 0*(((t[x]?).getD [])[n]?).getD 0) n+(f[n]?).getD 0))=((List.range (n+1)).map fun k=>D.int (sumN (fun x=>(f[x]?).getD 0*(((t[x]?).getD [])[k]?).getD 0) n+(if k=n then (f[n]?).getD 0 else 0))):=by
  rw[<-hL]
  apply List.ext_getElem (by simp)
  intro k h1 h2
  rw[List.getElem_set]
  by_cases q:n=k
  ·subst q;simp
  ·rw[if_neg q];simp[Ne.symm q]
 walk_at "evs"
 rw[e4]
 have e5:D.noLs ((List.range (n+1)).map fun k=>D.int (sumN (fun x=>(f[x]?).getD 0*(((t[x]?).getD [])[k]?).getD 0) n+(if k=n then (f[n]?).getD 0 else 0)))=true:=z7w fun _ _=>z1o _
 rw[z0w e5]
 walk_at "evs"
 rw[z2b (h:=fun k=>D.int ((sumN (fun x=>(f[x]?).getD 0*(((t[x]?).getD [])[k]?).getD 0) n+(if k=n then (f[n]?).getD 0 else 0))%P))]
 ·walk_at "evs"
  unfold z1w
  rw[htl]
  unfold rowD
  rw[List.map_map];rfl
 ·intro k hk
  walk_at "evs"
theorem s_J{P:Int}{n:Nat}{a b:List (List Int)}(hp:0<P)(hp2:P<1000000)(ha:z3z P n a)(hb:z3z P n b)(hn:n<=100):c_J [.int P,.tup (a.map rowD),.tup (b.map rowD)] = .ok (.tup ((z2w P a b).map rowD)):=by
 refine z1n rfl ?_
 delta g_J
 refine z2l ?_
 have h1:=z7v b
 have h2:b.length<=100000:=by rw[hb.1];lia
 walk_at "evs"
 rw[z2b (h:=fun f=>rowD (z1w P a f))]
 ·walk_at "evs"
  unfold z2w
  rw[List.map_map];rfl
 ·intro f hf
  have e:=s_m hp hp2 (hb.2 f hf) ha hn
  have e2:=z2e (z1w P a f)
  walk_at "evs"
  simp only[z2t f,e]
  walk_at "evs"
theorem s_C{n x:Nat}(hn:n<=1000):c_C [.int n,.int x] = .ok (rowD (z5c n x)):=by
 refine z1n rfl ?_
 delta g_C
 refine z2l ?_
 walk_at "evs"
 rw[z3x (h:=fun i=>D.int (if i=x then 1 else 0)),z4r]
 ·walk_at "evs";rfl
 ·intro i hi
  walk_at "evs"
  by_cases q:i=x
  ·subst q
   have e:((0:Int)+(i:Int)==(i:Int))=true:=by simp
   simp only[e]
   walk_at "evs"
  ·have e:((0:Int)+(i:Int)==(x:Int))=false:=by simp;lia
   simp only[e,if_neg q]
   walk_at "evs"
theorem s_I{n:Nat}(hn:n<=100):c_I [.int n] = .ok (.tup ((z2x n).map rowD)):=by
 refine z1n rfl ?_
 delta g_I
 refine z2l ?_
 walk_at "evs"
 rw[z3x (h:=fun x=>rowD (z5c (n+1) x)),y0b]
 ·walk_at "evs";rfl
 ·intro x hx
  have e:=s_C (n:=n+1) (x:=x) (by lia)
  rw[show(((n+1:Nat):Int))=(n:Int)+1 by lia] at e
  have e2:=z2e (z5c (n+1) x)
  walk_at "evs"
  simp only[Int.zero_add,e]
  walk_at "evs"
noncomputable def tabD(t:List (List Int)):D:=.tup (t.map rowD)
theorem z5o(t:List (List Int)):(tabD t).noL=true:=z2h t
theorem y3f(l:List (List (List Int))):D.noLs (l.map tabD)=true:=z7w fun t _=>z2h t
theorem z5s(n:Nat)(t:List (List Int)):D.lay (n+2) (tabD t)=true:=x4s n t
theorem z5v(a b:List (List Int)):eqD (tabD a) (tabD b)=decide (a=b):=x5g a b
theorem z9p{lo:Int}{n j:Nat}{d:D}(h:(z2r lo n)[j]? = some d):j<n/\d = .int (lo+(j:Int)):=by
 have hj:j<n:=by
  have:=(List.getElem?_eq_some_iff.mp h).1
  rw[z0o] at this;exact this
 rw[z8e lo _ _ hj] at h
 cases h;exact⟨hj,rfl⟩
end L3
namespace L3
open PySem
local macro_rules | `(tactic| walk_at "evs") => wkL " L3.z8u L3.z4v L3.s_on L3.z2u L3.z5o L3.z5s L3.z5v L3.z5t L3.z6r L3.z5w L3.z2e"
theorem x5d(k:Nat):(List.replicate k [D.int 0]).flatten=(List.replicate k (0:Int)).map D.int:=by
 induction k with
 | zero=>rfl
 | succ k ih=>rw[List.replicate_succ,List.flatten_cons,ih,List.replicate_succ,List.map_cons];rfl
theorem s_z{n x:Nat}{f:List Int}(hn:n<=100)(hx:x<n):c_z [.int n,.int x,rowD f] = .ok (tabD ((z2x n).set x f)):=by
 refine z1n rfl ?_
 delta g_z
 have e:=s_I hn
 have hnl:=z7v (z2x n)
 refine z8q (ds:=(z2x n).map rowD) (by walk_at "evs";simp only[e];walk_at "evs") ?_
 refine z8r (x7a (ds:=(z2x n).map rowD) (j:=x) (n:=x) (d:=rowD f) rfl (by simp only[z2t];walk_at "evs") (by walk_at "evs") ?_) ?_
 ·rw[List.length_map,z2i]
  unfold ixN
  rw[if_pos (by lia),if_pos (by lia)];simp
 refine z2l ?_
 walk_at "evs"
 unfold tabD
 rw[List.map_set]
noncomputable section
end
noncomputable section
noncomputable def g_E:G->R Fl :=
 (gSt (z3b 3 (gLst gNil))
 (gSt (gSet 4 (gNL (gV 1)))
 (gSt (gFor 5 (z5a (y4y (gV 2)))
 (gSt (gApp 3 (gNL (gV 4)))
 (gSet 4 (gNL (z0i c_J (gCons (gV 0) (gCons (gV 4) (gCons (gV 4) gNil))))))))
 (z9a 3))))
noncomputable def c_E:List D->R (List D):=fnF 3 6 g_E
noncomputable def g_r:G->R Fl :=
 (z8n (z8a (y7j (gV 0)) (y1n (gT (gBin dEq (gBin dMod (gBin dShr (gV 3) (gV 0)) (gC (.int 2))) (gC (.int 1)))) (gNL (gV 1)))))
noncomputable def c_r:List D->R (List D):=fnF 2 2 g_r
noncomputable def g_D:G->R Fl :=
 (gSt (gSet 3 (gNL (z0i c_I (gCons (z0i dLen (gCons (gV 1) gNil)) gNil))))
 (gSt (gFor 4 (gSeq (gL (z6d c_r (gCons (gL (z6d c_E (gCons (gV 0) (gCons (gV 1) (gCons (gV 2) gNil))))) (gCons (gV 2) gNil)))))
 (gSet 3 (gNL (z0i c_J (gCons (gV 0) (gCons (gV 3) (gCons (gV 4) gNil)))))))
 (gRet (gV 3))))
noncomputable def c_D:List D->R D:=fnC 3 5 g_D
noncomputable def g_v(rec_v:List D->R D)(rec_a:List D->R D):G->R Fl :=
 (gSt (gSet 3 (gNL (z0i c_I (gCons (gV 1) gNil))))
 (gSt (gFor 4 (gSeq (gVr 2))
 (gSet 3 (gNL (z0i c_J (gCons (gV 0) (gCons (gV 3) (gCons (z0i rec_a (gCons (gV 0) (gCons (gV 1) (gCons (gV 4) gNil)))) gNil)))))))
 (gRet (gV 3))))
noncomputable def g_a(rec_v:List D->R D)(rec_a:List D->R D):G->R Fl :=
 (gSt (gIfS (gT (gBin dEq (gBin dIx (gV 2) (gC (.int 0))) (gC (.str "set")))) (gRet (z0i c_z (gCons (gV 1) (gCons (gBin dIx (gV 2) (gC (.int 1))) (gCons (gBin dIx (gV 2) (gC (.int 2))) gNil))))) z2q)
 (gRet (z0i c_D (gCons (gV 0) (gCons (z0i rec_v (gCons (gV 0) (gCons (gV 1) (gCons (gBin dIx (gV 2) (gC (.int 2))) gNil)))) (gCons (gBin dIx (gV 2) (gC (.int 1))) gNil))))))
mutual
noncomputable def c_v:Nat->List D->R D
 | 0=>fun _=>.no
 | n+1=>fnC 3 5 (g_v (c_v n) (c_a n))
noncomputable def c_a:Nat->List D->R D
 | 0=>fun _=>.no
 | n+1=>fnC 3 3 (g_a (c_v n) (c_a n))
end
noncomputable def g_H:G->R Fl :=
 (gRet (z0i c_B (gCons (gV 0) (gCons (z0i c_D (gCons (gV 0) (gCons (z0i (c_v 12) (gCons (gV 0) (gCons (gV 1) (gCons (gV 2) gNil)))) (gCons (gV 3) gNil)))) (gCons (gV 4) gNil)))))
noncomputable def c_H:List D->R D:=fnC 5 5 g_H
end
inductive Item where
 | set (x:Int) (f:List Int)
 | again (n:Int) (its:List Item)
mutual
noncomputable def Item.d:Item->D
 | .set x f=>.tup [.str "set",.int x,rowD f]
 | .again n its=>.tup [.str "again",.int n,.tup (Item.ds its)]
noncomputable def Item.ds:List Item->List D
 | []=>[]
 | a::r=>a.d::Item.ds r
end
theorem Item.ds_map:∀its:List Item,Item.ds its=its.map Item.d
 | []=>rfl
 | a::r=>by rw[Item.ds,Item.ds_map r];rfl
mutual
noncomputable def Item.deep:Item->Nat
 | .set _ _=>0
 | .again _ its=>1+Item.deeps its
noncomputable def Item.deeps:List Item->Nat
 | []=>0
 | a::r=>max a.deep (Item.deeps r)
end
mutual
noncomputable def Item.many:Item->Nat
 | .set _ _=>1
 | .again _ its=>1+Item.manys its
noncomputable def Item.manys:List Item->Nat
 | []=>0
 | a::r=>a.many+Item.manys r
end
mutual
noncomputable def Item.ok(P many:Int):Item->Prop
 | .set x f=>0<=x/\x<many/\(f.length:Int)=many+1/\onW P f
 | .again n its=>0<=n/\n<=10^30/\Item.oks P many its
noncomputable def Item.oks(P many:Int):List Item->Prop
 | []=>True
 | a::r=>a.ok P many/\Item.oks P many r
end
theorem Item.oks_iff{P many:Int}:∀{its:List Item},Item.oks P many its↔∀a∈its,a.ok P many
 | []=>by simp[Item.oks]
 | a::r=>by simp[Item.oks,Item.oks_iff (its:=r)]
theorem Item.deeps_le{k:Nat}:∀{its:List Item},Item.deeps its<=k↔∀a∈its,a.deep<=k
 | []=>by simp[Item.deeps]
 | a::r=>by
   have:=Item.deeps_le (k:=k) (its:=r)
   simp only[Item.deeps,List.mem_cons,forall_eq_or_imp,<-this]
   lia
theorem Item.manys_append:∀{a b:List Item},Item.manys (a++b)=Item.manys a+Item.manys b
 | [],b=>by simp[Item.manys]
 | x::a,b=>by simp[Item.manys,Item.manys_append (a:=a)];lia
theorem Item.many_pos:∀a:Item,0<a.many
 | .set _ _=>by simp[Item.many]
 | .again _ _=>by simp[Item.many];lia
theorem Item.manys_length:∀its:List Item,its.length<=Item.manys its
 | []=>Nat.le_refl _
 | a::r=>by have:=a.many_pos;have:=Item.manys_length r;simp only[Item.manys,List.length_cons];lia
mutual
theorem Item.noL:∀a:Item,a.d.noL=true
 | .set x f=>by
   have:=z2e f
   simp[Item.d,D.noL,D.noLs,this]
 | .again n its=>by
   have:=Item.noLs its
   simp[Item.d,D.noL,D.noLs,this]
theorem Item.noLs:∀its:List Item,D.noLs (Item.ds its)=true
 | []=>rfl
 | a::r=>by
   have h1:=Item.noL a
   have h2:=Item.noLs r
   simp[Item.ds,D.noLs,h1,h2]
end
theorem Item.noLs'(its:List Item):D.noLs (its.map Item.d)=true:=by rw[<-Item.ds_map];exact Item.noLs its
theorem forI{gb:G->R Fl}{i:Nat}{ds:List D}{Γ:G}(I:Nat->G->Prop)(h0:I 0 Γ)(hq:∀(j:Nat) (d:D) (Γ:G),ds[j]? = some d->I j Γ->Ends (gb (Γ.set i (.ro d))) (I (j+1))):∃Γ',z3r gb i ds Γ = .ok (.nx Γ')/\I ds.length Γ':=by
 obtain⟨Γ',e,h'⟩:=z8b I ds 0 Γ h0 fun j d Γ hd hI=>by rw[Nat.zero_add] at hI ⊢;exact hq j d Γ hd hI
 rw[Nat.zero_add] at h'
 exact⟨Γ',e,h'⟩
theorem x0o{gs:G->R (List D)}{gb u:G->R Fl}{i:Nat}{ds:List D}{Γ:G}(T:R Fl->Prop)(I:Nat->G->Prop)(hi:gs Γ = .ok ds)(h0:I 0 Γ)(hq:∀(j:Nat) (d:D) (Γ:G),ds[j]? = some d->I j Γ->Ends (gb (Γ.set i (.ro d))) (I (j+1)))(h:∀Γ',I ds.length Γ'->T (u Γ')):T (gSt (gFor i gs gb) u Γ):=by
 obtain⟨Γ',e,h'⟩:=forI I h0 hq
 rw[x3f hi e rfl];exact h Γ' h'
theorem y8e:((Str.ofString "set")==(Str.ofString "again"))=false:=by decide +kernel
theorem y8f:((Str.ofString "again")==(Str.ofString "set"))=false:=by decide +kernel
theorem y4w(n:Nat):D.lay n (.str (Str.ofString "set"))=true:=by rw[y0f];decide +kernel
theorem y0g(n:Nat):D.lay n (.str (Str.ofString "again"))=true:=by rw[y0f];decide +kernel
theorem Item.many_mem:∀{its:List Item} {a:Item},a∈its->a.many<=Item.manys its
 | b::r,a,h=>by
   rcases List.mem_cons.mp h with rfl | h
   ·simp only[Item.manys];lia
   ·have:=Item.many_mem h
    simp only[Item.manys];lia
noncomputable def powZ(P:Int)(n:Nat)(t:List (List Int)):Nat->List (List Int)
 | 0=>z2x n
 | k+1=>z2w P (powZ P n t k) t
section
variable {P:Int}{n:Nat}{t:List (List Int)}
theorem z3q(hp:1<P)(ht:z3z P n t):∀k,z3z P n (powZ P n t k)
 | 0=>y2g hp n
 | k+1=>z4u (by lia) (z3q hp ht k).1 ht.1
theorem x1h(hp:1<P)(ht:z3z P n t):powZ P n t 1=t:=idle_J hp ht
theorem y1z(hp:1<P)(ht:z3z P n t)(a:Nat):∀b,powZ P n t (a+b)=z2w P (powZ P n t a) (powZ P n t b)
 | 0=>(then_I hp (z3q hp ht a)).symm
 | b+1=>by
   show z2w P (powZ P n t (a+b)) t=z2w P (powZ P n t a) (z2w P (powZ P n t b) t)
   rw[y1z hp ht a b,y1c (by lia) (z3q hp ht a).1 (z3q hp ht b).1 ht.1]
theorem y1h(hp:1<P)(ht:z3z P n t)(k:Nat):z2w P (powZ P n t k) (powZ P n t k)=powZ P n t (2*k):=by
 rw[<-y1z hp ht,Nat.two_mul]
end
end L3
namespace L3
open PySem
local macro_rules | `(tactic| walk_at "evs") => wkL " L3.z8u L3.z4v L3.s_on L3.z2u L3.z5o L3.z5s L3.z5v L3.z5t L3.z6r L3.z5w L3.z2e L3.dAbs L3.dInt L3.y3p L3.y4y L3.y7p L3.y0o"
noncomputable def figZ(n:Nat):Nat:=if n=0 then 0 else n.log2+1
theorem y3k{n j:Nat}:j<figZ n↔2^j<=n:=by
 unfold figZ
 by_cases h:n=0
 ·rw[if_pos h,h]
  have:0<2^j:=Nat.two_pow_pos j
  lia
 ·rw[if_neg h,Nat.lt_succ_iff,Nat.le_log2 h]
theorem x0c{n k:Nat}(h:n<2^k):figZ n<=k:=by
 rcases Nat.lt_or_ge k (figZ n) with z | z
 ·have:=y3k.mp z
  lia
 ·exact z
theorem y2i{n j:Nat}:0<n/2^j↔2^j<=n:=by
 have h:=Nat.two_pow_pos j
 rw[Nat.div_pos_iff]
 lia
noncomputable def z6x(P:Int)(m:Nat)(t:List (List Int))(n:Nat):List (List (List Int)):=(List.range n).map fun j=>powZ P m t (2^j)
theorem y6t(P:Int)(m:Nat)(t:List (List Int))(n:Nat):z6x P m t (n+1)=z6x P m t n++[powZ P m t (2^n)]:=by
 unfold z6x;rw[List.range_succ,List.map_append];rfl
theorem x2o(n:Nat):x0q (n:Int)=figZ n:=by
 unfold x0q figZ
 by_cases h:n=0
 ·subst h;rfl
 ·rw[if_neg h,Int.natAbs_natCast,if_neg]
  intro z
  have:(n:Int)=0:=by simpa using z
  lia
theorem s_E{P:Int}{m n:Nat}{t:List (List Int)}(p1:3<=P)(p2:P<=9973)(hm:m<=3)(ht:z3z P m t)(hn:n<2^150):c_E [.int P,tabD t,.int n] = .ok ((z6x P m t (figZ n)).map tabD):=by
 refine x3d rfl ?_
 delta g_E
 have hp:1<P:=by lia
 have hF:=x0c hn
 refine z8q (ds:=[]) (by walk_at "evs") ?_
 refine z2s (d:=tabD (powZ P m t (2^0))) (by rw[Nat.pow_zero,x1h hp ht];walk_at "evs") ?_
 refine z6v (ds:=z2r 0 (figZ n)) (fun j Γ=>∃x5,Γ=[.ro (.int P),.ro (tabD t),.ro (.int n),.own ((z6x P m t j).map tabD),.ro (tabD (powZ P m t (2^j))),x5]) ?_ ⟨_,rfl⟩ ?_ ?_
 ·walk_at "evs"
  rw[x2o]
  walk_at "evs"
 ·rintro j d Γ hd ⟨x5,rfl⟩
  obtain⟨hj,rfl⟩:=z9p hd
  have hl:((z6x P m t j).map tabD).length<=200:=by unfold z6x;rw[List.length_map,List.length_map,List.length_range];lia
  have eth:=s_J (P:=P) (n:=m) (by lia) (by lia) (z3q hp ht (2^j)) (z3q hp ht (2^j)) (by lia)
  rw[y1h hp ht] at eth
  refine .nx (z8r (x1w (d:=tabD (powZ P m t (2^j))) rfl (by walk_at "evs") (by lia)) ((z4s (d:=tabD (powZ P m t (2^(j+1)))) ?_).trans ?_)) ⟨.ro (.int (0+(j:Int))),rfl⟩
  ·walk_at "evs"
   simp only[tabD,eth,Nat.pow_succ,Nat.mul_comm _ 2]
   have:=z2h (powZ P m t (2*2^j))
   walk_at "evs"
  ·rw[y6t,List.map_append]
   rfl
 ·rintro Γ ⟨x5,rfl⟩
  rw[z0o]
  walk_at "evs"
theorem x1q(n j:Nat):n%2^(j+1)=n%2^j+(n/2^j%2)*2^j:=by
 rw[Nat.pow_succ,Nat.mod_mul,Nat.mul_comm (2^j)]
theorem x5e(n:Nat):n%2^figZ n=n:=Nat.mod_eq_of_lt (by
 rcases Nat.lt_or_ge n (2^figZ n) with z | z
 ·exact z
 ·exact absurd (y3k.mpr z) (Nat.lt_irrefl _))
noncomputable def z9w(n j:Nat):Bool:=n/2^j%2==1
noncomputable def twos(n k:Nat):List Nat:=(List.range k).filter (z9w n)
noncomputable def z5d:List Nat->Nat
 | []=>0
 | j::js=>2^j+z5d js
theorem z5j:∀(a b:List Nat),z5d (a++b)=z5d a+z5d b
 | [],b=>(Nat.zero_add _).symm
 | j::a,b=>by rw[List.cons_append,z5d,z5d,z5j a b,Nat.add_assoc]
theorem y5i(n:Nat):∀k,z5d (twos n k)=n%2^k
 | 0=>by rw[Nat.pow_zero,Nat.mod_one];rfl
 | k+1=>by
   have h:twos n (k+1)=twos n k++(if z9w n k then [k] else []):=by
    unfold twos
    rw[List.range_succ,List.filter_append]
    cases q:z9w n k<;>simp[q]
   rw[h,z5j,y5i n k,x1q]
   have w:n/2^k%2=0∨n/2^k%2=1:=by lia
   rcases w with w | w
   ·have:z9w n k=false:=by unfold z9w;rw[w];rfl
    rw[this,w,Nat.zero_mul];rfl
   ·have:z9w n k=true:=by unfold z9w;rw[w];rfl
    rw[this,w,Nat.one_mul];rfl
noncomputable def y4p(p:Nat->Bool):Nat->List D->List D
 | _,[]=>[]
 | k,x::xs=>if p k=true then x::y4p p (k+1) xs else y4p p (k+1) xs
theorem y0q{f:D->D->G->R (Option D)}{Γ:G}(p:Nat->Bool):∀(xs:List D) (k:Nat) (acc:List D),(∀j x,xs[j]? = some x->f (.int ((k+j:Nat):Int)) x Γ = .ok (if p (k+j)=true then some x else none)) ->
 z0y (z8h f Γ) (z6s k xs) acc = .ok (acc++y4p p k xs)
 | [],k,acc,_=>by rw[z6s,y4p,List.append_nil];rfl
 | x::xs,k,acc,h=>by
   have h0:=h 0 x rfl
   have ih:=fun acc=>y0q p xs (k+1) acc (fun j y hy=>by
    have:=h (j+1) y hy
    rw[show k+1+j=k+(j+1) by lia];exact this)
   rw[z6s,z7o,show z8h f Γ (.tup [.int (k:Int),x])=f (.int (k:Int)) x Γ from rfl,show f (.int (k:Int)) x Γ=_ from h0]
   rw[Nat.add_zero,y4p]
   by_cases q:p k=true
   ·rw[if_pos q,if_pos q]
    show z0y (z8h f Γ) (z6s (k+1) xs) (acc++[x])=_
    rw[ih,List.append_assoc];rfl
   ·rw[if_neg q,if_neg q]
    exact ih acc
theorem z9s(p:Nat->Bool)(F:Nat->D):∀(l s:Nat),y4p p s ((List.range' s l).map F)=((List.range' s l).filter p).map F
 | 0,s=>rfl
 | l+1,s=>by
   rw[List.range'_succ,List.map_cons,y4p,z9s p F l (s+1),List.filter_cons]
   by_cases q:p s=true
   ·rw[if_pos q,if_pos q,List.map_cons]
   ·rw[if_neg q,if_neg q]
theorem y8p(P:Int)(m:Nat)(t:List (List Int))(k:Nat):(z6x P m t k).map tabD=(List.range k).map fun j=>tabD (powZ P m t (2^j)):=by
 unfold z6x;rw[List.map_map];rfl
theorem z8w:∀(k:Nat) (xs:List D),(z6s k xs).length=xs.length
 | _,[]=>rfl
 | k,a::xs=>by rw[z6s,List.length_cons,z8w (k+1) xs,List.length_cons]
theorem s_r{P:Int}{m n k:Nat}{t:List (List Int)}(hk:k<=1000):c_r [.lst ((z6x P m t k).map tabD),.int n] = .ok ((twos n k).map fun j=>tabD (powZ P m t (2^j))):=by
 refine x3d rfl (x6z ?_)
 have nt:=y3f (z6x P m t k)
 have hl:((z6x P m t k).map tabD).length=k:=by unfold z6x;simp
 show(y7j (gV 0) _>>=fun items=>R.guard _ _)=_
 have e1:y7j (gV 0) (ini 2 [.lst ((z6x P m t k).map tabD),.int n]) = .ok (z6s 0 ((z6x P m t k).map tabD)):=by
  show(R.guard _ _:R (List D))=_
  rw[z0w nt]
 rw[e1]
 show R.guard _ _=_
 rw[z0w (by rw[z8w,hl];lia),y0q (z9w n),List.nil_append,y8p,List.range_eq_range',z9s]
 ·unfold twos;rw[List.range_eq_range']
 ·intro j x hx
  have nx:D.noL x=true:=x1p nt (List.mem_of_getElem? hx)
  rw[Nat.zero_add]
  have e2:(n:Int)/2^j%2=((n/2^j%2:Nat):Int):=by
   rw[Int.natCast_emod,Int.natCast_ediv,Int.natCast_pow];rfl
  have e3:((n:Int)/2^j%2==1)=z9w n j:=by
   rw[e2];unfold z9w
   cases q:(n/2^j%2==1) with
   | true=>rw[beq_iff_eq] at q;rw[q];rfl
   | false =>
     have:n/2^j%2=0:=by
      have h1:n/2^j%2≠1:=by simpa using q
      lia
     rw[this];rfl
  have e4:dShr (.int (n:Int)) (.int ((j:Nat):Int)) = .ok (.int ((n:Int)/2^j)):=by
   show R.guard _ (R.ok (D.int ((n:Int)/2^((j:Nat):Int).toNat)))=_
   rw[z0w ⟨Int.natCast_nonneg n,Int.natCast_nonneg j⟩,Int.toNat_natCast]
  unfold y1n
  walk_at "evs"
  rw[e4]
  walk_at "evs"
  rw[e3]
  cases q:z9w n j with
  | true=>walk_at "evs"
  | false=>rfl
theorem x0x{n k i:Nat}{d:D}{F:Nat->D}(h:((twos n k).map F)[i]? = some d):∃j,(twos n k)[i]? = some j/\d=F j:=by
 rw[List.getElem?_map] at h
 cases q:(twos n k)[i]? with
 | none=>rw[q] at h;cases h
 | some j=>rw[q] at h;injection h with h;exact⟨j,rfl,h.symm⟩
theorem y4i{l:List Nat}{i j:Nat}(h:l[i]? = some j):z5d (l.take (i+1))=z5d (l.take i)+2^j:=by
 rw[List.take_add_one,h,z5j]
 show _+(2^j+0)=_
 rw[Nat.add_zero]
theorem s_D{P:Int}{m n:Nat}{t:List (List Int)}(p1:3<=P)(p2:P<=9973)(hm:m<=3)(ht:z3z P m t)(hn:n<2^150):c_D [.int P,tabD t,.int n] = .ok (tabD (powZ P m t n)):=by
 refine z1n rfl ?_
 delta g_D
 have hp:1<P:=by lia
 have el:=s_E p1 p2 hm ht hn
 have ei:=s_I (n:=m) (by lia)
 have hF:=x0c hn
 have er:=s_r (P:=P) (m:=m) (n:=n) (k:=figZ n) (t:=t) (by lia)
 refine z2s (d:=tabD (powZ P m t 0)) ?_ ?_
 ·have:=z2h (z2x m)
  simp only[tabD,powZ]
  walk_at "evs"
  rw[show(t.length:Int)=(m:Int) by rw[ht.1]]
  simp only[ei]
  walk_at "evs"
 refine z6v (ds:=(twos n (figZ n)).map fun j=>tabD (powZ P m t (2^j))) (fun i Γ=>∃x4,Γ=[.ro (.int P),.ro (tabD t),.ro (.int n),.ro (tabD (powZ P m t (z5d ((twos n (figZ n)).take i)))),x4]) ?_ ⟨_,rfl⟩ ?_ ?_
 ·have nt:=y3f (z6x P m t (figZ n))
  walk_at "evs"
  simp only[el]
  walk_at "evs"
  simp only[er]
  have nt2:D.noLs ((twos n (figZ n)).map fun j=>tabD (powZ P m t (2^j)))=true:=z7w fun j _=>z2h _
  walk_at "evs"
 ·rintro i d Γ hd ⟨x4,rfl⟩
  obtain⟨j,hj,rfl⟩:=x0x hd
  have eth:=s_J (P:=P) (n:=m) (by lia) (by lia) (z3q hp ht (z5d ((twos n (figZ n)).take i))) (z3q hp ht (2^j)) (by lia)
  rw[<-y1z hp ht,<-y4i hj] at eth
  refine .nx (z4s (d:=tabD (powZ P m t (z5d ((twos n (figZ n)).take (i+1))))) ?_) ⟨_,rfl⟩
  walk_at "evs"
  simp only[tabD,eth]
  have:=z2h (powZ P m t (z5d ((twos n (figZ n)).take (i+1))))
  walk_at "evs"
 ·rintro Γ ⟨x4,rfl⟩
  refine z2l ?_
  walk_at "evs"
  rw[show((twos n (figZ n)).take (twos n (figZ n)).length)=twos n (figZ n) from List.take_length,y5i,x5e]
end L3
namespace L3
open PySem
local macro_rules | `(tactic| walk_at "evs") => wkL " L3.z8u L3.z4v L3.s_on L3.z2u L3.z5o L3.z5s L3.z5v L3.z5t L3.z6r L3.z5w L3.z2e L3.dAbs L3.dInt L3.y3p L3.y4y L3.y7p L3.y0o L3.Item.d L3.Item.ds_map L3.y5d L3.y8e L3.y8f L3.y4w L3.y0g"
mutual
noncomputable def Item.tab(P:Int)(m:Nat):Item->List (List Int)
 | .set x f=>(z2x m).set x.toNat f
 | .again n its=>powZ P m (Item.tabs P m its) n.toNat
noncomputable def Item.tabs(P:Int)(m:Nat):List Item->List (List Int)
 | []=>z2x m
 | a::r=>z2w P (a.tab P m) (Item.tabs P m r)
end
theorem y6s{P:Int}{m x:Nat}{f:List Int}(hp:1<P)(h:y4j P m f):z3z P m ((z2x m).set x f):=by
 obtain⟨h1,h2⟩:=y2g hp m
 refine⟨by rw[List.length_set];exact h1,fun r hr=>?_⟩
 rcases List.mem_or_eq_of_mem_set hr with z | z
 ·exact h2 r z
 ·rw[z];exact h
mutual
theorem Item.tab_ok{P:Int}{m:Nat}(hp:1<P):∀a:Item,a.ok P m->z3z P m (a.tab P m)
 | .set x f,h=>by
   simp only[Item.ok] at h
   exact y6s hp ⟨h.2.2.2,by lia⟩
 | .again n its,h=>by
   simp only[Item.ok] at h
   exact z3q hp (Item.tabs_ok hp its h.2.2) _
theorem Item.tabs_ok{P:Int}{m:Nat}(hp:1<P):∀its:List Item,Item.oks P m its->z3z P m (Item.tabs P m its)
 | [],_=>y2g hp m
 | a::r,h=>by
   simp only[Item.oks] at h
   exact z4u (by lia) (Item.tab_ok hp a h.1).1 (Item.tabs_ok hp r h.2).1
end
theorem Item.oks_append{P many:Int}:∀{a b:List Item},Item.oks P many (a++b)↔Item.oks P many a/\Item.oks P many b
 | [],b=>by simp[Item.oks]
 | x::a,b=>by simp[Item.oks,Item.oks_append (a:=a),and_assoc]
theorem Item.tabs_append{P:Int}{m:Nat}(hp:1<P):∀{a b:List Item},Item.oks P m a->Item.oks P m b->Item.tabs P m (a++b)=z2w P (Item.tabs P m a) (Item.tabs P m b)
 | [],b,_,hb=>(idle_J hp (Item.tabs_ok hp b hb)).symm
 | x::a,b,ha,hb=>by
   simp only[Item.oks] at ha
   show z2w P (x.tab P m) (Item.tabs P m (a++b))=z2w P (z2w P (x.tab P m) (Item.tabs P m a)) (Item.tabs P m b)
   rw[Item.tabs_append hp ha.2 hb,y1c (by lia) (Item.tab_ok hp x ha.1).1 (Item.tabs_ok hp a ha.2).1 (Item.tabs_ok hp b hb).1]
theorem Item.tabs_one{P:Int}{m:Nat}(hp:1<P){a:Item}(h:a.ok P m):Item.tabs P m [a]=a.tab P m:=then_I hp (Item.tab_ok hp a h)
theorem y3j{its:List Item}{j:Nat}{d:D}(h:(its.map Item.d)[j]? = some d):∃a:Item,its[j]? = some a/\d=a.d/\a∈its:=by
 rw[List.getElem?_map] at h
 cases q:its[j]? with
 | none=>rw[q] at h;cases h
 | some a=>rw[q] at h;cases h;exact⟨a,rfl,rfl,List.mem_of_getElem? q⟩
theorem y2q{α:Type}{l:List α}{j:Nat}{a:α}(h:l[j]? = some a):l.take (j+1)=l.take j++[a]:=by
 rw[List.take_add_one,h];rfl
theorem Item.oks_take{P many:Int}{its:List Item}(h:Item.oks P many its)(j:Nat):Item.oks P many (its.take j):=Item.oks_iff.mpr fun a ha=>Item.oks_iff.mp h a (List.mem_of_mem_take ha)
theorem x7x:(10:Int)^30<2^150:=by decide
theorem y6g{n:Int}(h0:0<=n)(h:n<=10^30):∃k:Nat,n=(k:Int)/\n.toNat=k/\k<2^150:=by
 have:=x7x
 exact⟨n.toNat,by lia,rfl,by lia⟩
theorem s_v{P:Int}{m:Nat}(p1:3<=P)(p2:P<=9973)(hm:m<=3):∀(k:Nat) (its:List Item),2*Item.deeps its+2<=k->Item.oks P m its->c_v k [.int P,.int m,.tup (its.map Item.d)] = .ok (tabD (Item.tabs P m its))
 | 0,_,h,_=>by lia
 | 1,_,h,_=>by lia
 | k+2,its,h,ho=>by
   have hp:1<P:=by lia
   show fnC 3 5 (g_v (c_v (k+1)) (c_a (k+1))) _=_
   refine z1n rfl ?_
   delta g_v
   have hn:=Item.noLs' its
   have ei:=s_I (n:=m) (by lia)
   refine z2s (d:=tabD (Item.tabs P m (its.take 0))) ?_ ?_
   ·have:=z2h (z2x m)
    walk_at "evs"
    simp only[ei]
    walk_at "evs"
    rfl
   refine z6v (ds:=its.map Item.d) (fun j Γ=>∃x4,Γ=[.ro (.int P),.ro (.int m),.ro (.tup (its.map Item.d)),.ro (tabD (Item.tabs P m (its.take j))),x4]) (by walk_at "evs") ⟨_,rfl⟩ ?_ ?_
   ·rintro j d Γ hd ⟨x4,rfl⟩
    obtain⟨a,ea,rfl,ha⟩:=y3j hd
    have oka:=Item.oks_iff.mp ho a ha
    have okt:=Item.oks_take ho j
    have e:c_a (k+1) [.int P,.int m,a.d] = .ok (tabD (a.tab P m)):=by
     show fnC 3 3 (g_a (c_v k) (c_a k)) _=_
     refine z1n rfl ?_
     delta g_a
     cases a with
     | set x f =>
       simp only[Item.ok] at oka
       obtain⟨y,rfl⟩:∃y:Nat,x=(y:Int):=⟨x.toNat,by lia⟩
       have es:=s_z (n:=m) (x:=y) (f:=f) (by lia) (by lia)
       refine y7s (y0h (by walk_at "evs") (z2l ?_))
       walk_at "evs"
       simp only[es]
       rfl
     | again n i =>
       have h1:=Item.deeps_le.mp (Nat.le_refl (Item.deeps its)) _ ha
       simp only[Item.deep] at h1
       simp only[Item.ok] at oka
       obtain⟨y,rfl,ey,hy⟩:=y6g oka.1 oka.2.1
       have ih:=s_v p1 p2 hm k i (by lia) oka.2.2
       have er:=s_D (n:=y) p1 p2 hm (Item.tabs_ok hp i oka.2.2) hy
       refine z3m (by walk_at "evs") (z2l ?_)
       walk_at "evs"
       simp only[ih]
       walk_at "evs"
       simp only[er]
       rfl
    have eth:=s_J (P:=P) (n:=m) (by lia) (by lia) (Item.tabs_ok hp _ okt) (Item.tab_ok hp a oka) (by lia)
    have et:Item.tabs P m (its.take (j+1))=z2w P (Item.tabs P m (its.take j)) (a.tab P m):=by
     rw[y2q ea,Item.tabs_append hp okt (by simp only[Item.oks];exact⟨oka,trivial⟩),Item.tabs_one hp oka]
    refine .nx (z4s (d:=tabD (Item.tabs P m (its.take (j+1)))) ?_) ⟨_,rfl⟩
    have:=z2h (z2w P (Item.tabs P m (its.take j)) (a.tab P m))
    walk_at "evs"
    simp only[e]
    walk_at "evs"
    simp only[tabD,eth,et]
    walk_at "evs"
   ·rintro Γ ⟨x4,rfl⟩
    refine z2l ?_
    walk_at "evs"
    rw[List.take_of_length_le (Nat.le_refl _)]
theorem s_H{P:Int}{m n:Nat}{its:List Item}{s:List Int}(p1:3<=P)(p2:P<=9973)(hm:m<=3)(hd:Item.deeps its<=5)(ho:Item.oks P m its)(hs:s.length=m)(hn:n<2^150):c_H [.int P,.int m,.tup (its.map Item.d),.int n,rowD s] = .ok (rowD (z2v P (powZ P m (Item.tabs P m its) n) s)):=by
 have hp:1<P:=by lia
 refine z1n rfl ?_
 delta g_H
 have et:=s_v p1 p2 hm 12 its (by lia) ho
 have ok:=Item.tabs_ok hp its ho
 have er:=s_D (n:=n) p1 p2 hm ok hn
 have ea:=s_B (P:=P) (ts:=powZ P m (Item.tabs P m its) n) (ss:=s) (by lia) (by lia) (by rw[hs];exact z3q hp ok n) (by lia)
 refine z2l ?_
 walk_at "evs"
 simp only[et]
 walk_at "evs"
 simp only[er]
 walk_at "evs"
 simp only[tabD,rowD,ea]
theorem y4u(its:List Item):(D.tup (its.map Item.d)).noL=true:=by have:=Item.noLs' its;simpa [D.noL] using this
theorem x1s(c:Int):∃m:Nat,1+c%3=(m:Int)/\1<=m/\m<=3:=⟨(1+c%3).toNat,by lia,by lia,by lia⟩
noncomputable def vec(r:List Int):Nat->Int:=fun i=>(r[i]?).getD 0
inductive Span (P:Int) (S:List (List Int)):(Nat->Int)->Prop
 | zero {v:Nat->Int}:(∀i,cg P (v i) 0)->Span P S v
 | add {u v:Nat->Int} {c:Int} {r:List Int}:r∈S->Span P S u->(∀i,cg P (v i) (u i+c*vec r i))->Span P S v
section
variable {P:Int}{S T:List (List Int)}{u v:Nat->Int}{c:Int}{r:List Int}
theorem Span.cong(h:Span P S u)(e:∀i,cg P (v i) (u i)):Span P S v:=by
 cases h with
 | zero z=>exact .zero fun i=>(e i).trans (z i)
 | add hr hu q=>exact .add hr hu fun i=>(e i).trans (q i)
theorem Span.of_mem(h:r∈S):Span P S (vec r):=.add (c:=1) h (.zero (v:=fun _=>0) fun _=>cg.refl) fun i=>cg.of_eq (by lia)
theorem Span.plus(h:Span P S u)(g:Span P S v):Span P S (fun i=>u i+v i):=by
 induction h with
 | zero z =>
   refine g.cong fun i=>?_
   have:=(z i).add (cg.refl (P:=P) (a:=v i))
   rw[Int.zero_add] at this;exact this
 | @add u' v' c' r' hr hu q ih =>
   refine .add (c:=c') hr ih fun i=>?_
   refine((q i).add cg.refl).trans (cg.of_eq ?_)
   lia
theorem Span.times(c:Int)(h:Span P S u):Span P S (fun i=>c*u i):=by
 induction h with
 | zero z =>
   refine .zero fun i=>?_
   have:=(cg.refl (P:=P) (a:=c)).mul (z i)
   rw[Int.mul_zero] at this;exact this
 | @add u' v' c' r' hr hu q ih =>
   refine .add (c:=c*c') hr ih fun i=>?_
   refine(cg.refl.mul (q i)).trans (cg.of_eq ?_)
   rw[Int.mul_add,Int.mul_assoc]
theorem Span.trans(h:∀r∈S,Span P T (vec r))(g:Span P S v):Span P T v:=by
 induction g with
 | zero z=>exact .zero z
 | add hr hu q ih=>exact(ih.plus ((h _ hr).times _)).cong q
theorem Span.sub(hu:Span P S u)(hv:Span P S v):Span P S (fun i=>u i-v i):=(hu.plus (hv.times (-1))).cong fun i=>cg.of_eq (by lia)
end
noncomputable def z4z(r:List Int):Nat:=r.findIdx (fun x=>!(x==0))
theorem y3g{r:List Int}{i:Nat}(h:i<z4z r):vec r i=0:=by
 unfold z4z at h
 have hl:i<r.length:=Nat.lt_of_lt_of_le h List.findIdx_le_length
 have:=List.not_of_lt_findIdx h
 unfold vec
 rw[List.getElem?_eq_getElem hl]
 simpa using this
theorem x4r{r:List Int}(h:z4z r<r.length):vec r (z4z r)≠0:=by
 have:=List.findIdx_getElem (xs:=r) (p:=fun x=>!(x==0)) (w:=h)
 unfold vec
 have e:r[z4z r]? = some (r[z4z r]'h):=List.getElem?_eq_getElem h
 rw[e]
 intro z
 have z':r[r.findIdx (fun x=>!(x==0))]'h=0:=z
 simp[z'] at this
theorem y9p{r:List Int}{p:Nat}(h0:∀i,i<p->vec r i=0)(h1:vec r p≠0):z4z r=p:=by
 have hl:p<r.length:=by
  rcases Nat.lt_or_ge p r.length with z | z
  ·exact z
  ·exact absurd (by unfold vec;rw[List.getElem?_eq_none z];rfl) h1
 rcases Nat.lt_trichotomy (z4z r) p with z | z | z
 ·have h2:=x4r (r:=r) (by lia)
  exact absurd (h0 _ z) h2
 ·exact z
 ·exact absurd (y3g z) h1
structure Steps (P:Int) (w:Nat) (S:List (List Int)):Prop where
 row:∀r∈S,r.length=w/\onW P r/\z4z r<w/\vec r (z4z r)=1
 pair:S.Pairwise fun r r'=>z4z r<z4z r'/\vec r (z4z r')=0
section
variable {P:Int}{w:Nat}{S T:List (List Int)}{v:Nat->Int}
end
noncomputable def y1b(P:Int)(r:List Int)(c:Int):List Int:=r.map fun n=>(c*n)%P
noncomputable def z3j(P:Int)(r l:List Int)(p:Nat):List Int:=(r.zip l).map fun x=>(x.1-vec r p*x.2)%P
section
variable {P:Int}{w p:Nat}{r l:List Int}{c:Int}
theorem y6p(i:Nat):vec (y1b P r c) i=(c*vec r i)%P:=by
 unfold vec y1b
 rw[List.getElem?_map]
 cases r[i]? with
 | none=>simp
 | some x=>rfl
theorem y6q:(y1b P r c).length=r.length:=by unfold y1b;simp
theorem y8a(hp:0<P):onW P (y1b P r c):=fun n hn=>by
 obtain⟨x,_,rfl⟩:=List.mem_map.mp hn
 exact⟨z7m hp,z7n hp⟩
theorem z5i(hl:r.length=l.length)(i:Nat):vec (z3j P r l p) i=(vec r i-vec r p*vec l i)%P:=by
 show((z3j P r l p)[i]?).getD 0=_
 unfold z3j
 rw[List.getElem?_map]
 by_cases h:i<r.length
 ·rw[List.getElem?_eq_getElem (by rw[List.length_zip];lia),List.getElem_zip]
  show(r[i]-vec r p*l[i])%P=_
  rw[show vec r i=r[i] by unfold vec;rw[List.getElem?_eq_getElem h];rfl,show vec l i=l[i]'(by lia) by unfold vec;rw[List.getElem?_eq_getElem (by lia)];rfl]
 ·rw[List.getElem?_eq_none (by rw[List.length_zip];lia),show vec r i=0 by unfold vec;rw[List.getElem?_eq_none (by lia)];rfl,show vec l i=0 by unfold vec;rw[List.getElem?_eq_none (by lia)];rfl]
  simp
theorem y1s(hl:r.length=l.length):(z3j P r l p).length=r.length:=by unfold z3j;simp;lia
theorem y3t(hp:0<P):onW P (z3j P r l p):=fun n hn=>by
 obtain⟨x,_,rfl⟩:=List.mem_map.mp hn
 exact⟨z7m hp,z7n hp⟩
theorem x3j(hp:0<P)(h:onW P r)(i:Nat):vec r i%P=vec r i:=by
 have:=y0u hp h i
 exact Int.emod_eq_of_lt this.1 this.2
end
structure Gone (P:Int) (w p:Nat) (rows left steps:List (List Int)):Prop where
 lft:∀r∈left,r.length=w/\onW P r/\∀i,i<p->vec r i=0
 step:∀r∈steps,r.length=w/\onW P r/\z4z r<p/\vec r (z4z r)=1
 pair:steps.Pairwise fun r r'=>z4z r<z4z r'/\vec r (z4z r')=0
 ofL:∀r∈left,Span P rows (vec r)
 ofS:∀r∈steps,Span P rows (vec r)
 all:∀r∈rows,Span P (left++steps) (vec r)
section
variable {P:Int}{w p:Nat}{rows left steps:List (List Int)}
theorem Gone.skip(g:Gone P w p rows left steps)(h:∀r∈left,vec r p=0):Gone P w (p+1) rows left steps where
 lft:=fun r hr=>by
  obtain⟨h1,h2,h3⟩:=g.lft r hr
  refine⟨h1,h2,fun i hi=>?_⟩
  rcases Nat.lt_or_ge i p with z | z
  ·exact h3 i z
  ·rw[show i=p by lia];exact h r hr
 step:=fun r hr=>by obtain⟨h1,h2,h3,h4⟩:=g.step r hr;exact⟨h1,h2,by lia,h4⟩
 pair:=g.pair
 ofL:=g.ofL
 ofS:=g.ofS
 all:=g.all
theorem y1r{S:List (List Int)}{r l:List Int}(hl:r.length=l.length)(h1:Span P S (vec r))(h2:Span P S (vec l)):Span P S (vec (z3j P r l p)):=by
 refine(h1.sub (h2.times (vec r p))).cong fun i=>?_
 rw[z5i hl]
 exact y0r
theorem Gone.turn(g:Gone P w p rows left steps)(hp:1<P)(hw:p<w){r0:List Int}(h0:r0∈left){a:Int}(ha:(a*vec r0 p)%P=1){l:List Int}(el:l=y1b P r0 a):Gone P w (p+1) rows (left.map fun r=>z3j P r l p) ((steps.map fun r=>z3j P r l p)++[l]):=by
 obtain⟨l1,l2,l3⟩:=g.lft r0 h0
 have p0:0<P:=by lia
 have ll:l.length=w:=by rw[el,y6q];exact l1
 have lo:onW P l:=by rw[el];exact y8a p0
 have lv:∀i,vec l i=(a*vec r0 i)%P:=fun i=>by rw[el,y6p]
 have lz:∀i,i<p->vec l i=0:=fun i hi=>by rw[lv,l3 i hi];simp
 have lp:vec l p=1:=by rw[lv];exact ha
 have llead:z4z l=p:=y9p lz (by rw[lp];lia)
 have spl:Span P rows (vec l):=((g.ofL r0 h0).times a).cong fun i=>by rw[lv];exact y0r
 have sv:∀r∈steps,∀i,i<p->vec (z3j P r l p) i=vec r i:=fun r hr i hi=>by
  obtain⟨h1,h2,_⟩:=g.step r hr
  rw[z5i (by lia),lz i hi,Int.mul_zero,Int.sub_zero]
  exact x3j p0 h2 i
 have slead:∀r∈steps,z4z (z3j P r l p)=z4z r:=fun r hr=>by
  obtain⟨h1,h2,h3,h4⟩:=g.step r hr
  refine y9p (fun i hi=>?_) ?_
  ·rw[sv r hr i (by lia)];exact y3g hi
  ·rw[sv r hr _ h3,h4];lia
 have cp:∀r:List Int,r.length=w->vec (z3j P r l p) p=0:=fun r hr=>by
  rw[z5i (by lia),lp]
  simp
 refine⟨fun r' hr'=>?_,fun r' hr'=>?_,?_,fun r' hr'=>?_,fun r' hr'=>?_,fun r hr=>?_⟩
 ·obtain⟨r,hr,rfl⟩:=List.mem_map.mp hr'
  obtain⟨h1,h2,h3⟩:=g.lft r hr
  refine⟨by rw[y1s (by lia)];exact h1,y3t p0,fun i hi=>?_⟩
  rcases Nat.lt_or_ge i p with z | z
  ·rw[z5i (by lia),h3 i z,lz i z];simp
  ·rw[show i=p by lia];exact cp r h1
 ·rcases List.mem_append.mp hr' with hr' | hr'
  ·obtain⟨r,hr,rfl⟩:=List.mem_map.mp hr'
   obtain⟨h1,h2,h3,h4⟩:=g.step r hr
   refine⟨by rw[y1s (by lia)];exact h1,y3t p0,by rw[slead r hr];lia,?_⟩
   rw[slead r hr,sv r hr _ h3];exact h4
  ·rw[List.mem_singleton] at hr'
   subst hr'
   exact⟨ll,lo,by lia,by rw[llead];exact lp⟩
 ·refine List.pairwise_append.mpr ⟨?_,List.pairwise_singleton _ _,fun a' ha' b hb=>?_⟩
  ·refine List.pairwise_map.mpr (g.pair.imp_of_mem fun {r r'} hr hr' q=>?_)
   obtain⟨_,_,h3,_⟩:=g.step r' hr'
   rw[slead r hr,slead r' hr',sv r hr _ h3]
   exact q
  ·obtain⟨r,hr,rfl⟩:=List.mem_map.mp ha'
   rw[List.mem_singleton] at hb
   subst hb
   obtain⟨h1,h2,h3,h4⟩:=g.step r hr
   rw[slead r hr,llead]
   exact⟨h3,cp r h1⟩
 ·obtain⟨r,hr,rfl⟩:=List.mem_map.mp hr'
  exact y1r (by have:=(g.lft r hr).1;lia) (g.ofL r hr) spl
 ·rcases List.mem_append.mp hr' with hr' | hr'
  ·obtain⟨r,hr,rfl⟩:=List.mem_map.mp hr'
   exact y1r (by have:=(g.step r hr).1;lia) (g.ofS r hr) spl
  ·rw[List.mem_singleton] at hr'
   subst hr'
   exact spl
 ·refine Span.trans (fun r' hr'=>?_) (g.all r hr)
  have hlm:l∈(left.map fun r=>z3j P r l p)++((steps.map fun r=>z3j P r l p)++[l]):=by simp
  have undo:∀r:List Int,r.length=w->onW P r->z3j P r l p∈(left.map fun r=>z3j P r l p)++((steps.map fun r=>z3j P r l p)++[l])->Span P ((left.map fun r=>z3j P r l p)++((steps.map fun r=>z3j P r l p)++[l])) (vec r):=fun r h1 h2 h3=>by
   refine((Span.of_mem h3).plus ((Span.of_mem hlm).times (vec r p))).cong fun i=>?_
   rw[z5i (by lia)]
   have:=(y0r (P:=P) (a:=vec r i-vec r p*vec l i)).add (cg.refl (a:=vec r p*vec l i))
   rw[show vec r i-vec r p*vec l i+vec r p*vec l i=vec r i by lia] at this
   exact this.symm
  rcases List.mem_append.mp hr' with q | q
  ·obtain⟨h1,h2,_⟩:=g.lft r' q
   exact undo r' h1 h2 (List.mem_append_left _ (List.mem_map.mpr ⟨r',q,rfl⟩))
  ·obtain⟨h1,h2,_⟩:=g.step r' q
   exact undo r' h1 h2 (List.mem_append_right _ (List.mem_append_left _ (List.mem_map.mpr ⟨r',q,rfl⟩)))
structure StepsOf (P:Int) (w:Nat) (rows S:List (List Int)):Prop where
 steps:Steps P w S
 ofS:∀r∈S,Span P rows (vec r)
 all:∀r∈rows,Span P S (vec r)
theorem Gone.end(g:Gone P w w rows left steps):StepsOf P w rows steps where
 steps:=⟨g.step,g.pair⟩
 ofS:=g.ofS
 all:=fun r hr=>by
  refine Span.trans (fun r' hr'=>?_) (g.all r hr)
  rcases List.mem_append.mp hr' with q | q
  ·obtain⟨h1,_,h3⟩:=g.lft r' q
   refine .zero fun i=>?_
   rcases Nat.lt_or_ge i w with z | z
   ·rw[h3 i z];exact cg.refl
   ·unfold vec;rw[List.getElem?_eq_none (by lia)];exact cg.refl
  ·exact .of_mem q
end
noncomputable section
end
noncomputable section
end
theorem y1t:∀xs ys:List Int,zipD (xs.map D.int) (ys.map D.int)=(xs.zip ys).map fun p=>.tup [.int p.1,.int p.2]
 | [],_=>rfl
 | _::_,[]=>rfl
 | x::xs,y::ys=>by simp only[List.map_cons,zipD,List.zip_cons_cons,y1t xs ys]
theorem y1p{f:D->R (Option D)}{h:Int->Int->Int}{xs ys:List Int}(q:∀x∈xs,∀y∈ys,f (.tup [.int x,.int y]) = .ok (some (.int (h x y)))):z0y f (zipD (xs.map D.int) (ys.map D.int)) [] = .ok (((xs.zip ys).map fun p=>h p.1 p.2).map D.int):=by
 rw[y1t,z2b (h:=fun p=>D.int (h p.1 p.2)),z4r]
 intro p hp
 exact q p.1 (List.of_mem_zip hp).1 p.2 (List.of_mem_zip hp).2
theorem z9j(xs ys:List Int):(zipD (xs.map D.int) (ys.map D.int)).length=min xs.length ys.length:=by
 rw[y1t,List.length_map,List.length_zip]
theorem x5r{r:List Int}{p:Nat}(h:p<r.length):atI (r.map D.int) (p:Int)=some (.int (vec r p)):=atD h
theorem z6k(l:List (List Int)):D.noLs (l.map rowD)=true:=z7v l
noncomputable def x7s(rows:List (List Int))(k:Nat):List Int:=(rows[k]?).getD []
noncomputable def sumW(rows:List (List Int))(c:Nat->Int)(i:Nat):Int:=sumN (fun k=>c k*vec (x7s rows k) i) rows.length
section
variable {P:Int}{w:Nat}{rows:List (List Int)}
structure IdleOf (P:Int) (rows T:List (List Int)):Prop where
 steps:Steps P rows.length T
 idle:∀t∈T,∀i,cg P (sumW rows (vec t) i) 0
 all:∀c:Nat->Int,(∀i,cg P (sumW rows c i) 0)->Span P T (fun k=>if k<rows.length then c k else 0)
end
section
variable {P c:Int}{r l:List Int}{w:Nat}
end
section
variable {P:Int}{w:Nat}{rows:List (List Int)}
end
noncomputable section
end
section
variable {P:Int}{w:Nat}{rows S:List (List Int)}
end
section
variable {P:Int}{w:Nat}{rows S T:List (List Int)}
end
noncomputable section
noncomputable def g_x:G->R Fl :=
 (gRet (z7l (gIsi z6e (gV 0)) (y0k (gIsi z4c (gV 0)))))
noncomputable def c_x:List D->R D:=fnC 1 1 g_x
noncomputable def g_A:G->R Fl :=
 (gRet (z7l (z0i c_x (gCons (gV 0) gNil)) (z7l (gBin dLe (gV 1) (gV 0)) (gBin dLe (gV 0) (gV 2)))))
noncomputable def c_A:List D->R D:=fnC 3 3 g_A
noncomputable def g_c:G->R Fl :=
 (gSt (gSet 1 (gNL (gC (.int 2))))
 (gSt (whGo (gT (gBin dLe (gBin dMul (gV 1) (gV 1)) (gV 0))) (gSt (gIfS (gT (gBin dEq (gBin dMod (gV 0) (gV 1)) (gC (.int 0)))) (gRet (gV 1)) z2q)
 (gSet 1 (gNL (gBin dAdd (gV 1) (gC (.int 1)))))) 10000)
 (gRet (gV 0))))
noncomputable def c_c:List D->R D:=fnC 1 2 g_c
noncomputable def g_w:G->R Fl :=
 (gRet (z7l (z0i c_A (gCons (gV 0) (gCons (gC (.int 3)) (gCons (gC (.int 9999)) gNil)))) (gBin dEq (z0i c_c (gCons (gV 0) gNil)) (gV 0))))
noncomputable def c_w:List D->R D:=fnC 1 1 g_w
noncomputable def g_F:G->R Fl :=
 (gSt (gIfS (gNot (gT (z0i c_w (gCons (gV 0) gNil)))) (z3w .noPrime) z2q)
 (gRet (gV 0)))
noncomputable def c_F:List D->R D:=fnC 1 1 g_F
end
end L3
namespace L3
open PySem
local macro_rules | `(tactic| walk_at "evs") => wkL " L3.z8u L3.z4v L3.s_on L3.z2u L3.z5o L3.z5s L3.z5v L3.z5t L3.z6r L3.z5w L3.z2e"
theorem s_x{d:D}(h:d.noX=true):c_x [d] = .ok (.bl (z2u d)):=by
 unfold c_x g_x
 cases d<;>first | rfl | (simp[D.noX] at h)
noncomputable def LDiv(n q:Int):Prop:=(n=1/\q=1)∨(2<=q/\q<=n/\n%q=0/\∀e:Int,2<=e->e<q->n%e≠0)
theorem y6h{n b:Int}(hn:1<=n)(b1:2<=b)(b2:b<n)(hb:n%b=0):n=b*(n/b)/\2<=n/b/\n/b<n/\n%(n/b)=0:=by
 have e1:n=b*(n/b):=by have:=Int.emod_add_mul_ediv n b;lia
 generalize hq:n/b=q at *
 have q0:0<q:=by
  rcases Int.lt_trichotomy 0 q with z | z | z
  ·exact z
  ·rw[<-z] at e1;simp at e1;lia
  ·have:b*q<0:=Int.mul_neg_of_pos_of_neg (by lia) z
   lia
 have q1:q≠1:=fun z=>by rw[z] at e1;lia
 have q2:2*q<=b*q:=Int.mul_le_mul_of_nonneg_right b1 (by lia)
 exact⟨e1,by lia,by lia,by rw[e1];exact Int.mul_emod_left b q⟩
theorem x4o{n d:Int}(h1:1<=n)(d1:2<=d)(hq:¬d*d<=n)(hd:∀e:Int,2<=e->e<d->n%e≠0):LDiv n n:=by
 by_cases hn:n=1
 ·exact .inl ⟨hn,hn⟩
 refine .inr ⟨by lia,by lia,Int.emod_self,fun e e1 e2 z=>?_⟩
 obtain⟨c1,c2,c3,c4⟩:=y6h h1 e1 e2 z
 have e3:d<=e:=by
  rcases Int.lt_or_le e d with w | w
  ·exact absurd z (hd e e1 w)
  ·exact w
 have e4:d<=n/e:=by
  rcases Int.lt_or_le (n/e) d with w | w
  ·exact absurd c4 (hd _ c2 w)
  ·exact w
 have:d*d<=e*(n/e):=Int.mul_le_mul e3 e4 (by lia) (by lia)
 lia
theorem y3o{n:Int}(h1:1<=n)(h2:n<=100000000):∀(k m:Nat) (Γ:G),m<k ->
 (∃d:Int,Γ=[.ro (.int n),.ro (.int d)]/\2<=d/\d<=10001/\(∀e:Int,2<=e->e<d->n%e≠0)/\(10001-d).toNat=m) ->
 (∃q,LDiv n q/\whGo (gT (gBin dLe (gBin dMul (gV 1) (gV 1)) (gV 0))) (gSt (gIfS (gT (gBin dEq (gBin dMod (gV 0) (gV 1)) (gC (.int 0)))) (gRet (gV 1)) z2q) (gSet 1 (gNL (gBin dAdd (gV 1) (gC (.int 1)))))) k Γ = .ok (.rt (.int q))) ∨
 (LDiv n n/\∃x,whGo (gT (gBin dLe (gBin dMul (gV 1) (gV 1)) (gV 0))) (gSt (gIfS (gT (gBin dEq (gBin dMod (gV 0) (gV 1)) (gC (.int 0)))) (gRet (gV 1)) z2q) (gSet 1 (gNL (gBin dAdd (gV 1) (gC (.int 1)))))) k Γ = .ok (.nx [.ro (.int n),x])):=by
 refine z9d _ (fun r=>(∃q,LDiv n q/\r = .ok (.rt (.int q)))∨(LDiv n n/\∃x,r = .ok (.nx [.ro (.int n),x]))) ?_
 rintro m Γ ⟨d,rfl,d1,d2,hd,hm⟩
 by_cases hq:d*d<=n
 ·have e1:decide (d*d<=n)=true:=decide_eq_true hq
  have d3:d<10001:=by
   rcases Int.lt_or_le d 10001 with z | z
   ·exact z
   ·have:10001*10001<=d*d:=Int.mul_le_mul z z (by lia) (by lia)
    lia
  refine .inr ⟨by walk_at "evs";simp only[e1],?_⟩
  by_cases hz:n%d=0
  ·have e2:(n%d==0)=true:=by simpa using hz
   have d5:2*d<=d*d:=Int.mul_le_mul_of_nonneg_right d1 (by lia)
   refine .inr (.inr (.inl ⟨.int d,?_,.inl ⟨d,.inr ⟨d1,by lia,hz,hd⟩,rfl⟩⟩))
   refine y7s (y0h (by walk_at "evs";simp only[e2]) ?_)
   exact z2l (by walk_at "evs")
  ·have e2:(n%d==0)=false:=by simpa using hz
   refine .inl ⟨[.ro (.int n),.ro (.int (d+1))],(10001-(d+1)).toNat,by lia,.inl ?_,d+1,rfl,by lia,by lia,fun e z1 z2=>?_,rfl⟩
   ·refine z3m (by walk_at "evs";simp only[e2]) ?_
    refine z4s ?_
    walk_at "evs"
   ·by_cases ee:e=d
    ·rw[ee];exact hz
    ·exact hd e z1 (by lia)
 ·have e1:decide (d*d<=n)=false:=decide_eq_false hq
  exact .inl ⟨by walk_at "evs";simp only[e1],.inr ⟨x4o h1 d1 hq hd,_,rfl⟩⟩
theorem x3n{n:Int}(h1:1<=n)(h2:n<=100000000):∃q,LDiv n q/\c_c [.int n] = .ok (.int q):=by
 rcases y3o h1 h2 10000 (10001-2:Int).toNat [.ro (.int n),.ro (.int 2)] (by decide) ⟨2,rfl,by lia,by lia,fun e z1 z2=>by lia,rfl⟩ with ⟨q,hl,e⟩ | ⟨hl,x,e⟩
 ·refine⟨q,hl,z1n rfl ?_⟩
  delta g_c
  refine z2s (d:=.int 2) (by walk_at "evs") ?_
  exact y7s e
 ·refine⟨n,hl,z1n rfl ?_⟩
  delta g_c
  refine z2s (d:=.int 2) (by walk_at "evs") ?_
  exact z8r e (z2l (by walk_at "evs"))
theorem y9o{n q:Int}(h1:3<=n)(h2:n<=9999)(h:LDiv n q):(q==n)=!z4e n:=by
 rcases h with ⟨z,_⟩ | ⟨q1,q2,q3,q4⟩
 ·lia
 by_cases e:q=n
 ·subst e
  have:z4e q=false:=by
   cases w:z4e q with
   | false=>rfl
   | true =>
     obtain⟨b,b1,b2,b3,b4⟩:=(z8k _).mp w
     exact absurd b4 (q4 b b1 b3)
  rw[this];simp
 ·have:z4e n=true:=by
   obtain⟨c1,c2,c3,c4⟩:=y6h (by lia) q1 (by lia) q3
   by_cases w:q<100
   ·exact(z8k _).mpr ⟨q,q1,w,by lia,q3⟩
   ·refine(z8k _).mpr ⟨n/q,c2,?_,c3,c4⟩
    rcases Int.lt_or_le (n/q) 100 with z | z
    ·exact z
    ·have:100*100<=q*(n/q):=Int.mul_le_mul (by lia) z (by lia) (by lia)
     lia
  rw[this]
  simp[e]
noncomputable def x6a(n:Int):Bool:=decide (3<=n)&&(decide (n<=9999)&&!z4e n)
noncomputable def y8q:D->Bool
 | .int n=>x6a n
 | _=>false
noncomputable def y4z(d:D)(a b:Int):Bool :=
 match d with
 | .int n=>decide (a<=n)&&decide (n<=b)
 | _=>false
theorem s_A{d:D}{a b:Int}(h:d.noX=true):c_A [d,.int a,.int b] = .ok (.bl (y4z d a b)):=by
 refine z1n rfl ?_
 delta g_A
 refine z2l ?_
 have hw:=s_x h
 cases hd:z2u d with
 | false =>
   rw[hd] at hw
   have:y4z d a b=false:=by cases d<;>first | rfl | (simp[z2u] at hd)
   rw[this]
   walk_at "evs"
   simp only[hw]
   walk_at "evs"
 | true =>
   rw[hd] at hw
   cases d with
   | int n =>
     walk_at "evs"
     simp only[hw]
     walk_at "evs"
     by_cases h3:a<=n
     ·have e1:decide (a<=n)=true:=decide_eq_true h3
      simp only[e1]
      walk_at "evs"
      show _=R.ok (D.bl (decide (a<=n)&&decide (n<=b)))
      rw[e1];rfl
     ·have e1:decide (a<=n)=false:=decide_eq_false h3
      simp only[e1]
      walk_at "evs"
      show _=R.ok (D.bl (decide (a<=n)&&decide (n<=b)))
      rw[e1];rfl
   | _=>simp[z2u] at hd
theorem s_w{d:D}(h:d.noX=true):c_w [d] = .ok (.bl (y8q d)):=by
 refine z1n rfl ?_
 delta g_w
 refine z2l ?_
 have hw:=s_A (a:=3) (b:=9999) h
 cases hd:y4z d 3 9999 with
 | false =>
   rw[hd] at hw
   have:y8q d=false:=by
    cases d<;>first | rfl | skip
    rename_i n
    have hd:(decide (3<=n)&&decide (n<=9999))=false:=hd
    show(decide (3<=n)&&(decide (n<=9999)&&!z4e n))=false
    simp only[Bool.and_eq_false_imp,decide_eq_true_eq,decide_eq_false_iff_not] at hd
    by_cases h3:3<=n
    ·rw[decide_eq_false (hd h3)];simp
    ·rw[decide_eq_false h3];rfl
   rw[this]
   walk_at "evs"
   simp only[hw]
   walk_at "evs"
 | true =>
   rw[hd] at hw
   cases d with
   | int n =>
     have hd:(decide (3<=n)&&decide (n<=9999))=true:=hd
     simp only[Bool.and_eq_true,decide_eq_true_eq] at hd
     obtain⟨q,hq,e3⟩:=x3n (n:=n) (by lia) (by lia)
     have e4:=y9o (by lia) (by lia) hq
     walk_at "evs"
     simp only[hw]
     walk_at "evs"
     simp only[e3]
     walk_at "evs"
     rw[e4]
     show _=R.ok (D.bl (decide (3<=n)&&(decide (n<=9999)&&!z4e n)))
     rw[decide_eq_true (show 3<=n by lia),decide_eq_true (show n<=9999 by lia)];rfl
   | _=>simp[y4z] at hd
theorem x1d{d:D}(h:d.noX=true)(hp:y8q d=true):c_F [d] = .ok d:=by
 refine z1n rfl ?_
 delta g_F
 have e:=s_w h
 rw[hp] at e
 refine z3m (by walk_at "evs";simp only[e];walk_at "evs") (z2l ?_)
 walk_at "evs"
noncomputable section
noncomputable def g_b(rec_b:List D->R D):G->R Fl :=
 (gSt (gSet 2 (gNL (gV 1)))
 (gSt (gFor 3 (gSeq (gVr 0))
 (gSt (gSet 2 (gNL (gBin dAdd (gV 2) (gC (.int 1)))))
 (gSt (gIfS (gT (gBin dGt (gV 2) (gC (.int 30)))) (z3w .noProgram) z2q)
 (gIfS (gT (gBin dEq (gBin dIx (gV 3) (gC (.int 0))) (gC (.str "again")))) (gSet 2 (gNL (z0i rec_b (gCons (gBin dIx (gV 3) (gC (.int 2))) (gCons (gV 2) gNil))))) z2q))))
 (gRet (gV 2))))
noncomputable def c_b:Nat->List D->R D
 | 0=>fun _=>.no
 | n+1=>fnC 2 4 (g_b (c_b n))
noncomputable def g_u:G->R Fl :=
 (gSt (gIfS (gNot (gT (z0i c_A (gCons (gV 2) (gCons (gC (.int 0)) (gCons (gBin dSub (gV 1) (gC (.int 1))) gNil)))))) (z3w .noProgram) z2q)
 (gSt (gIfS (gT (gBin dNe (z0i dLen (gCons (gV 3) gNil)) (gBin dAdd (gV 1) (gC (.int 1))))) (z3w .noProgram) z2q)
 (gRet (gTup (gCons (gC (.str "set")) (gCons (gV 2) (gCons (z0i z1i (gCons (gL (z2y (z7k (gV 3)) (fElt (gNL (z0i (noEr c_on) (gCons (gV 1) (gCons (gV 0) gNil))))))) gNil)) gNil)))))))
noncomputable def c_u:List D->R D:=fnC 4 4 g_u
noncomputable def g_k(rec_k:List D->R D)(rec_o:List D->R D)(rec_h:List D->R D):G->R Fl :=
 (gSt (gIfS (gT (gBin dGe (gV 4) (gC (.int 3)))) (z3w .noProgram) z2q)
 (gSt (gIfS (gNot (gT (z0i c_A (gCons (gV 2) (gCons (gC (.int 0)) (gCons (gBin dPow (gC (.int 10)) (gC (.int 30))) gNil)))))) (z3w .noProgram) z2q)
 (gRet (gTup (gCons (gC (.str "again")) (gCons (gV 2) (gCons (z0i rec_h (gCons (gV 0) (gCons (gV 1) (gCons (gV 3) (gCons (gBin dAdd (gV 4) (gC (.int 1))) gNil))))) gNil)))))))
noncomputable def g_o(rec_k:List D->R D)(rec_o:List D->R D)(rec_h:List D->R D):G->R Fl :=
 (gSt (gIfS (gT (gBin dEq (gBin dIx (gV 2) (gC (.int 0))) (gC (.str "set")))) (gRet (z0i c_u (gCons (gV 0) (gCons (gV 1) (gCons (gBin dIx (gV 2) (gC (.int 1))) (gCons (gBin dIx (gV 2) (gC (.int 2))) gNil)))))) z2q)
 (gRet (z0i rec_k (gCons (gV 0) (gCons (gV 1) (gCons (gBin dIx (gV 2) (gC (.int 1))) (gCons (gBin dIx (gV 2) (gC (.int 2))) (gCons (gV 3) gNil))))))))
noncomputable def g_h(rec_k:List D->R D)(rec_o:List D->R D)(rec_h:List D->R D):G->R Fl :=
 (gRet (z0i z1i (gCons (gL (z2y (gSeq (gVr 2)) (fElt (gNL (z0i (noEr rec_o) (gCons (gV 1) (gCons (gV 2) (gCons (gV 0) (gCons (gV 4) gNil))))))))) gNil)))
mutual
noncomputable def c_k:Nat->List D->R D
 | 0=>fun _=>.no
 | n+1=>fnC 5 5 (g_k (c_k n) (c_o n) (c_h n))
noncomputable def c_o:Nat->List D->R D
 | 0=>fun _=>.no
 | n+1=>fnC 4 4 (g_o (c_k n) (c_o n) (c_h n))
noncomputable def c_h:Nat->List D->R D
 | 0=>fun _=>.no
 | n+1=>fnC 4 4 (g_h (c_k n) (c_o n) (c_h n))
end
noncomputable def g_y:G->R Fl :=
 (gSt (gEx (z0i c_F (gCons (gV 0) gNil)))
 (gSt (gIfS (gNot (gT (z0i c_A (gCons (gV 1) (gCons (gC (.int 1)) (gCons (gC (.int 3)) gNil)))))) (z3w .noProgram) z2q)
 (gSt (gEx (z0i (c_b 12) (gCons (gV 2) (gCons (gC (.int 0)) gNil))))
 (gRet (z0i (c_h 12) (gCons (gV 0) (gCons (gV 1) (gCons (gV 2) (gCons (gC (.int 0)) gNil)))))))))
noncomputable def c_y:List D->R D:=fnC 3 3 g_y
end
end L3
namespace L3
open PySem
local macro_rules | `(tactic| walk_at "evs") => wkL " L3.z8u L3.z4v L3.s_on L3.z2u L3.z5o L3.z5s L3.z5v L3.z5t L3.z6r L3.z5w L3.z2e L3.dAbs L3.dInt L3.y3p L3.y4y L3.y7p L3.y0o L3.Item.d L3.Item.ds_map L3.y5d L3.y8e L3.y8f L3.y4w L3.y0g"
inductive Raw where
 | set (x:Int) (f:List Int)
 | again (n:Int) (l:Bool) (its:List Raw)
noncomputable def seqd(l:Bool)(ds:List D):D:=if l then .lst ds else .tup ds
mutual
noncomputable def Raw.d:Raw->D
 | .set x f=>.tup [.str "set",.int x,rowD f]
 | .again n l its=>.tup [.str "again",.int n,seqd l (Raw.ds its)]
noncomputable def Raw.ds:List Raw->List D
 | []=>[]
 | a::r=>a.d::Raw.ds r
end
theorem Raw.ds_map:∀its:List Raw,Raw.ds its=its.map Raw.d
 | []=>rfl
 | a::r=>by rw[Raw.ds,Raw.ds_map r];rfl
mutual
noncomputable def Raw.deep:Raw->Nat
 | .set _ _=>0
 | .again _ _ its=>1+Raw.deeps its
noncomputable def Raw.deeps:List Raw->Nat
 | []=>0
 | a::r=>max a.deep (Raw.deeps r)
end
mutual
noncomputable def Raw.many:Raw->Nat
 | .set _ _=>1
 | .again _ _ its=>1+Raw.manys its
noncomputable def Raw.manys:List Raw->Nat
 | []=>0
 | a::r=>a.many+Raw.manys r
end
mutual
noncomputable def Raw.ok(many:Int):Raw->Prop
 | .set x f=>0<=x/\x<many/\(f.length:Int)=many+1
 | .again n _ its=>0<=n/\n<=10^30/\Raw.oks many its
noncomputable def Raw.oks(many:Int):List Raw->Prop
 | []=>True
 | a::r=>a.ok many/\Raw.oks many r
end
mutual
noncomputable def Raw.made(P:Int):Raw->Item
 | .set x f=>.set x (f.map (·%P))
 | .again n _ its=>.again n (Raw.mades P its)
noncomputable def Raw.mades(P:Int):List Raw->List Item
 | []=>[]
 | a::r=>a.made P::Raw.mades P r
end
theorem Raw.mades_map(P:Int):∀its:List Raw,Raw.mades P its=its.map (Raw.made P)
 | []=>rfl
 | a::r=>by rw[Raw.mades,Raw.mades_map P r];rfl
theorem Raw.oks_iff{many:Int}:∀{its:List Raw},Raw.oks many its↔∀a∈its,a.ok many
 | []=>by simp[Raw.oks]
 | a::r=>by simp[Raw.oks,Raw.oks_iff (its:=r)]
theorem Raw.deep_mem:∀{its:List Raw} {a:Raw},a∈its->a.deep<=Raw.deeps its
 | b::r,a,h=>by
   simp only[Raw.deeps]
   rcases List.mem_cons.mp h with rfl | h
   ·lia
   ·have:=Raw.deep_mem h;lia
theorem Raw.many_mem:∀{its:List Raw} {a:Raw},a∈its->a.many<=Raw.manys its
 | b::r,a,h=>by
   simp only[Raw.manys]
   rcases List.mem_cons.mp h with rfl | h
   ·lia
   ·have:=Raw.many_mem h;lia
theorem Raw.manys_append:∀{a b:List Raw},Raw.manys (a++b)=Raw.manys a+Raw.manys b
 | [],b=>by simp[Raw.manys]
 | x::a,b=>by simp[Raw.manys,Raw.manys_append (a:=a)];lia
theorem Raw.many_pos:∀a:Raw,0<a.many
 | .set _ _=>by simp[Raw.many]
 | .again _ _ _=>by simp[Raw.many];lia
theorem Raw.manys_length:∀its:List Raw,its.length<=Raw.manys its
 | []=>Nat.le_refl _
 | a::r=>by have:=a.many_pos;have:=Raw.manys_length r;simp only[Raw.manys,List.length_cons];lia
theorem y9w{its:List Raw}{j:Nat}{d:D}(h:(its.map Raw.d)[j]? = some d):∃a:Raw,its[j]? = some a/\d=a.d/\a∈its:=by
 rw[List.getElem?_map] at h
 cases q:its[j]? with
 | none=>rw[q] at h;cases h
 | some a=>rw[q] at h;cases h;exact⟨a,rfl,rfl,List.mem_of_getElem? q⟩
theorem y2u:∀(k:Nat) (its:List Raw) (l:Bool) (c:Nat),Raw.deeps its<k->c+Raw.manys its<=30->c_b k [seqd l (its.map Raw.d),.int c] = .ok (.int ((c+Raw.manys its:Nat):Int))
 | 0,_,_,_,h,_=>absurd h (Nat.not_lt_zero _)
 | k+1,its,l,c,h,hm=>by
   show fnC 2 4 (g_b (c_b k)) _=_
   refine z1n rfl ?_
   delta g_b
   refine z2s (d:=.int c) (by walk_at "evs") ?_
   refine z6v (ds:=its.map Raw.d) (fun j Γ=>∃x3,Γ=[.ro (seqd l (its.map Raw.d)),.ro (.int c),.ro (.int ((c+Raw.manys (its.take j):Nat):Int)),x3]) (by walk_at "evs";cases l<;>rfl) ⟨_,by simp[Raw.manys];rfl⟩ ?_ ?_
   ·rintro j d Γ hd ⟨x3,rfl⟩
    obtain⟨a,ea,rfl,ha⟩:=y9w hd
    have et:Raw.manys (its.take (j+1))=Raw.manys (its.take j)+a.many:=by
     rw[List.take_add_one,ea,Raw.manys_append]
     simp[Raw.manys]
    have es:Raw.manys its=Raw.manys (its.take (j+1))+Raw.manys (its.drop (j+1)):=by rw[<-Raw.manys_append,List.take_append_drop]
    have hp:=a.many_pos
    have e1:((c+Raw.manys (its.take j):Nat):Int)+1=((c+Raw.manys (its.take j)+1:Nat):Int):=rfl
    rw[z2s (d:=.int ((c+Raw.manys (its.take j)+1:Nat):Int)) (by walk_at "evs";rw[e1]) rfl]
    have b1:decide ((30:Int)<((c+Raw.manys (its.take j)+1:Nat):Int))=false:=decide_eq_false (by lia)
    rw[z3m (by walk_at "evs";rw[b1]) rfl]
    cases a with
    | set x f =>
      have e2:Raw.manys (its.take (j+1))=Raw.manys (its.take j)+1:=by rw[et];rfl
      refine .nx (y5z ?_) ⟨.ro (Raw.set x f).d,?_⟩
      ·simp only[Raw.d]
       walk_at "evs"
      ·rw[e2];rfl
    | again n l2 i =>
      have h1:=Raw.deep_mem ha
      simp only[Raw.deep] at h1
      simp only[Raw.many] at et hp
      have ih:=y2u k i l2 (c+Raw.manys (its.take j)+1) (by lia) (by lia)
      refine .nx (y0h ?_ (z4s (d:=.int ((c+Raw.manys (its.take (j+1)):Nat):Int)) ?_)) ⟨_,rfl⟩
      ·simp only[Raw.d]
       walk_at "evs"
      ·simp only[Raw.d,Raw.ds_map]
       walk_at "evs"
       simp only[ih]
       walk_at "evs"
       rw[et]
       congr 3
       lia
   ·rintro Γ ⟨x3,rfl⟩
    refine z2l ?_
    walk_at "evs"
    rw[List.take_of_length_le (Nat.le_refl _)]
theorem s_u{P many x:Int}{f:List Int}(p1:3<=P)(p2:P<=9999)(m1:1<=many)(m3:many<=3)(h0:0<=x)(h1:x<many)(hf:(f.length:Int)=many+1):c_u [.int P,.int many,.int x,rowD f] = .ok (Item.set x (f.map (·%P))).d:=by
 refine z1n rfl ?_
 delta g_u
 have ef:=s_A (d:=.int x) (a:=0) (b:=many-1) rfl
 have b:y4z (.int x) 0 (many-1)=true:=by
  show(decide (0<=x)&&decide (x<=many-1))=true
  rw[decide_eq_true h0,decide_eq_true (by lia)];rfl
 rw[b] at ef
 refine z3m (by walk_at "evs";simp only[ef];walk_at "evs") ?_
 refine z3m (by simp only[z2t];walk_at "evs";simp only[hf];walk_at "evs";try simp) ?_
 refine z2l ?_
 simp only[Item.d,z2t]
 have hl:f.length<=100000:=by lia
 walk_at "evs"
 rw[z2b (h:=fun n=>D.int (n%P))]
 ·rw[z4r]
  walk_at "evs"
 ·intro n hn
  walk_at "evs"
theorem x2r{P many:Int}(p1:3<=P)(p2:P<=9999)(m1:1<=many)(m3:many<=3):∀(k:Nat) (its:List Raw) (l:Bool) (ar:Nat),3*Raw.deeps its+3<=k->ar+Raw.deeps its<=3->Raw.manys its<=60->Raw.oks many its->c_h k [.int P,.int many,seqd l (its.map Raw.d),.int ar] = .ok (.tup ((Raw.mades P its).map Item.d))
 | 0,_,_,_,h,_,_,_=>by lia
 | 1,_,_,_,h,_,_,_=>by lia
 | 2,_,_,_,h,_,_,_=>by lia
 | k+3,its,l,ar,h,har,hm,ho=>by
   show fnC 4 4 (g_h (c_k (k+2)) (c_o (k+2)) (c_h (k+2))) _=_
   refine z1n rfl ?_
   delta g_h
   refine z2l ?_
   have hlen:=Raw.manys_length its
   have hl:(its.map Raw.d).length<=100000:=by rw[List.length_map];lia
   have hsq:gSeq (gVr 2) [En.ro (.int P),.ro (.int many),.ro (seqd l (its.map Raw.d)),.ro (.int ar)] = .ok (its.map Raw.d):=by
    walk_at "evs"
    cases l<;>rfl
   have key:∀F:D->G->R (Option D),(∀a∈its,F a.d [En.ro (.int P),.ro (.int many),.ro (seqd l (its.map Raw.d)),.ro (.int ar)] = .ok (some (a.made P).d))->z0i z1i (gCons (gL (z2y (gSeq (gVr 2)) F)) gNil) [En.ro (.int P),.ro (.int many),.ro (seqd l (its.map Raw.d)),.ro (.int ar)] = .ok (.tup ((Raw.mades P its).map Item.d)):=fun F hF=>by
    have e:z2y (gSeq (gVr 2)) F [En.ro (.int P),.ro (.int many),.ro (seqd l (its.map Raw.d)),.ro (.int ar)] = .ok (its.map fun a=>(a.made P).d):=by
     unfold z2y
     rw[hsq]
     show R.guard _ _=_
     rw[z0w hl,z2b hF]
    rw[Raw.mades_map,List.map_map]
    simp only[z0i,gCons,gNil,gL,e]
    rfl
   refine key _ ?_
   ·intro a ha
    have oka:=Raw.oks_iff.mp ho a ha
    have nL:=Item.noL (a.made P)
    have e:c_o (k+2) [.int P,.int many,a.d,.int ar] = .ok (a.made P).d:=by
     show fnC 4 4 (g_o (c_k (k+1)) (c_o (k+1)) (c_h (k+1))) _=_
     refine z1n rfl ?_
     delta g_o
     cases a with
     | set x f =>
       simp only[Raw.ok] at oka
       have es:=s_u (P:=P) (many:=many) (x:=x) (f:=f) p1 p2 m1 m3 oka.1 oka.2.1 oka.2.2
       simp only[Raw.d]
       refine y7s (y0h (by walk_at "evs") (z2l ?_))
       walk_at "evs"
       simp only[es]
       rfl
     | again n l2 i =>
       simp only[Raw.ok] at oka
       have h1:=Raw.deep_mem ha
       have h2:=Raw.many_mem ha
       simp only[Raw.deep,Raw.many] at h1 h2
       have ih:=x2r p1 p2 m1 m3 k i l2 (ar+1) (by lia) (by lia) (by lia) oka.2.2
       have ef:=s_A (d:=.int n) (a:=0) (b:=10^30) rfl
       have b:y4z (.int n) 0 (10^30)=true:=by
        show(decide (0<=n)&&decide (n<=10^30))=true
        rw[decide_eq_true oka.1,decide_eq_true oka.2.1];rfl
       rw[b] at ef
       have nI:=y4u (Raw.mades P i)
       have eg:c_k (k+1) [.int P,.int many,.int n,seqd l2 (i.map Raw.d),.int ar] = .ok (Item.again n (Raw.mades P i)).d:=by
        show fnC 5 5 (g_k (c_k k) (c_o k) (c_h k)) _=_
        refine z1n rfl ?_
        delta g_k
        have b1:decide ((3:Int)<=(ar:Int))=false:=decide_eq_false (by lia)
        refine z3m (by walk_at "evs";rw[b1]) ?_
        refine z3m (by walk_at "evs";simp only[ef];walk_at "evs") ?_
        refine z2l ?_
        have ea:(ar:Int)+1=((ar+1:Nat):Int):=rfl
        walk_at "evs"
        simp only[ea,ih]
        walk_at "evs"
       simp only[Raw.d,Raw.ds_map]
       refine z3m (by walk_at "evs") (z2l ?_)
       walk_at "evs"
       simp only[eg]
       rfl
    walk_at "evs"
    simp only[e]
    walk_at "evs"
theorem s_y{P many:Int}{its:List Raw}{l:Bool}(p1:3<=P)(p2:P<=9973)(hd:z4e P=false)(m1:1<=many)(m3:many<=3)(d3:Raw.deeps its<=3)(hm:Raw.manys its<=30)(ho:Raw.oks many its):c_y [.int P,.int many,seqd l (its.map Raw.d)] = .ok (.tup ((Raw.mades P its).map Item.d)):=by
 refine z1n rfl ?_
 delta g_y
 have ep:=x1d (d:=.int P) rfl (show(decide (3<=P)&&(decide (P<=9999)&&!z4e P))=true by rw[decide_eq_true p1,decide_eq_true (show P<=9999 by lia),hd];rfl)
 have ef:=s_A (d:=.int many) (a:=1) (b:=3) rfl
 have b:y4z (.int many) 1 3=true:=by
  show(decide (1<=many)&&decide (many<=3))=true
  rw[decide_eq_true m1,decide_eq_true m3];rfl
 rw[b] at ef
 have ec:=y2u 12 its l 0 (by lia) (by lia)
 have em:=x2r (P:=P) p1 (by lia) m1 m3 12 its l 0 (by lia) (by lia) (by lia) ho
 refine z8r (l_ex (d:=.int P) (by walk_at "evs";simp only[ep])) ?_
 refine z3m (by walk_at "evs";simp only[ef];walk_at "evs") ?_
 refine z8r (l_ex (d:=.int ((0+Raw.manys its:Nat):Int)) (by walk_at "evs";simp only[show(D.int 0)=D.int ((0:Nat):Int) from rfl,ec];try simp)) (z2l ?_)
 walk_at "evs"
 simp only[show(D.int 0)=D.int ((0:Nat):Int) from rfl,em]
noncomputable section
end
theorem x3o:sOk ("set":Str)=true:=by decide +kernel
theorem y8o:sOk ("again":Str)=true:=by decide +kernel
mutual
noncomputable def Item.raw0:Item->Raw
 | .set x f=>.set x f
 | .again n its=>.again n false (Item.raws0 its)
noncomputable def Item.raws0:List Item->List Raw
 | []=>[]
 | a::r=>a.raw0::Item.raws0 r
end
theorem x4i{P:Int}{f:List Int}(h:onW P f):f.map (·%P)=f:=by
 have:∀n∈f,n%P=n:=fun n hn=>Int.emod_eq_of_lt (h n hn).1 (h n hn).2
 exact(List.map_congr_left this).trans (List.map_id _)
mutual
theorem Item.raw0_keeps{P many:Int}:∀a:Item,a.ok P many->a.raw0.deep=a.deep/\a.raw0.many=a.many/\a.raw0.ok many/\a.raw0.made P=a/\a.raw0.d=a.d
 | .set x f,h=>by
   simp only[Item.ok] at h
   refine⟨rfl,rfl,?_,?_,rfl⟩
   ·simp only[Item.raw0,Raw.ok];exact⟨h.1,h.2.1,h.2.2.1⟩
   ·simp only[Item.raw0,Raw.made,x4i h.2.2.2]
 | .again n its,h=>by
   simp only[Item.ok] at h
   obtain⟨h1,h2,h3,h4,h5⟩:=Item.raws0_keeps its h.2.2
   refine⟨by simp only[Item.raw0,Raw.deep,Item.deep,h1],by simp only[Item.raw0,Raw.many,Item.many,h2],?_,by simp only[Item.raw0,Raw.made,h4],?_⟩
   ·simp only[Item.raw0,Raw.ok]
    exact⟨h.1,h.2.1,h3⟩
   ·simp only[Item.raw0,Raw.d,Item.d,seqd,h5]
    rfl
theorem Item.raws0_keeps{P many:Int}:∀its:List Item,Item.oks P many its->Raw.deeps (Item.raws0 its)=Item.deeps its/\Raw.manys (Item.raws0 its)=Item.manys its/\Raw.oks many (Item.raws0 its)/\Raw.mades P (Item.raws0 its)=its/\Raw.ds (Item.raws0 its)=Item.ds its
 | [],_=>⟨rfl,rfl,trivial,rfl,rfl⟩
 | a::r,h=>by
   simp only[Item.oks] at h
   obtain⟨h1,h2,h3,h4,h5⟩:=Item.raw0_keeps a h.1
   obtain⟨k1,k2,k3,k4,k5⟩:=Item.raws0_keeps r h.2
   exact⟨by simp only[Item.raws0,Raw.deeps,Item.deeps,h1,k1],by simp only[Item.raws0,Raw.manys,Item.manys,h2,k2],by simp only[Item.raws0,Raw.oks];exact⟨h3,k3⟩,by simp only[Item.raws0,Raw.mades,h4,k4],by simp only[Item.raws0,Raw.ds,Item.ds,h5,k5]⟩
end
mutual
theorem Raw.layD:∀(a:Raw) (k:Nat),2*a.deep+2<=k->D.lay k a.d=true
 | .set x f,k,h=>by
   obtain⟨k,rfl⟩:∃j,k=j+2:=⟨k-2,by simp only[Raw.deep] at h;lia⟩
   rw[Raw.d,z8i]
   simp only[List.all_cons,List.all_nil,y0f,z4b,x3o,z5t k f]
   rfl
 | .again n l its,k,h=>by
   simp only[Raw.deep] at h
   obtain⟨k,rfl⟩:∃j,k=j+2:=⟨k-2,by lia⟩
   have ih:=Raw.layDs its k (by lia)
   rw[Raw.d,z8i]
   have q:D.lay (k+1) (seqd l (Raw.ds its))=true:=by
    unfold seqd
    cases l
    ·exact(z8i _ _).trans ih
    ·exact(x4t _ _).trans ih
   simp only[List.all_cons,List.all_nil,y0f,z4b,y8o,q]
   rfl
theorem Raw.layDs:∀(its:List Raw) (k:Nat),2*Raw.deeps its+2<=k->(Raw.ds its).all (D.lay k)=true
 | [],_,_=>rfl
 | a::r,k,h=>by
   simp only[Raw.deeps] at h
   rw[Raw.ds,List.all_cons,Raw.layD a k (by lia),Raw.layDs r k (by lia)]
   rfl
end
mutual
theorem Raw.plD:∀(a:Raw),D.pl a.d=true
 | .set x f=>by
   rw[Raw.d,y1i]
   simp only[List.all_cons,List.all_nil,y8w,y5s]
   rfl
 | .again n l its=>by
   have ih:=Raw.plDs its
   have q:D.pl (seqd l (Raw.ds its))=true:=by
    unfold seqd
    cases l
    ·exact(y1i _).trans ih
    ·exact(x6f _).trans ih
   rw[Raw.d,y1i]
   simp only[List.all_cons,List.all_nil,y8w,q]
   rfl
theorem Raw.plDs:∀(its:List Raw),(Raw.ds its).all D.pl=true
 | []=>rfl
 | a::r=>by
   rw[Raw.ds,List.all_cons,Raw.plD a,Raw.plDs r]
   rfl
end
theorem y4k{P many:Int}{its:List Item}(h:Item.oks P many its):(Item.raws0 its).map Raw.d=its.map Item.d:=by
 induction its with
 | nil=>rfl
 | cons a r ih =>
   simp only[Item.oks] at h
   rw[Item.raws0,List.map_cons,List.map_cons,ih h.2,(Item.raw0_keeps a h.1).2.2.2.2]
section
variable {P:Int}
end
noncomputable section
noncomputable def z5u:G->R Fl :=
 (gSt (gSet 1 (gNL (gBin dAdd (gC (.int 3)) (gBin dMod (gV 0) (gC (.int 9971))))))
 (gSt (whGo (gT (z0i dAny (gCons (gL (z2y (z8m (gC (.int 2)) (gC (.int 100))) (z6y (gT (gBin dLt (gV 0) (gV 2))) (gNL (gBin dEq (gBin dMod (gV 2) (gV 0)) (gC (.int 0))))))) gNil))) (gSet 1 (gNL (gBin dAdd (gV 1) (gC (.int 1))))) 10000)
 (gRet (gV 1))))
noncomputable def z3l:List D->R D:=fnC 1 2 z5u
end
end L3
namespace L3
open PySem
local macro_rules | `(tactic| walk_at "evs") => wkL " L3.z8u L3.z4v L3.s_on L3.z2u L3.z5o L3.z5s L3.z5v L3.z5t L3.z6r L3.z5w L3.z2e L3.dAbs L3.dInt L3.y3p L3.y4y L3.y7p L3.y0o L3.z8a L3.gZip L3.y7j L3.y5c L3.z8h L3.gRep L3.D.isNon"
theorem x1c(c:Int):∃p:Int,z3l [.int c] = .ok (.int p)/\3<=p/\p<=9973/\z4e p=false:=by
 unfold z3l z5u
 have key:∀(n m:Nat) (Γ:G),m<n->(∃z:Int,Γ=[.ro (.int c),.ro (.int z)]/\3<=z/\z<=9973/\(9973-z).toNat=m) ->
  ∃z:Int,whGo (gT (z0i dAny (gCons (gL (z2y (z8m (gC (.int 2)) (gC (.int 100))) (z6y (gT (gBin dLt (gV 0) (gV 2))) (gNL (gBin dEq (gBin dMod (gV 2) (gV 0)) (gC (.int 0))))))) gNil))) (gSet 1 (gNL (gBin dAdd (gV 1) (gC (.int 1))))) n Γ = .ok (.nx [.ro (.int c),.ro (.int z)])/\3<=z/\z<=9973/\z4e z=false:=by
  refine z9d _ (fun r=>∃z:Int,r = .ok (.nx [.ro (.int c),.ro (.int z)])/\3<=z/\z<=9973/\z4e z=false) ?_
  rintro m Γ ⟨z,rfl,h1,h2,h3⟩
  rw[x2i]
  cases q:z4e z with
  | false=>exact .inl ⟨rfl,z,rfl,h1,h2,q⟩
  | true =>
    have hz:z≠9973:=fun e=>by rw[e] at q;exact absurd q (by decide +kernel)
    refine .inr ⟨rfl,.inl ⟨[.ro (.int c),.ro (.int (z+1))],(9973-(z+1)).toNat,by lia,.inl ?_,z+1,rfl,by lia,by lia,rfl⟩⟩
    walk_at "evs"
 have hz:3<=3+c%9971/\3+c%9971<=9973:=by lia
 obtain⟨z,e,h1,h2,h3⟩:=key 10000 (9973-(3+c%9971)).toNat [.ro (.int c),.ro (.int (3+c%9971))] (by lia) ⟨_,rfl,hz.1,hz.2,rfl⟩
 refine⟨z,?_,h1,h2,h3⟩
 walk_at "evs"
 rw[e]
 walk_at "evs"
theorem y9h{x X r:Int}(h0:0<=x)(h1:x<8*X)(r0:0<=r)(r1:r<1000000000000000000):x*999999999999999989+r<8*(X*1000000000000000000):=by lia
theorem y3d{x:Int}{j:Nat}(h0:0<=x)(h1:x<8*(1000000000000000000:Int)^j)(hj:j<=63):x.natAbs<bigN:=by
 have h2:(1000000000000000000:Nat)^j<=1000000000000000000^63:=Nat.pow_le_pow_right (by decide) hj
 have h3:8*(1000000000000000000:Nat)^63<=bigN:=by unfold bigN;decide +kernel
 have h4:((1000000000000000000:Nat)^j:Nat)=(1000000000000000000:Int)^j:=by rw[Int.natCast_pow];rfl
 rw[<-h4] at h1
 generalize (1000000000000000000:Nat)^63=B at h2 h3
 generalize (1000000000000000000:Nat)^j=A at h1 h2
 lia
noncomputable section
noncomputable def z4k:G->R Fl :=
 (gSt (gIfS (gT (gBin dEq (gBin dMod (gV 0) (gC (.int 2))) (gC (.int 0)))) (gRet (gTup (gCons (gBin dMod (gBin y0o (gV 0) (gC (.int 2))) (gC (.int 8))) (gCons (gBin y0o (gV 0) (gC (.int 16))) gNil)))) z2q)
 (gRet (gTup (gCons (gBin dMod (gBin y0o (gV 0) (gC (.int 2))) (gBin dAdd (gBin dPow (gC (.int 10)) (gC (.int 30))) (gC (.int 1)))) (gCons (gBin y0o (gBin y0o (gV 0) (gC (.int 2))) (gBin dAdd (gBin dPow (gC (.int 10)) (gC (.int 30))) (gC (.int 1)))) gNil)))))
noncomputable def z4o:List D->R D:=fnC 1 1 z4k
noncomputable def g_p:G->R Fl :=
 (gSt (gFor 3 (z5a (gV 2))
 (gSet 0 (gNL (gBin dDiv (gV 0) (gV 1)))))
 (gRet (gV 0)))
noncomputable def c_p:List D->R D:=fnC 3 4 g_p
noncomputable def z4j:G->R Fl :=
 (y9x 3 (gStP (z3b 4 (gLst gNil))
 (gStP (gSet 5 (gNL (gC (.int 30))))
 (gStP (gSet 6 (gNL (gC (.int 5))))
 (gStP (x2e 3 7 (z5a (gC (.int 300)))
 (gStP (gSet 8 (gNL (gBin dIx (gL (gLst (gCons (gC (.int 2)) (gCons (gBin dMod (gV 0) (gC (.int 4))) gNil)))) (z0i dInt (gCons (z7l (gBin dGt (gV 5) (gC (.int 0))) (gBin dGt (gV 0) (gC (.int 0)))) gNil)))))
 (gStP (gSet 0 (gNL (gBin dDiv (gV 0) (gC (.int 4)))))
 (gIfS (gAnd (gT (gBin dEq (gV 8) (gC (.int 1)))) (gAnd (gT (gBin dLt (z0i dLen (gCons (gV 4) gNil)) (gC (.int 3)))) (gT (gBin dGt (gV 6) (gC (.int 0)))))) (gStP (gUnp [9,0] (z0i z4o (gCons (gV 0) gNil)))
 (gStP (gApp 4 (gNL (gV 9)))
 (gStP (y7g 3)
 (gStP (gSet 5 (gNL (gBin dSub (gV 5) (gC (.int 1)))))
 (gSet 6 (gNL (gBin dSub (gV 6) (gC (.int 1))))))))) (gIfS (gAnd (gT (gBin dEq (gV 8) (gC (.int 2)))) (gT (gBin dGt (z0i dLen (gCons (gV 4) gNil)) (gC (.int 0))))) (gStP (y7f 3 10)
 (y1m 3 (z8l "again" 4 10))) (gIfS (gT (gBin dNe (gV 8) (gC (.int 2)))) (gStP (gSet 11 (gNL (gBin dMod (gV 0) (gV 2))))
 (gStP (gSet 12 (gNL (z0i c_f (gCons (gBin dDiv (gV 0) (gV 2)) (gCons (gV 1) (gCons (gBin dAdd (gV 2) (gC (.int 1))) gNil))))))
 (gStP (y7h 3 (gNL (gTup (gCons (gC (.str "set")) (gCons (gV 11) (gCons (gV 12) gNil))))))
 (gStP (gSet 0 (gNL (z0i c_p (gCons (gBin dDiv (gV 0) (gV 2)) (gCons (gV 1) (gCons (gBin dAdd (gV 2) (gC (.int 1))) gNil))))))
 (gSet 5 (gNL (gBin dSub (gV 5) (gC (.int 1))))))))) z2q))))))
 (gRet (z0i z1i (gCons (gBin dIx (gV 3) (gC (.int 0))) gNil))))))))
noncomputable def z4n:List D->R D:=fnC 3 13 z4j
noncomputable def z6p:G->R Fl :=
 (gRet (z0i z1i (gCons (gL (z2y (z5a (gV 0)) (fElt (gNL (gBin dAdd (gBin dAdd (gBin dMul (gTup (gCons (gC (.int 0)) gNil)) (gV 0)) (gTup (gCons (gC (.int 1)) gNil))) (gBin dMul (gTup (gCons (gC (.int 0)) gNil)) (gBin dSub (gV 1) (gV 0)))))))) gNil)))
noncomputable def z2j:List D->R D:=fnC 1 1 z6p
noncomputable def g_d:G->R Fl :=
 (gSt (z3b 3 (gLst gNil))
 (gSt (gFor 4 (gSeq (gVr 2))
 (gSt (z3b 5 (gCat (gRep (gLst (gCons (gC (.int 0)) gNil)) (gBin dSub (z0i dLen (gCons (gV 4) gNil)) (gC (.int 1)))) (gLst (gCons (gBin dIx (gV 4) (gNeg (gC (.int 1)))) gNil))))
 (gSt (gFor 6 (z5a (z0i dLen (gCons (gV 1) gNil)))
 (z3b 5 (z8a (gZip (gV 5) (gBin dIx (gV 1) (gV 6))) (y5c (gNL (gBin dMod (gBin dAdd (gV 0) (gBin dMul (gBin dIx (gV 6) (gV 8)) (gV 1))) (gV 2)))))))
 (gApp 3 (gNL (z0i z1i (gCons (gV 5) gNil)))))))
 (gRet (z0i z1i (gCons (gV 3) gNil)))))
noncomputable def c_d:List D->R D:=fnC 3 7 g_d
noncomputable def g_j:G->R Fl :=
 (gSt (z3b 3 (gLst gNil))
 (gSt (whGo (gT (gBin dGt (gV 2) (gC (.int 0)))) (gSt (gApp 3 (gNL (gBin dMod (gV 2) (gC (.int 2)))))
 (gSet 2 (gNL (gBin dDiv (gV 2) (gC (.int 2)))))) 200)
 (gSt (gSet 4 (gNL (z0i z2j (gCons (z0i dLen (gCons (gV 1) gNil)) gNil))))
 (gSt (gFrz 3 (gFor 5 (x5c (gVr 3))
 (gSt (gSet 4 (gNL (z0i c_d (gCons (gV 0) (gCons (gV 4) (gCons (gV 4) gNil))))))
 (gIfS (gT (gBin dEq (gV 5) (gC (.int 1)))) (gSet 4 (gNL (z0i c_d (gCons (gV 0) (gCons (gV 4) (gCons (gV 1) gNil)))))) z2q))))
 (gRet (gV 4))))))
noncomputable def c_j:List D->R D:=fnC 3 6 g_j
noncomputable def g_s(rec_s:List D->R D):G->R Fl :=
 (gSt (gSet 3 (gNL (z0i z2j (gCons (gV 1) gNil))))
 (gSt (gFor 4 (gSeq (gVr 2))
 (gSt (gSet 5 (gNL (z0i z2j (gCons (gV 1) gNil))))
 (gSt (gIfS (gT (gBin dEq (gBin dIx (gV 4) (gC (.int 0))) (gC (.str "set")))) (gSet 5 (gNL (gBin dAdd (gBin dAdd (gSl (gV 5) gON (gOS (gBin dIx (gV 4) (gC (.int 1))))) (gTup (gCons (gBin dIx (gV 4) (gC (.int 2))) gNil))) (gSl (gV 5) (gOS (gBin dAdd (gBin dIx (gV 4) (gC (.int 1))) (gC (.int 1)))) gON)))) (gSet 5 (gNL (z0i c_j (gCons (gV 0) (gCons (z0i rec_s (gCons (gV 0) (gCons (gV 1) (gCons (gBin dIx (gV 4) (gC (.int 2))) gNil)))) (gCons (gBin dIx (gV 4) (gC (.int 1))) gNil)))))))
 (gSet 3 (gNL (z0i c_d (gCons (gV 0) (gCons (gV 3) (gCons (gV 5) gNil)))))))))
 (gRet (gV 3))))
noncomputable def c_s:Nat->List D->R D
 | 0=>fun _=>.no
 | n+1=>fnC 3 6 (g_s (c_s n))
noncomputable def z3t:G->R Fl :=
 (gSt (gIfS (gT (gBin dEq (gBin dMod (gBin dDiv (z0i c_q (gCons (gV 0) (gCons (gC (.int 1)) gNil))) (gC (.int 3))) (gC (.int 2))) (gC (.int 0)))) (gRet (z0i dAbs (gCons (z0i c_q (gCons (gV 0) (gCons (gC (.int 2)) gNil))) gNil))) z2q)
 (gSt (gSet 1 (gNL (gC (.int 7))))
 (gSt (gFor 2 (gSeq (gVr 0))
 (gSet 1 (gNL (gBin dAdd (gBin y3p (gV 1) (gC (.int 999999999999999989))) (gBin dMod (gV 2) (gBin dPow (gC (.int 10)) (gC (.int 18))))))))
 (gRet (gBin y3p (gV 1) (gV 1))))))
noncomputable def z3u:List D->R D:=fnC 1 3 z3t
end
noncomputable def z6j(P:Int)(t:List (List Int))(f:List Int)(n k:Nat):List Int:=(List.range (n+1)).map fun place =>
 (sumN (fun x=>(f[x]?).getD 0*(((t[x]?).getD [])[place]?).getD 0) k+(if place=n then (f[n]?).getD 0 else 0))%P
theorem z5e{P:Int}{t:List (List Int)}{f:List Int}{n k:Nat}:(z6j P t f n k).length=n+1:=by unfold z6j;simp
theorem y9d{P:Int}{t:List (List Int)}{f:List Int}{n:Nat}(h:t.length=n):z6j P t f n n=z1w P t f:=by unfold z6j z1w;rw[h]
theorem y6y{P:Int}{t:List (List Int)}{f:List Int}{n:Nat}(hp:0<P)(hf:y4j P n f):z6j P t f n 0=List.replicate n 0++[(f[n]?).getD 0]:=by
 refine List.ext_getElem (by rw[z5e,List.length_append,List.length_replicate,List.length_singleton]) fun i h1 h2=>?_
 have ho:=y0u hp hf.1 n
 have e1:(z6j P t f n 0)[i]=(sumN (fun x=>(f[x]?).getD 0*(((t[x]?).getD [])[i]?).getD 0) 0+(if i=n then (f[n]?).getD 0 else 0))%P:=by simp[z6j]
 rw[e1,show sumN (fun x=>(f[x]?).getD 0*(((t[x]?).getD [])[i]?).getD 0) 0=0 from rfl,Int.zero_add]
 rw[z5e] at h1
 by_cases q:i=n
 ·subst q
  rw[if_pos rfl,List.getElem_append_right (by rw[List.length_replicate];lia)]
  simp only[List.length_replicate,Nat.sub_self,List.getElem_singleton]
  exact Int.emod_eq_of_lt ho.1 ho.2
 ·rw[if_neg q,List.getElem_append_left (by rw[List.length_replicate];lia),List.getElem_replicate]
  exact Int.zero_emod P
theorem y6z{P:Int}{t:List (List Int)}{f g:List Int}{n k:Nat}(hg:(t[k]?).getD []=g)(hl:g.length=n+1):((z6j P t f n k).zip g).map (fun p=>(p.1+(f[k]?).getD 0*p.2)%P)=z6j P t f n (k+1):=by
 refine List.ext_getElem (by rw[List.length_map,List.length_zip,z5e,z5e,hl,Nat.min_self]) fun i h1 h2=>?_
 rw[List.getElem_map,List.getElem_zip]
 have e1:∀k (h:i<(z6j P t f n k).length),(z6j P t f n k)[i]=(sumN (fun x=>(f[x]?).getD 0*(((t[x]?).getD [])[i]?).getD 0) k+(if i=n then (f[n]?).getD 0 else 0))%P:=fun k h=>by simp[z6j]
 rw[z5e] at h2
 have e2:g[i]'(by lia)=(g[i]?).getD 0:=by rw[List.getElem?_eq_getElem (by lia)];rfl
 rw[e1,e1,z1p,hg]
 simp only[e2]
 rw[Int.emod_add_emod]
 congr 1
 lia
theorem z9o{P:Int}{n:Nat}{a b:List (List Int)}(hp:0<P)(hP:P<1000000)(ha:z3z P n a)(hb:z3z P n b)(hn:n<=50):c_d [.int P,tabD a,tabD b] = .ok (tabD (z2w P a b)):=by
 refine z1n rfl ?_
 delta g_d
 have la:=ha.1
 have lb:=hb.1
 have nb:=z6k b
 have na:=z6k a
 refine z8q (ds:=[]) (by walk_at "evs") ?_
 simp only[tabD]
 refine z6v (ds:=b.map rowD) (fun j Γ=>∃x4 x5 x6,Γ=[.ro (.int P),.ro (.tup (a.map rowD)),.ro (.tup (b.map rowD)),.own (((b.take j).map (z1w P a)).map rowD),x4,x5,x6]) (by walk_at "evs") ⟨_,_,_,rfl⟩ ?_ ?_
 ·rintro j d Γ hd ⟨x4,x5,x6,rfl⟩
  rw[List.getElem?_map] at hd
  cases hj:b[j]? with
  | none=>rw[hj] at hd;cases hd
  | some f =>
    rw[hj] at hd
    injection hd with hd
    subst hd
    obtain⟨jl,ej⟩:=List.getElem?_eq_some_iff.mp hj
    have hf:=hb.2 f (List.mem_of_getElem? hj)
    have fl:f.length=n+1:=hf.2
    have flat:(List.replicate n [D.int 0]).flatten=(List.replicate n (0:Int)).map D.int:=x5d n
    have gg:(0:Int)<=(n:Int)/\(n:Int)<1000000/\1*n<=1000:=by lia
    have n1:D.noLs [D.int 0]=true:=z0s [0]
    have n2:D.noLs [D.int ((f[n]?).getD 0)]=true:=z0s [_]
    have af:atI (f.map D.int) (-1)=some (.int ((f[n]?).getD 0)):=by
     rw[atI_neg (by decide) (by rw[List.length_map];lia),List.length_map,fl,show((-1:Int)+((n+1:Nat):Int)).toNat=n by lia,List.getElem?_map,List.getElem?_eq_getElem (by lia)]
     rfl
    have el:((f.map D.int).length:Int)-1=(n:Int):=by rw[List.length_map];lia
    have tk:(b.take (j+1)).map (z1w P a)=(b.take j).map (z1w P a)++[z1w P a f]:=by rw[List.take_succ,hj];simp
    show Ends (gSt (z3b 5 _) _ [.ro (.int P),.ro (.tup (a.map rowD)),.ro (.tup (b.map rowD)),.own (((b.take j).map (z1w P a)).map rowD),.ro (rowD f),x5,x6]) _
    rw[z8q (ds:=(z6j P a f n 0).map D.int) (by
     rw[y6y hp hf,List.map_append]
     simp only[z2t]
     walk_at "evs"
     simp only[af]
     walk_at "evs"
     rw[fl]
     try rw[show((n+1:Nat):Int)-1=(n:Int) by lia]
     walk_at "evs"
     rw[flat]
     have lr:(List.replicate n (0:Int)).length+1<=1000:=by rw[List.length_replicate];lia
     walk_at "evs"
     try rfl) rfl]
    refine x0o (ds:=z2r 0 n) (fun r=>Ends r fun Γ=>∃x4 x5 x6,Γ=[.ro (.int P),.ro (.tup (a.map rowD)),.ro (.tup (b.map rowD)),.own (((b.take (j+1)).map (z1w P a)).map rowD),x4,x5,x6]) (fun k Γ=>∃x6,Γ=[.ro (.int P),.ro (.tup (a.map rowD)),.ro (.tup (b.map rowD)),.own (((b.take j).map (z1w P a)).map rowD),.ro (rowD f),.own ((z6j P a f n k).map D.int),x6]) (by walk_at "evs";try rw[la]) ⟨_,rfl⟩ ?_ ?_
    ·rintro k d Γ hk ⟨y6,rfl⟩
     obtain⟨kn,rfl⟩:=z9p hk
     rw[show(0:Int)+(k:Int)=(k:Int) by lia]
     have kl:k<a.length:=by lia
     have hg:(a[k]?).getD []=a[k]:=by rw[List.getElem?_eq_getElem kl];rfl
     have hak:=ha.2 a[k] (List.getElem_mem kl)
     have gl:a[k].length=n+1:=hak.2
     have ak:atI (a.map rowD) (k:Int)=some (rowD a[k]):=by rw[z3y,List.getElem?_map,List.getElem?_eq_getElem kl];rfl
     have fk:=x5r (r:=f) (p:=k) (by lia)
     have ff:z9b (vec f k):=y5b (hf.1.fits (by lia)) k
     have hz:(zipD ((z6j P a f n k).map D.int) (a[k].map D.int)).length<=100000:=by rw[z9j,z5e];lia
     have n12:=And.intro (z0s (z6j P a f n k)) (z0s a[k])
     refine .nx (y9q (ds:=(z6j P a f n (k+1)).map D.int) ?_) ⟨_,rfl⟩
     rw[<-y6z hg gl]
     simp only[z2t] at ak ⊢
     walk_at "evs"
     simp only[ak]
     walk_at "evs"
     rw[y1p (h:=fun x y=>(x+vec f k*y)%P)]
     ·rfl
     ·intro x hx y hy
      walk_at "evs"
      simp only[fk]
      walk_at "evs"
    ·rintro Γ ⟨y6,rfl⟩
     rw[z0o,y9d la]
     have nh:=z2e (z1w P a f)
     refine .nx ((x1w (d:=rowD (z1w P a f)) rfl (by simp only[z2t] at nh ⊢;walk_at "evs") (by rw[List.length_map,List.length_map,List.length_take];lia)).trans rfl) ⟨.ro (rowD f),.own ((z1w P a f).map D.int),y6,?_⟩
     rw[tk,List.map_append]
     rfl
 ·rintro Γ ⟨x4,x5,x6,rfl⟩
  rw[List.length_map,List.take_length]
  have nt:=z6k (z2w P a b)
  exact z2l (by walk_at "evs";rfl)
theorem y4g{n k:Nat}(hk:k<n):z5c n k=List.replicate k 0++1::List.replicate (n-1-k) 0:=by
 refine List.ext_getElem (by rw[z4t,List.length_append,List.length_cons,List.length_replicate,List.length_replicate];lia) fun i h1 h2=>?_
 have e1:(z5c n k)[i]=if i=k then 1 else 0:=by simp[z5c]
 rw[e1]
 rcases Nat.lt_trichotomy i k with z | z | z
 ·rw[if_neg (by lia),List.getElem_append_left (by rw[List.length_replicate];exact z),List.getElem_replicate]
 ·subst z
  rw[if_pos rfl,List.getElem_append_right (by rw[List.length_replicate];lia)]
  simp
 ·rw[if_neg (by lia),List.getElem_append_right (by rw[List.length_replicate];lia)]
  have:i-(List.replicate k (0:Int)).length=(i-k-1)+1:=by rw[List.length_replicate];lia
  simp only[this,List.getElem_cons_succ,List.getElem_replicate]
theorem y5n{n:Nat}(hn:n<=50):z2j [.int (n:Int)] = .ok (tabD (z2x n)):=by
 refine z1n rfl ?_
 unfold z6p
 refine z2l ?_
 walk_at "evs"
 unfold z2r
 rw[z2b (h:=fun k=>rowD (z5c (n+1) k)),y0b]
 ·have nt:=z6k (z2x n)
  walk_at "evs"
  rfl
 ·intro k hk
  have hk:=List.mem_range.mp hk
  have f1:=x5d k
  have f2:=x5d (n-k)
  have nn:=z2e (z5c (n+1) k)
  have ek:((n:Int)-(k:Int)).toNat=n-k:=by lia
  have g1:(0:Int)<=(k:Int)/\(k:Int)<1000000/\1*k<=1000:=by lia
  have g2:(0:Int)<=(n:Int)-(k:Int)/\(n:Int)-(k:Int)<1000000/\1*((n:Int)-(k:Int)).toNat<=1000:=by lia
  have em:(List.replicate k (0:Int)).map D.int++D.int 1::(List.replicate (n-k) (0:Int)).map D.int=(z5c (n+1) k).map D.int:=by
   rw[y4g (show k<n+1 by lia),List.map_append,List.map_cons,show n+1-1-k=n-k by lia]
  rw[show(0:Int)+(k:Int)=(k:Int) by lia]
  simp only[z2t] at nn ⊢
  walk_at "evs"
  rw[ek,f1,f2]
  walk_at "evs"
  rw[em]
  walk_at "evs"
theorem x3m{P:Int}(hp:0<P)(hP:P<1000000){k:Nat}(hk:k<=100)(c:Int):c_p [.int c,.int P,.int (k:Int)] = .ok (.int (divs P k c)):=by
 refine z1n rfl ?_
 delta g_p
 refine z6v (ds:=z2r 0 k) (fun j Γ=>∃x3,Γ=[.ro (.int (divs P j c)),.ro (.int P),.ro (.int (k:Int)),x3]) (by walk_at "evs") ⟨_,rfl⟩ ?_ ?_
 ·rintro j d Γ hd ⟨x3,rfl⟩
  refine .nx (z4s (d:=.int (divs P j c/P)) (by walk_at "evs")) ⟨_,rfl⟩
 ·rintro Γ ⟨x3,rfl⟩
  rw[z0o]
  exact z2l (by walk_at "evs")
end L3
namespace L3
open PySem
local macro_rules | `(tactic| walk_at "evs") => wkL " L3.z8u L3.z4v L3.s_on L3.z2u L3.z5o L3.z5s L3.z5v L3.z5t L3.z6r L3.z5w L3.z2e L3.dAbs L3.dInt L3.y3p L3.y4y L3.y7p L3.y0o L3.Item.d L3.Item.ds_map L3.y5d L3.y8e L3.y8f L3.y4w L3.y0g L3.z8a L3.gZip L3.y7j L3.y5c L3.z8h L3.gRep L3.D.isNon L3.x5c"
noncomputable def z8o(n j:Nat):List Int:=(List.range j).map fun i=>((n/2^i%2:Nat):Int)
theorem z5g{n j:Nat}:(z8o n j).length=j:=by unfold z8o;simp
theorem y7m{n j:Nat}:z8o n (j+1)=z8o n j++[((n/2^j%2:Nat):Int)]:=by unfold z8o;rw[List.range_succ,List.map_append];rfl
theorem x5f(n:Nat):n/2^figZ n=0:=by
 rcases Nat.eq_zero_or_pos (n/2^figZ n) with h | h
 ·exact h
 ·exact absurd (y3k.mpr (y2i.mp h)) (Nat.lt_irrefl _)
theorem y3i(n j:Nat):n/2^(j+1)=n/2^j/2:=by rw[Nat.pow_succ,Nat.div_div_eq_div_mul]
theorem x5n{i k:Nat}{gs:G->R (List D)}{gb u:G->R Fl}{Γ:G}{ds es:List D}{r:R Fl}(ho:Γ[i]? = some (.own ds))(I:Nat->G->Prop)(h0:I 0 (Γ.set i (.ro (.lst ds))))(hs:gs (Γ.set i (.ro (.lst ds))) = .ok es)(hq:∀(j:Nat) (d:D) (Γ:G),es[j]? = some d->I j Γ->Ends (gb (Γ.set k (.ro d))) (I (j+1)))(h:∀Γ',I es.length Γ'->u Γ'=r):gSt (gFrz i (gFor k gs gb)) u Γ=r:=by
 have e:frzAt i Γ=Γ.set i (.ro (.lst ds)):=by unfold frzAt;rw[ho]
 have h2:=z6v (u:=u) (r:=r) (gb:=gb) (i:=k) I hs h0 hq h
 have e3:gSt (gFrz i (gFor k gs gb)) u Γ=gSt (gFor k gs gb) u (Γ.set i (.ro (.lst ds))):=by unfold gSt gFrz;rw[e]
 rw[e3]
 exact h2
theorem y5m{P:Int}{m n:Nat}{t:List (List Int)}(p1:3<=P)(p2:P<=9973)(hm:m<=3)(ht:z3z P m t)(hn:n<2^150):c_j [.int P,tabD t,.int n] = .ok (tabD (powZ P m t n)):=by
 refine z1n rfl ?_
 delta g_j
 have hp:1<P:=by lia
 have hF:=x0c hn
 have lt:=ht.1
 refine z8q (ds:=[]) (by walk_at "evs") ?_
 have loop:=z9d (gc:=gT (gBin dGt (gV 2) (gC (.int 0)))) (gb:=gSt (gApp 3 (gNL (gBin dMod (gV 2) (gC (.int 2))))) (gSet 2 (gNL (gBin dDiv (gV 2) (gC (.int 2))))))
  (fun k Γ=>∃j:Nat,j<=figZ n/\k=figZ n-j/\Γ=[.ro (.int P),.ro (tabD t),.ro (.int ((n/2^j:Nat):Int)),.own ((z8o n j).map D.int),.no,.no])
  (fun r=>∃x2,r = .ok (.nx [.ro (.int P),.ro (tabD t),x2,.own ((z8o n (figZ n)).map D.int),.no,.no])) ?_ 200 (figZ n) [.ro (.int P),.ro (tabD t),.ro (.int n),.own [],.no,.no] (by lia) ⟨0,Nat.zero_le _,by lia,by rw[Nat.pow_zero,Nat.div_one];rfl⟩
 rotate_left
 ·rintro k Γ ⟨j,hj,rfl,rfl⟩
  by_cases h:j<figZ n
  ·have b1:decide ((0:Int)<((n/2^j:Nat):Int))=true:=decide_eq_true (by have:=y2i.mpr (y3k.mp h);lia)
   refine .inr ⟨by walk_at "evs";simp only[b1],.inl ⟨_,figZ n-(j+1),by lia,.inl ?_,j+1,by lia,rfl,rfl⟩⟩
   have hl:((z8o n j).map D.int).length<=100000:=by rw[List.length_map,z5g];lia
   refine z8r (x1w (d:=.int ((n/2^j%2:Nat):Int)) rfl (by walk_at "evs";try rfl) hl) ?_
   rw[y7m,List.map_append]
   exact(z4s (d:=.int ((n/2^(j+1):Nat):Int)) (by rw[y3i];walk_at "evs";try rfl)).trans rfl
  ·have b1:decide ((0:Int)<((n/2^j:Nat):Int))=false:=decide_eq_false fun z=>h (y3k.mpr (y2i.mp (by lia)))
   have ej:j=figZ n:=by lia
   subst ej
   exact .inl ⟨by walk_at "evs";simp only[b1],_,rfl⟩
 obtain⟨x2,e2⟩:=loop
 refine z8r e2 ?_
 have ei:=y5n (n:=m) (by lia)
 refine z2s (d:=tabD (powZ P m t 0)) ?_ ?_
 ·have:=z2h (z2x m)
  simp only[tabD] at ei ⊢
  walk_at "evs"
  rw[lt]
  simp only[ei]
  walk_at "evs"
  rfl
 refine x5n (es:=((z8o n (figZ n)).map D.int).reverse) rfl (fun j Γ=>∃x5,Γ=[.ro (.int P),.ro (tabD t),x2,.ro (.lst ((z8o n (figZ n)).map D.int)),.ro (tabD (powZ P m t (n/2^(figZ n-j)))),x5]) ⟨.no,by rw[Nat.sub_zero,x5f];rfl⟩ (by walk_at "evs") ?_ ?_
 ·rintro j d Γ hd ⟨x5,rfl⟩
  have hj:j<figZ n:=by
   rcases Nat.lt_or_ge j (figZ n) with z | z
   ·exact z
   ·rw[List.getElem?_eq_none (by rw[List.length_reverse,List.length_map,z5g];exact z)] at hd;cases hd
  have hk:figZ n-j=figZ n-(j+1)+1:=by lia
  obtain⟨k,ek⟩:∃k,k=figZ n-(j+1):=⟨_,rfl⟩
  have hd2:d = .int ((n/2^k%2:Nat):Int):=by
   rw[List.getElem?_reverse (by rw[List.length_map,z5g];exact hj),List.length_map,z5g,show figZ n-1-j=k by lia,List.getElem?_map,List.getElem?_eq_getElem (by rw[z5g];lia)] at hd
   simp[z8o] at hd
   rw[<-hd]
   rfl
  subst hd2
  rw[hk,<-ek]
  have o1:=z3q hp ht (n/2^(k+1))
  have j1:=z9o (P:=P) (n:=m) (by lia) (by lia) o1 o1 (by lia)
  rw[y1h hp ht] at j1
  have o2:=z3q hp ht (2*(n/2^(k+1)))
  have j2:=z9o (P:=P) (n:=m) (by lia) (by lia) o2 ht (by lia)
  have n1:=z2h (powZ P m t (2*(n/2^(k+1))))
  have n2:=z2h (z2w P (powZ P m t (2*(n/2^(k+1)))) t)
  show Ends (gSt (gSet 4 _) _ [.ro (.int P),.ro (tabD t),x2,.ro (.lst ((z8o n (figZ n)).map D.int)),.ro (tabD (powZ P m t (n/2^(k+1)))),.ro (.int ((n/2^k%2:Nat):Int))]) _
  rw[z2s (d:=tabD (powZ P m t (2*(n/2^(k+1))))) (by walk_at "evs";simp only[j1];walk_at "evs") rfl]
  have hh:=y3i n k
  rcases Nat.mod_two_eq_zero_or_one (n/2^k) with q | q
  ·have e1:2*(n/2^(k+1))=n/2^k:=by lia
   refine .nx ((y5z (by rw[q];walk_at "evs";try rfl)).trans rfl) ⟨.ro (.int ((n/2^k%2:Nat):Int)),?_⟩
   rw[e1]
   rfl
  ·have e1:n/2^k=2*(n/2^(k+1))+1:=by lia
   refine .nx ((y0h (by rw[q];walk_at "evs";try rfl) (z4s (d:=tabD (z2w P (powZ P m t (2*(n/2^(k+1)))) t)) (by
    show gNL (z0i c_d _) [.ro (.int P),.ro (tabD t),x2,.ro (.lst ((z8o n (figZ n)).map D.int)),.ro (tabD (powZ P m t (2*(n/2^(k+1))))),.ro (.int ((n/2^k%2:Nat):Int))]=_
    walk_at "evs";simp only[j2];walk_at "evs"))).trans rfl) ⟨.ro (.int ((n/2^k%2:Nat):Int)),?_⟩
   rw[e1]
   rfl
 ·rintro Γ ⟨x5,rfl⟩
  rw[List.length_reverse,List.length_map,z5g,Nat.sub_self,Nat.pow_zero,Nat.div_one]
  exact z2l (by walk_at "evs")
theorem y8i{α:Type}{l:List α}{x:Nat}{f:α}(h:x<l.length):l.take x++f::l.drop (x+1)=l.set x f:=by
 rw[List.set_eq_take_append_cons_drop,if_pos h]
theorem y8n{P:Int}{m:Nat}(p1:3<=P)(p2:P<=9973)(hm:m<=3):∀(k:Nat) (its:List Item),Item.deeps its+1<=k->Item.oks P m its->c_s k [.int P,.int m,.tup (its.map Item.d)] = .ok (tabD (Item.tabs P m its))
 | 0,_,h,_=>by lia
 | k+1,its,h,ho=>by
   have hp:1<P:=by lia
   show fnC 3 6 (g_s (c_s k)) _=_
   refine z1n rfl ?_
   delta g_s
   have hn:=Item.noLs' its
   have ei:=y5n (n:=m) (by lia)
   have ni:=z2h (z2x m)
   refine z2s (d:=tabD (Item.tabs P m (its.take 0))) ?_ ?_
   ·walk_at "evs"
    simp only[ei]
    walk_at "evs"
    rfl
   refine z6v (ds:=its.map Item.d) (fun j Γ=>∃x4 x5,Γ=[.ro (.int P),.ro (.int m),.ro (.tup (its.map Item.d)),.ro (tabD (Item.tabs P m (its.take j))),x4,x5]) (by walk_at "evs") ⟨_,_,rfl⟩ ?_ ?_
   ·rintro j d Γ hd ⟨x4,x5,rfl⟩
    obtain⟨a,ea,rfl,ha⟩:=y3j hd
    have oka:=Item.oks_iff.mp ho a ha
    have okt:=Item.oks_take ho j
    have na:=a.noL
    show Ends (gSt (gSet 5 _) _ [.ro (.int P),.ro (.int m),.ro (.tup (its.map Item.d)),.ro (tabD (Item.tabs P m (its.take j))),.ro a.d,x5]) _
    rw[z2s (d:=tabD (z2x m)) (by walk_at "evs";simp only[ei];walk_at "evs") rfl]
    have eth:=z9o (P:=P) (n:=m) (by lia) (by lia) (Item.tabs_ok hp _ okt) (Item.tab_ok hp a oka) (by lia)
    have et:Item.tabs P m (its.take (j+1))=z2w P (Item.tabs P m (its.take j)) (a.tab P m):=by
     rw[y2q ea,Item.tabs_append hp okt (by simp only[Item.oks];exact⟨oka,trivial⟩),Item.tabs_one hp oka]
    rw[z8r (Γ':=[.ro (.int P),.ro (.int m),.ro (.tup (its.map Item.d)),.ro (tabD (Item.tabs P m (its.take j))),.ro a.d,.ro (tabD (a.tab P m))]) ?_ rfl]
    ·refine .nx (z4s (d:=tabD (Item.tabs P m (its.take (j+1)))) ?_) ⟨.ro a.d,.ro (tabD (a.tab P m)),rfl⟩
     have:=z2h (z2w P (Item.tabs P m (its.take j)) (a.tab P m))
     rw[et]
     walk_at "evs"
     simp only[eth]
     walk_at "evs"
    ·cases a with
     | set x f =>
       simp only[Item.ok] at oka
       obtain⟨y,rfl⟩:∃y:Nat,x=(y:Int):=⟨x.toNat,by lia⟩
       refine(y0h (by walk_at "evs") (z4s (d:=tabD ((z2x m).set y f)) ?_)).trans rfl
       have li:(z2x m).length=m:=by unfold z2x;simp
       have ns:=z2h ((z2x m).set y f)
       have ry:y2v (y:Int):=z0r (by lia)
       have ry1:y2v ((y:Int)+1):=z0r (by lia)
       have sp:=y8i (l:=(z2x m).map rowD) (x:=y) (f:=rowD f) (by rw[List.length_map];lia)
       simp only[tabD] at ns ⊢
       walk_at "evs"
       rw[show(y:Int)+1=((y+1:Nat):Int) from rfl,x5i,x0j]
       rw[z0w (by rw[List.length_take,List.length_map];lia)]
       walk_at "evs"
       rw[z0w (by rw[List.length_take,List.length_drop,List.length_map];lia),sp,<-List.map_set]
       walk_at "evs"
     | again n i =>
       have h1:=Item.deeps_le.mp (Nat.le_refl (Item.deeps its)) _ ha
       simp only[Item.deep] at h1
       simp only[Item.ok] at oka
       obtain⟨y,rfl,ey,hy⟩:=y6g oka.1 oka.2.1
       have ih:=y8n p1 p2 hm k i (by lia) oka.2.2
       have er:=y5m (n:=y) p1 p2 hm (Item.tabs_ok hp i oka.2.2) hy
       have ns:=z2h (powZ P m (Item.tabs P m i) y)
       refine(x1v (by walk_at "evs") (z4s (d:=tabD (powZ P m (Item.tabs P m i) y)) ?_)).trans rfl
       walk_at "evs"
       simp only[ih]
       walk_at "evs"
       simp only[er]
       walk_at "evs"
   ·rintro Γ ⟨x4,x5,rfl⟩
    refine z2l ?_
    walk_at "evs"
    rw[List.take_of_length_le (Nat.le_refl _)]
theorem x1f(c:Int):∃n r:Int,z4o [.int c] = .ok (.tup [.int n,.int r])/\0<=n/\n<=10^30:=by
 suffices h:∃n r:Int,z4k [.ro (.int c)] = .ok (.rt (.tup [.int n,.int r]))/\0<=n/\n<=10^30 by
  obtain⟨n,r,e,h⟩:=h
  exact⟨n,r,z1n rfl e,h⟩
 unfold z4k
 have t30:(0:Int)<10^30+1:=by decide
 have b2:(0:Int)<2/\(2:Int).natAbs<bigN:=⟨by decide,by unfold bigN;decide +kernel⟩
 have b16:(0:Int)<16/\(16:Int).natAbs<bigN:=⟨by decide,by unfold bigN;decide +kernel⟩
 have b30:(0:Int)<10^30+1/\((10:Int)^30+1).natAbs<bigN:=⟨t30,by unfold bigN;decide +kernel⟩
 have e30:(10:Int)^(30:Int).toNat+1=10^30+1:=rfl
 have g10:(0:Int)<=30/\(30:Int)<=1000000/\(10:Int).natAbs<18446744073709551616:=by decide
 have e8:(8:Int)<=10^30:=by decide
 by_cases h:c%2=0
 ·refine⟨c/2%8,c/16,y7s (y0h ?_ (z2l ?_)),by lia,by lia⟩
  ·walk_at "evs"
   rw[h]
   rfl
  ·walk_at "evs"
 ·have h1:(c%2==0)=false:=by simp[h]
  refine⟨c/2%(10^30+1),c/2/(10^30+1),z3m ?_ (z2l ?_),Int.emod_nonneg _ (by lia),?_⟩
  ·walk_at "evs"
   rw[h1]
  ·walk_at "evs"
  ·have:=Int.emod_lt_of_pos (c/2) t30
   exact Int.lt_add_one_iff.mp this
theorem y8m{ns:List Int}(hn:ns.length<=63):∃N:Int,z3u [.lst (ns.map D.int)] = .ok (.int N):=by
 suffices h:∃N:Int,z3t [.ro (.lst (ns.map D.int)),.no,.no] = .ok (.rt (.int N)) by
  obtain⟨N,e⟩:=h
  exact⟨N,z1n rfl e⟩
 unfold z3t
 by_cases hc:z6t ns 1/3%2=0
 ·have hb:(z6t ns 1/3%2==0)=true:=by simp[hc]
  refine⟨_,y7s (y0h (by walk_at "evs";rw[hb]) (z2l (by walk_at "evs";rfl)))⟩
 ·have hb:(z6t ns 1/3%2==0)=false:=by simp[hc]
  rw[z3m (by walk_at "evs";rw[hb]) rfl]
  rw[z2s (d:=.int 7) (by walk_at "evs") rfl]
  refine x0o (ds:=ns.map D.int) (fun r=>∃N:Int,r = .ok (.rt (.int N))) (fun j Γ=>∃(x:Int) (x2:En),Γ=[.ro (.lst (ns.map D.int)),.ro (.int x),x2]/\0<=x/\x<8*(1000000000000000000:Int)^j) (by walk_at "evs") ⟨7,_,rfl,by lia,by decide⟩ ?_ ?_
  ·rintro j d Γ hd ⟨x,x2,rfl,h0,h1⟩
   rw[List.getElem?_map] at hd
   cases hi:ns[j]? with
   | none=>rw[hi] at hd;cases hd
   | some c =>
     rw[hi] at hd
     injection hd with hd
     subst hd
     have hj:j<ns.length:=(List.getElem?_eq_some_iff.mp hi).1
     have fit:z6w x 999999999999999989:=⟨y3d h0 h1 (by lia),x7p (show(999999999999999989:Int).natAbs<=10^300 from Nat.le_trans (show _<=10^18 by decide) (Nat.pow_le_pow_right (by decide) (by decide)))⟩
     have e18:(10:Int)^(18:Int).toNat=1000000000000000000:=rfl
     refine .nx (z4s (d:=.int (x*999999999999999989+c%1000000000000000000)) ?_) ⟨_,_,rfl,by lia,?_⟩
     ·walk_at "evs"
      try rfl
     ·rw[Int.pow_succ]
      exact y9h h0 h1 (by lia) (by lia)
  ·rintro Γ ⟨x,x2,rfl,h0,h1⟩
   rw[List.length_map] at h1
   have f1:=y3d h0 h1 hn
   have fit:z6w x x:=⟨f1,f1⟩
   exact⟨_,z2l (by walk_at "evs";rfl)⟩
noncomputable def encP(q:List Item):D:=.lst (q.map Item.d)
theorem y8u(n:Int):z2g (.ro (.int n)):=z1o n
theorem z7t{ds:List D}(h:D.noLs ds=true):z2g (.own ds):=h
theorem y5r{d:D}(h:d.noL=true):z2g (.ro d):=h
theorem y2w{a0 a1 a2 a3 a4 a5 a6 a7 a8 a9 a10 a11 a12:En}(h0:z2g a0)(h1:z2g a1)(h2:z2g a2)(h4:z2g a4)(h5:z2g a5)(h6:z2g a6)(h7:z2g a7)(h8:z2g a8)(h9:z2g a9)(h10:z2g a10)(h11:z2g a11)(h12:z2g a12):z1t 3 [a0,a1,a2,a3,a4,a5,a6,a7,a8,a9,a10,a11,a12]:=by
 intro j e hj he
 match j with
 | 0=>cases he;exact h0
 | 1=>cases he;exact h1
 | 2=>cases he;exact h2
 | 3=>exact absurd rfl hj
 | 4=>cases he;exact h4
 | 5=>cases he;exact h5
 | 6=>cases he;exact h6
 | 7=>cases he;exact h7
 | 8=>cases he;exact h8
 | 9=>cases he;exact h9
 | 10=>cases he;exact h10
 | 11=>cases he;exact h11
 | 12=>cases he;exact h12
 | n+13=>cases he
theorem bsP{t u:G->R Fl}{Γ Γ':G}{r:R Fl}(h:t Γ = .ok (.nx Γ'))(h2:u Γ'=r):gStP t u Γ=r:=by unfold gStP;rw[h];exact h2
theorem y0l{gb:G->R Fl}{i:Nat}(I:G->Prop):∀(ds:List D) {Γ:G},(∀d∈ds,∀Γ,I Γ->∃Γ',gb (Γ.set i (.ro d)) = .ok (.nx Γ')/\I Γ')->I Γ->∃Γ',z5f gb i ds Γ = .ok (.nx Γ')/\I Γ'
 | [],Γ,_,h=>⟨Γ,rfl,h⟩
 | d::ds,Γ,hq,h=>by
   obtain⟨Γ',e,h'⟩:=hq d (List.mem_cons_self ..) Γ h
   obtain⟨Γ2,e2,h2⟩:=y0l I ds (fun d hd=>hq d (List.mem_cons_of_mem _ hd)) h'
   refine⟨Γ2,?_,h2⟩
   rw[z5f,e]
   exact e2
noncomputable def z4d(P m:Int)(ps:List (List Item))(cs:List Int)(room:Int):Prop :=
 ps.length=cs.length+1/\cs.length<=3/\(∀c∈cs,0<=c/\c<=10^30)/\(∀i q,ps[i]? = some q->Item.oks P m q/\Item.deeps q+i<=3)/\0<=room/\((((ps.map Item.manys).sum+cs.length:Nat):Int))+room<=30
theorem z4d.open{P m:Int}{ps:List (List Item)}{cs:List Int}{room c:Int}(h:z4d P m ps cs room)(h3:cs.length<3)(hr:0<room)(c0:0<=c)(c1:c<=10^30):z4d P m (ps++[[]]) (cs++[c]) (room-1):=by
 obtain⟨a1,a2,a3,a4,a5,a6⟩:=h
 refine⟨by simp;lia,by simp;lia,fun d hd=>?_,fun i q hi=>?_,by lia,?_⟩
 ·rcases List.mem_append.mp hd with z | z
  ·exact a3 d z
  ·rw[List.mem_singleton] at z;subst z;exact⟨c0,c1⟩
 ·rcases Nat.lt_or_ge i ps.length with z | z
  ·rw[List.getElem?_append_left z] at hi;exact a4 i q hi
  ·rw[List.getElem?_append_right z] at hi
   have hi0:i-ps.length=0:=by
    rcases Nat.eq_zero_or_pos (i-ps.length) with y | y
    ·exact y
    ·rw[List.getElem?_eq_none (by simp;lia)] at hi;cases hi
   rw[hi0] at hi
   cases hi
   simp only[Item.oks,Item.deeps]
   exact⟨trivial,by lia⟩
 ·rw[List.map_append,List.sum_append,List.length_append]
  simp only[List.map_cons,List.map_nil,List.sum_cons,List.sum_nil,Item.manys,List.length_cons,List.length_nil]
  lia
theorem y7o{q:List Item}{a:Item}{k:Nat}(h:Item.deeps q<=k)(ha:a.deep<=k):Item.deeps (q++[a])<=k:=by
 rw[Item.deeps_le] at h ⊢
 intro x hx
 rcases List.mem_append.mp hx with z | z
 ·exact h x z
 ·rw[List.mem_singleton] at z;subst z;exact ha
theorem y3a{P m:Int}{qs:List (List Item)}{q:List Item}{a:Item}(h:∀i r,(qs++[q])[i]? = some r->Item.oks P m r/\Item.deeps r+i<=3)(ha:a.ok P m)(hd:a.deep+qs.length<=3):∀i r,(qs++[q++[a]])[i]? = some r->Item.oks P m r/\Item.deeps r+i<=3:=by
 intro i r hi
 rcases Nat.lt_or_ge i qs.length with z | z
 ·refine h i r ?_
  rw[List.getElem?_append_left z] at hi ⊢
  exact hi
 ·rw[List.getElem?_append_right z] at hi
  have hi0:i-qs.length=0:=by
   rcases Nat.eq_zero_or_pos (i-qs.length) with y | y
   ·exact y
   ·rw[List.getElem?_eq_none (by simp;lia)] at hi;cases hi
  rw[hi0] at hi
  cases hi
  have e:i=qs.length:=by lia
  subst e
  obtain⟨h1,h2⟩:=h qs.length q (by rw[List.getElem?_append_right (Nat.le_refl _),Nat.sub_self];rfl)
  refine⟨Item.oks_append.mpr ⟨h1,by simp only[Item.oks];exact⟨ha,trivial⟩⟩,?_⟩
  have:=y7o (q:=q) (a:=a) (k:=3-qs.length) (by lia) (by lia)
  lia
theorem z4d.put{P m:Int}{qs:List (List Item)}{q:List Item}{cs:List Int}{room x:Int}{f:List Int}(h:z4d P m (qs++[q]) cs room)(hr:0<room)(ha:(Item.set x f).ok P m):z4d P m (qs++[q++[.set x f]]) cs (room-1):=by
 obtain⟨a1,a2,a3,a4,a5,a6⟩:=h
 rw[List.length_append,List.length_singleton] at a1
 refine⟨by simp;lia,a2,a3,y3a a4 ha (by simp only[Item.deep];lia),by lia,?_⟩
 rw[List.map_append,List.sum_append] at a6 ⊢
 simp only[List.map_cons,List.map_nil,List.sum_cons,List.sum_nil,Item.manys_append,Item.manys,Item.many] at a6 ⊢
 lia
theorem z4d.shut{P m:Int}{qs:List (List Item)}{q t:List Item}{cs:List Int}{room c:Int}(h:z4d P m (qs++[q]++[t]) (cs++[c]) room):z4d P m (qs++[q++[.again c t]]) cs room:=by
 obtain⟨a1,a2,a3,a4,a5,a6⟩:=h
 simp only[List.length_append,List.length_singleton] at a1 a2
 have hc:=a3 c (by simp)
 obtain⟨t1,t2⟩:=a4 (qs.length+1) t (by rw[List.getElem?_append_right (by simp)];simp)
 refine⟨by simp;lia,by lia,fun d hd=>a3 d (List.mem_append_left _ hd),y3a (fun i r hi=>?_) ?_ (by simp only[Item.deep];lia),a5,?_⟩
 ·refine a4 i r ?_
  have:i<(qs++[q]).length:=(List.getElem?_eq_some_iff.mp hi).1
  rw[List.getElem?_append_left this]
  exact hi
 ·simp only[Item.ok]
  exact⟨hc.1,hc.2,t1⟩
 ·simp only[List.map_append,List.sum_append,List.map_cons,List.map_nil,List.sum_cons,List.sum_nil,Item.manys_append,Item.manys,Item.many,List.length_append,List.length_singleton] at a6 ⊢
  lia
theorem x5o{p i:Nat}{gi:G->R (List D)}{gb u:G->R Fl}{Γ:G}{ds:List D}{Q:R Fl->Prop}(I:G->Prop)(hr:z1t p Γ)(hi:gi (Γ.set p .no) = .ok ds)(h0:I Γ)(hq:∀d∈ds,∀Γ,I Γ->∃Γ',gb (Γ.set i (.ro d)) = .ok (.nx Γ')/\I Γ')(h:∀Γ',I Γ'->Q (u Γ')):Q (gStP (x2e p i gi gb) u Γ):=by
 obtain⟨Γ',e,h1⟩:=y0l I ds hq h0
 rw[bsP (Γ':=Γ') (by unfold x2e;rw[z0w hr,hi];exact e) rfl]
 exact h Γ' h1
theorem x7c{p:Nat}{Γ:G}{dl:List D}(h:Γ[p]? = some (.ro (.lst dl)))(hr:z1t p Γ)(hl:dl.length<=100000):y7g p Γ = .ok (.nx (Γ.set p (.ro (.lst (dl++[.lst []]))))):=by
 unfold y7g;rw[h];exact z0w ⟨hr,hl⟩
theorem x7b{p j:Nat}{Γ:G}{dl ds:List D}(h:Γ[p]? = some (.ro (.lst (dl++[.lst ds]))))(hr:z1t p Γ):y7f p j Γ = .ok (.nx ((Γ.set p (.ro (.lst dl))).set j (.ro (.tup ds)))):=by
 unfold y7f;rw[h];simp only[List.getLast?_concat,List.dropLast_concat];exact z0w ⟨hr,rfl⟩
theorem z9r{dl ds:List D}{d:D}:z4x (dl++[.lst ds]) d=some (dl++[.lst (ds++[d])]):=by
 unfold z4x;simp only[List.getLast?_concat,List.dropLast_concat]
theorem x7d{p:Nat}{Γ:G}{g:G->R D}{dl ds:List D}{d:D}(h:Γ[p]? = some (.ro (.lst (dl++[.lst ds]))))(hd:g Γ = .ok d)(hr:z1t p Γ)(hn:d.noL=true)(hl:∀es,D.lst es∈dl++[.lst ds]->es.length<=100000):y7h p g Γ = .ok (.nx (Γ.set p (.ro (.lst (dl++[.lst (ds++[d])]))))):=by
 unfold y7h;rw[h,hd];simp only[z9r];exact z0w ⟨hr,hn,hl⟩
theorem x4u{p:Nat}{Γ Γ1:G}{gm:G->R (D×G)}{dl ds:List D}{d:D}(h:Γ[p]? = some (.ro (.lst (dl++[.lst ds]))))(hd:gm Γ = .ok (d,Γ1))(h1:Γ1[p]? = some (.ro (.lst (dl++[.lst ds]))))(hr:z1t p Γ1)(hn:d.noL=true)(hl:∀es,D.lst es∈dl++[.lst ds]->es.length<=100000):y1m p gm Γ = .ok (.nx (Γ1.set p (.ro (.lst (dl++[.lst (ds++[d])]))))):=by
 unfold y1m;rw[h,hd];simp only[z9r];exact z0w ⟨h1,hr,hn,hl⟩
theorem x1u{s:Str}{q k:Nat}{Γ:G}{cs:List D}{c t:D}(h:Γ[q]? = some (.own (cs++[c])))(h2:Γ[k]? = some (.ro t))(hc:c.noL=true)(ht:t.noL=true)(hn:D.noLs (cs++[c])=true):z8l s q k Γ = .ok (.tup [.str s,c,t],Γ.set q (.own cs)):=by
 unfold z8l;rw[h,h2];simp only[List.getLast?_concat,List.dropLast_concat];exact z0w ⟨hc,ht,hn⟩
theorem y4m{ps:List (List Item)}(h:0<ps.length):∃qs q,ps=qs++[q]:=by
 rcases List.eq_nil_or_concat ps with z | ⟨L,b,z⟩
 ·rw[z] at h;simp at h
 ·exact⟨L,b,by rw[z];simp⟩
theorem x5j{cs:List Int}(h:0<cs.length):∃qs q,cs=qs++[q]:=by
 rcases List.eq_nil_or_concat cs with z | ⟨L,b,z⟩
 ·rw[z] at h;simp at h
 ·exact⟨L,b,by rw[z];simp⟩
theorem y1d:∀{l:List Nat} {a:Nat},a∈l->a<=l.sum
 | b::r,a,h=>by
   rw[List.sum_cons]
   rcases List.mem_cons.mp h with z | z
   ·lia
   ·have:=y1d z;lia
theorem z4d.len{P m:Int}{ps:List (List Item)}{cs:List Int}{room:Int}(h:z4d P m ps cs room):∀es,D.lst es∈ps.map encP->es.length<=100000:=by
 intro es hes
 obtain⟨q,hq,e⟩:=List.mem_map.mp hes
 cases e
 have h1:=y1d (List.mem_map_of_mem (f:=Item.manys) hq)
 have h2:=Item.manys_length q
 obtain⟨a1,a2,a3,a4,a5,a6⟩:=h
 rw[List.length_map]
 lia
theorem x1e{P:Int}{m:Nat}(p1:3<=P)(p2:P<=9973)(m1:1<=m)(m3:m<=3)(N:Int):∃its:List Item,z4n [.int N,.int P,.int m] = .ok (.tup (its.map Item.d))/\Item.oks P m its/\Item.deeps its<=3/\Item.manys its<=30:=by
 suffices h:∃its:List Item,z4j [.ro (.int N),.ro (.int P),.ro (.int m),.no,.no,.no,.no,.no,.no,.no,.no,.no,.no] = .ok (.rt (.tup (its.map Item.d)))/\Item.oks P m its/\Item.deeps its<=3/\Item.manys its<=30 by
  obtain⟨its,e,h⟩:=h
  exact⟨its,z1n rfl e,h⟩
 unfold z4j
 unfold y9x
 rw[bsP (y9q (ds:=[]) (by walk_at "evs")) rfl,bsP (z4s (d:=.int 30) (by walk_at "evs")) rfl,bsP (z4s (d:=.int 5) (by walk_at "evs")) rfl]
 have tr:z2g .no:=trivial
 have pi:=y8u
 refine x5o (ds:=z2r 0 300) (Q:=fun r=>∃its:List Item,r = .ok (.rt (.tup (its.map Item.d)))/\Item.oks P m its/\Item.deeps its<=3/\Item.manys its<=30) (fun Γ=>∃(N:Int) (ps:List (List Item)) (cs:List Int) (room ag:Int) (x7 x8 x9 x10 x11 x12:En),Γ=[.ro (.int N),.ro (.int P),.ro (.int m),.ro (.lst (ps.map encP)),.own (cs.map D.int),.ro (.int room),.ro (.int ag),x7,x8,x9,x10,x11,x12]/\z4d P m ps cs room/\z2g x7/\z2g x8/\z2g x9/\z2g x10/\z2g x11/\z2g x12) ?_ ?_ ?_ ?_ ?_
 ·exact y2w (pi _) (pi _) (pi _) (z0s []) (pi _) (pi _) tr tr tr tr tr tr
 ·walk_at "evs"
  try rfl
 ·refine⟨N,[[]],[],30,5,.no,.no,.no,.no,.no,.no,rfl,⟨rfl,by simp,by simp,fun i q hi=>?_,by lia,by simp[Item.manys]⟩,tr,tr,tr,tr,tr,tr⟩
  match i with
  | 0=>cases hi;simp[Item.oks,Item.deeps]
  | k+1=>cases hi
 ·rintro d hd Γ ⟨N,ps,cs,room,ag,x7,x8,x9,x10,x11,x12,rfl,hk,q7,q8,q9,q10,q11,q12⟩
  obtain⟨k7,rfl⟩:∃k:Int,d = .int k:=by
   unfold z2r at hd
   obtain⟨i,_,rfl⟩:=List.mem_map.mp hd
   exact⟨_,rfl⟩
  have n2:D.noLs [D.int 2,D.int (N%4)]=true:=z0s [_,_]
  rw[bsP (z4s (d:=.int (if 0<room/\0<N then N%4 else 2)) (by
   by_cases c1:0<room
   ·by_cases c2:0<N
    ·rw[if_pos ⟨c1,c2⟩]
     have d1:=decide_eq_true c1
     have d2:=decide_eq_true c2
     walk_at "evs"
     simp only[d1]
     walk_at "evs"
     simp only[d2]
     walk_at "evs"
    ·rw[if_neg (fun z=>c2 z.2)]
     have d1:=decide_eq_true c1
     have d2:=decide_eq_false c2
     walk_at "evs"
     simp only[d1]
     walk_at "evs"
     simp only[d2]
     walk_at "evs"
   ·rw[if_neg (fun z=>c1 z.1)]
    have d1:=decide_eq_false c1
    walk_at "evs"
    simp only[d1]
    walk_at "evs")) rfl]
  have hw:(if 0<room/\0<N then N%4 else 2)≠2->0<room:=fun z=>by
   by_cases c:0<room/\0<N
   ·exact c.1
   ·rw[if_neg c] at z;exact absurd rfl z
  generalize (if 0<room/\0<N then N%4 else 2)=w at hw
  rw[bsP (z4s (d:=.int (N/4)) (by walk_at "evs")) rfl]
  generalize N/4=N'
  show ∃Γ',gIfS _ _ _ [.ro (.int N'),.ro (.int P),.ro (.int m),.ro (.lst (ps.map encP)),.own (cs.map D.int),.ro (.int room),.ro (.int ag),.ro (.int k7),.ro (.int w),x9,x10,x11,x12] = .ok (.nx Γ')/\_
  have e1:decide ((cs.length:Int)<3)=decide (cs.length<3):=decide_eq_decide.mpr (by lia)
  have e2:decide ((0:Int)<(cs.length:Int))=decide (0<cs.length):=decide_eq_decide.mpr (by lia)
  have nc:=z0s cs
  have lc:cs.length<=3:=hk.2.1
  by_cases hA:w=1/\cs.length<3/\0<ag
  ·obtain⟨rfl,c3,ag0⟩:=hA
   have d1:=decide_eq_true c3
   have d2:=decide_eq_true ag0
   rw[y0h (by walk_at "evs";simp only[e1,d1];walk_at "evs";simp only[d2]) rfl]
   obtain⟨n,r,en,n0,n1⟩:=x1f N'
   have nn:D.noLs [D.int n,D.int r]=true:=z0s [_,_]
   rw[bsP (Γ':=[.ro (.int r),.ro (.int P),.ro (.int m),.ro (.lst (ps.map encP)),.own (cs.map D.int),.ro (.int room),.ro (.int ag),.ro (.int k7),.ro (.int 1),.ro (.int n),x10,x11,x12]) (by walk_at "evs";simp only[en];walk_at "evs") rfl]
   have hl:(cs.map D.int).length<=100000:=by rw[List.length_map];lia
   rw[bsP (x1w (d:=.int n) rfl (by walk_at "evs") hl) rfl]
   have hl2:(ps.map encP).length<=100000:=by rw[List.length_map,hk.1];lia
   have nc2:=z0s (cs++[n])
   rw[List.map_append] at nc2
   rw[bsP (x7c rfl (by exact y2w (pi _) (pi _) (pi _) (z7t nc2) (pi _) (pi _) (pi _) (pi _) (pi _) q10 q11 q12) hl2) rfl]
   rw[bsP (z4s (d:=.int (room-1)) (by walk_at "evs")) rfl]
   refine⟨_,z4s (d:=.int (ag-1)) (by walk_at "evs"),r,ps++[[]],cs++[n],room-1,ag-1,.ro (.int k7),.ro (.int 1),.ro (.int n),x10,x11,x12,?_,hk.open c3 (hw (by decide)) n0 n1,pi _,pi _,pi _,q10,q11,q12⟩
   rw[List.map_append,List.map_append]
   rfl
  ·rw[x1v (by
    by_cases c1:w=1
    ·subst c1
     by_cases c2:cs.length<3
     ·have d1:=decide_eq_true c2
      have d2:=decide_eq_false (fun z=>hA ⟨rfl,c2,z⟩)
      walk_at "evs";simp only[e1,d1];walk_at "evs";simp only[d2]
     ·have d1:=decide_eq_false c2
      walk_at "evs";simp only[e1,d1];walk_at "evs"
    ·have d1:(w==1)=false:=by simp[c1]
     walk_at "evs";simp only[d1];walk_at "evs") rfl]
   by_cases hB:w=2/\0<cs.length
   ·obtain⟨rfl,c0⟩:=hB
    have d1:=decide_eq_true c0
    rw[y0h (by walk_at "evs";simp only[e2,d1]) rfl]
    obtain⟨cs',c,rfl⟩:=x5j c0
    have hl:=hk.1
    rw[List.length_append,List.length_singleton] at hl
    obtain⟨ps',t,rfl⟩:=y4m (ps:=ps) (by lia)
    rw[List.length_append,List.length_singleton] at hl
    obtain⟨qs,q,rfl⟩:=y4m (ps:=ps') (by lia)
    have hs:=hk.shut
    have ht:(D.tup (t.map Item.d)).noL=true:=y4u t
    have em:((qs++[q]++[t]).map encP)=(qs.map encP++[encP q])++[.lst (t.map Item.d)]:=by simp[encP]
    rw[em]
    rw[bsP (x7b rfl (by exact y2w (pi _) (pi _) (pi _) (z7t nc) (pi _) (pi _) (pi _) (pi _) q9 q10 q11 q12)) rfl]
    rw[List.map_append] at nc ⊢
    have nc1:=z0s cs'
    have hlen:∀es,D.lst es∈qs.map encP++[.lst (q.map Item.d)]->es.length<=100000:=fun es he=>hk.len es (by rw[em];exact List.mem_append_left _ he)
    have nd:(D.tup [.str "again",.int c,.tup (t.map Item.d)]).noL=true:=by have:=(Item.again c t).noL;simpa only[Item.d,Item.ds_map] using this
    refine⟨_,x4u (dl:=qs.map encP) (ds:=q.map Item.d) rfl (x1u rfl rfl (z1o c) ht nc) rfl (by exact y2w (pi _) (pi _) (pi _) (z7t nc1) (pi _) (pi _) (pi _) (pi _) q9 (y5r ht) q11 q12) nd hlen,N',qs++[q++[.again c t]],cs',room,ag,.ro (.int k7),.ro (.int 2),x9,.ro (.tup (t.map Item.d)),x11,x12,?_,hs,pi _,pi _,q9,ht,q11,q12⟩
    have em2:((qs++[q++[Item.again c t]]).map encP)=qs.map encP++[.lst (q.map Item.d++[.tup [.str "again",.int c,.tup (t.map Item.d)]])]:=by simp[encP,Item.d,Item.ds_map]
    rw[em2]
    rfl
   ·rw[x1v (by
     by_cases c1:w=2
     ·subst c1
      have d1:=decide_eq_false (fun z=>hB ⟨rfl,z⟩)
      walk_at "evs";simp only[e2,d1]
     ·have d1:(w==2)=false:=by simp[c1]
      walk_at "evs";simp only[d1];walk_at "evs") rfl]
    by_cases c1:w=2
    ·subst c1
     exact⟨_,y5z (by walk_at "evs";try rfl),N',ps,cs,room,ag,.ro (.int k7),.ro (.int 2),x9,x10,x11,x12,rfl,hk,pi _,pi _,q9,q10,q11,q12⟩
    ·have d1:(w==2)=false:=by simp[c1]
     have r0:=hw c1
     rw[y0h (by walk_at "evs";simp only[d1];try rfl) rfl]
     obtain⟨qs,q,rfl⟩:=y4m (ps:=ps) (by have:=hk.1;lia)
     have em:((qs++[q]).map encP)=qs.map encP++[.lst (q.map Item.d)]:=by simp[encP]
     rw[bsP (z4s (d:=.int (N'%m)) (by walk_at "evs")) rfl]
     have nf:=z2e (z3s P (m+1) (N'/m))
     rw[bsP (z4s (d:=rowD (z3s P (m+1) (N'/m))) (by simp only[z2t] at nf ⊢;walk_at "evs";try rfl)) rfl]
     have lf:=z5b P (m+1) (N'/m)
     have of:=z8p (P:=P) (by lia) (m+1) (N'/m)
     have ep:=x3m (P:=P) (by lia) (by lia) (k:=m+1) (by lia) (N'/m)
     generalize z3s P (m+1) (N'/m)=f at nf lf of
     have nd:(D.tup [.str "set",.int (N'%m),rowD f]).noL=true:=(Item.set (N'%m) f).noL
     have ho:(Item.set (N'%m) f).ok P m:=by
      simp only[Item.ok]
      exact⟨Int.emod_nonneg _ (by lia),Int.emod_lt_of_pos _ (by lia),by lia,of⟩
     have hp:=hk.put r0 ho
     have hlen:=hk.len
     rw[em] at hlen ⊢
     rw[bsP (x7d (d:=.tup [.str "set",.int (N'%m),rowD f]) rfl (by walk_at "evs") (by exact y2w (pi _) (pi _) (pi _) (z7t nc) (pi _) (pi _) (pi _) (pi _) q9 q10 (pi _) (y5r nf)) nd hlen) rfl]
     rw[bsP (z4s (d:=.int (divs P (m+1) (N'/m))) (by walk_at "evs";rw[show(m:Int)+1=((m+1:Nat):Int) from rfl];simp only[ep];walk_at "evs")) rfl]
     refine⟨_,z4s (d:=.int (room-1)) (by walk_at "evs"),divs P (m+1) (N'/m),qs++[q++[.set (N'%m) f]],cs,room-1,ag,.ro (.int k7),.ro (.int w),x9,x10,.ro (.int (N'%m)),.ro (rowD f),?_,hp,pi _,pi _,q9,q10,pi _,nf⟩
     have em2:((qs++[q++[Item.set (N'%m) f]]).map encP)=qs.map encP++[.lst (q.map Item.d++[.tup [.str "set",.int (N'%m),rowD f]])]:=by simp[encP,Item.d]
     rw[em2]
     rfl
 ·rintro Γ ⟨N,ps,cs,room,ag,x7,x8,x9,x10,x11,x12,rfl,hk,q7,q8,q9,q10,q11,q12⟩
  obtain⟨a1,a2,a3,a4,a5,a6⟩:=hk
  match ps,a1,a4,a6 with
  | [],a1,_,_=>simp at a1
  | q::r,a1,a4,a6 =>
    obtain⟨o1,o2⟩:=a4 0 q rfl
    refine⟨q,z2l ?_,o1,by lia,?_⟩
    ·walk_at "evs"
     rfl
    ·rw[List.map_cons,List.sum_cons] at a6
     lia
noncomputable section
noncomputable def x5a:G->R Fl :=
 (gSt (gSet 1 (gNL (z0i z3l (gCons (z0i c_q (gCons (gV 0) (gCons (gC (.int 0)) gNil))) gNil))))
 (gSt (gSet 2 (gNL (gBin dAdd (gC (.int 1)) (gBin dMod (z0i c_q (gCons (gV 0) (gCons (gC (.int 1)) gNil))) (gC (.int 3))))))
 (gSt (gSet 3 (gNL (z0i z4n (gCons (z0i z3u (gCons (gV 0) gNil)) (gCons (gV 1) (gCons (gV 2) gNil))))))
 (gSt (gSet 4 (gNL (gBin dMod (z0i c_q (gCons (gV 0) (gCons (gC (.int 3)) gNil))) (gBin dAdd (gBin dPow (gC (.int 10)) (gC (.int 30))) (gC (.int 1))))))
 (gSt (gSet 5 (gNL (z0i c_f (gCons (z0i c_q (gCons (gV 0) (gCons (gC (.int 4)) gNil))) (gCons (gV 1) (gCons (gV 2) gNil))))))
 (gSt (gIfS (gT (gBin dNe (z0i c_y (gCons (gV 1) (gCons (gV 2) (gCons (gV 3) gNil)))) (gV 3))) (gRet (gC (.bl false))) z2q)
 (gSt (gSet 6 (gNL (z0i (c_s 12) (gCons (gV 1) (gCons (gV 2) (gCons (gV 3) gNil))))))
 (gSt (gIfS (gT (gBin dNe (z0i (c_v 12) (gCons (gV 1) (gCons (gV 2) (gCons (gV 3) gNil)))) (gV 6))) (gRet (gC (.bl false))) z2q)
 (gSt (gSet 7 (gNL (z0i c_H (gCons (gV 1) (gCons (gV 2) (gCons (gV 3) (gCons (gV 4) (gCons (gV 5) gNil))))))))
 (gSt (gSet 8 (gNL (z0i c_j (gCons (gV 1) (gCons (gV 6) (gCons (gV 4) gNil))))))
 (gRet (gBin dEq (gV 7) (z0i z1i (gCons (gL (z2y (z7k (gV 8)) (fElt (gNL (gBin dMod (gBin dAdd (gBin dIx (gV 0) (gNeg (gC (.int 1)))) (z0i dSum (gCons (gL (z8a (gZip (gV 0) (gV 6)) (y5c (gNL (gBin dMul (gV 0) (gV 1)))))) gNil))) (gV 2)))))) gNil))))))))))))))
noncomputable def c_law:List D->R D:=fnC 1 9 x5a
end
theorem y1e(f:Nat->Int):∀n,sumN f (n+1)=f 0+sumN (fun i=>f (i+1)) n
 | 0=>by simp[sumN]
 | n+1=>by rw[z1p,y1e f n,z1p];lia
theorem y7u:∀(f s:List Int),s.length<=f.length->((f.zip s).map fun p=>p.1*p.2).sum=sumN (fun i=>(f[i]?).getD 0*(s[i]?).getD 0) s.length
 | _,[],_=>by simp[sumN]
 | [],_::_,h=>by simp at h
 | a::f,b::s,h=>by
   rw[List.zip_cons_cons,List.map_cons,List.sum_cons,y7u f s (by simpa using h),List.length_cons,y1e]
   rfl
theorem law_k95:x8h c_law:=by
 intro ns hn
 obtain⟨P,eP,p1,p2,hD⟩:=x1c (z6t ns 0)
 obtain⟨m,em,m1,m3⟩:=x1s (z6t ns 1)
 obtain⟨N,eN⟩:=y8m (ns:=ns) hn
 have hp:1<P:=by lia
 refine z1n rfl ?_
 unfold x5a
 refine z2s (d:=.int P) (by walk_at "evs";simp only[eP];walk_at "evs") ?_
 refine z2s (d:=.int m) (by walk_at "evs";rw[em]) ?_
 obtain⟨its,ei,ho,hd,hc⟩:=x1e (P:=P) p1 p2 m1 m3 N
 have nI:=y4u its
 refine z2s (d:=.tup (its.map Item.d)) (by walk_at "evs";simp only[eN];walk_at "evs";simp only[ei];walk_at "evs") ?_
 have t30:(0:Int)<10^30+1:=by decide
 obtain⟨n,en,hn150⟩:∃n:Nat,z6t ns 3%(10^30+1)=(n:Int)/\n<2^150:=by
  have h1:=z7m (w:=z6t ns 3) t30
  have h2:=z7n (w:=z6t ns 3) t30
  exact⟨(z6t ns 3%(10^30+1)).toNat,by lia,by lia⟩
 refine z2s (d:=.int n) (by walk_at "evs";rw[<-en];try rfl) ?_
 have sl:=z5b P m (z6t ns 4)
 have so:=z8p (P:=P) (by lia) m (z6t ns 4)
 generalize hs:z3s P m (z6t ns 4)=s at sl so
 refine z2s (d:=rowD s) (by walk_at "evs";rw[<-hs];rfl) ?_
 obtain⟨r1,r2,r3,r4,r5⟩:=Item.raws0_keeps its ho
 have ep:=s_y (its:=Item.raws0 its) (l:=false) p1 p2 hD (by lia) (by lia) (by lia) (by lia) r3
 rw[r4,y4k ho] at ep
 have ep:c_y [.int P,.int m,.tup (its.map Item.d)] = .ok (.tup (its.map Item.d)):=ep
 have ly:D.lay 40 (.tup (its.map Item.d))=true:=by rw[<-y4k ho,z8i,<-Raw.ds_map];exact Raw.layDs _ 39 (by lia)
 have eq:eqD (.tup (its.map Item.d)) (.tup (its.map Item.d))=true:=y6f (by rw[<-y4k ho,y1i,<-Raw.ds_map];exact Raw.plDs _)
 refine z3m (by
  walk_at "evs"
  simp only[ep]
  walk_at "evs"
  rw[eq]
  try rfl) ?_
 have okT:=Item.tabs_ok hp its ho
 have emd:=y8n (P:=P) p1 p2 m3 12 its (by lia) ho
 have etb:=s_v (P:=P) p1 p2 m3 12 its (by lia) ho
 have eaf:=s_H (P:=P) (n:=n) (its:=its) (s:=s) p1 p2 m3 (by lia) ho sl hn150
 have eti:=y5m (P:=P) (n:=n) p1 p2 m3 okT hn150
 have okW:=z3q hp okT n
 generalize Item.tabs P m its=t at okT emd etb eaf eti okW
 generalize powZ P m t n=W at eaf eti okW
 refine z2s (d:=tabD t) (by have:=z2h t;walk_at "evs";simp only[emd];walk_at "evs") ?_
 refine z3m (by
  walk_at "evs"
  simp only[etb]
  walk_at "evs"
  try simp) ?_
 refine z2s (d:=rowD (z2v P W s)) (by have:=z2e (z2v P W s);walk_at "evs";simp only[eaf];walk_at "evs") ?_
 refine z2s (d:=tabD W) (by have:=z2h W;walk_at "evs";simp only[eti];walk_at "evs") ?_
 refine z2l ?_
 have nW:=z6k W
 have lW:W.length=m:=okW.1
 simp only[tabD]
 walk_at "evs"
 rw[z2b (h:=fun f=>D.int (z1h f s%P))]
 ·have e1:W.map (fun f=>D.int (z1h f s%P))=(z2v P W s).map D.int:=by unfold z2v;rw[List.map_map];rfl
  rw[e1]
  have l2:=z5t 38 (z2v P W s)
  have q2:eqD (rowD (z2v P W s)) (rowD (z2v P W s))=true:=y6f (y5s _)
  simp only[z2t] at l2 q2 ⊢
  walk_at "evs"
  try rw[q2]
  try rfl
 ·intro f hf
  have fo:=okW.2 f hf
  have fl:f.length=m+1:=fo.2
  have af:atI (f.map D.int) (-1)=some (.int ((f[m]?).getD 0)):=by
   rw[atI_neg (by decide) (by rw[List.length_map];lia),List.length_map,fl,show((-1:Int)+((m+1:Nat):Int)).toNat=m by lia,List.getElem?_map,List.getElem?_eq_getElem (by lia)]
   rfl
  have hz:(zipD (f.map D.int) (s.map D.int)).length<=100000:=by rw[z9j];lia
  have n12:=And.intro (z0s f) (z0s s)
  have hw:(f[m]?).getD 0+((f.zip s).map fun p=>p.1*p.2).sum=z1h f s:=by
   unfold z1h
   rw[y7u f s (by lia),sl]
   lia
  simp only[z2t]
  walk_at "evs"
  simp only[af]
  walk_at "evs"
  rw[y1p (h:=fun x y=>x*y)]
  ·walk_at "evs"
   rw[hw]
  ·intro x hx y hy
   have fx:z9b y:=(so.fits (by lia)) y hy
   walk_at "evs"
end L3
namespace L3
open PySem PySem.Spec PyProof.Rows L2
noncomputable abbrev St:=L2.St
noncomputable instance:Monad R where
 pure:=R.ok
 bind:=R.bind
mutual
noncomputable def Is(K:PySem.W.Frag)(H:Hp):D->V->Prop
 | .non,v=>v = .non
 | .bl b,v=>v = .bl b
 | .int i,v=>v = .int i
 | .str x,v=>v = .str x
 | .tup ds,v=>∃a xs,v = .ref a/\SqT K H a xs/\IsAll K H ds xs
 | .lst ds,v=>∃a xs,v = .ref a/\SqL K H a xs/\IsAll K H ds xs
 | .dct,v=>∃a ob,v = .ref a/\H a=some (.frz ob (.own 0))/\ob.cls = .type "dict"
 | .exc c,v=>∃e oe C,v = .ref e/\H e=some (.frz oe (.own 0))/\oe.cls = .ref C/\PySem.W.nsIn K mainGlobals c.nm=some (some (.ref C))
noncomputable def IsAll(K:PySem.W.Frag)(H:Hp):List D->List V->Prop
 | [],xs=>xs=[]
 | d::ds,xs=>∃x r,xs=x::r/\Is K H d x/\IsAll K H ds r
end
structure Sub (K:PySem.W.Frag) (H H':Hp):Prop where
 t:∀a xs,SqT K H a xs->SqT K H' a xs
 l:∀a xs,SqL K H a xs->SqL K H' a xs
 x:∀a o u,H a=some (.frz o u)->H' a=some (.frz o u)
theorem z6h{K:PySem.W.Frag}{H H':Hp}{a:Addr}{xs:List V}(e:Same H H')(h:SqT K H a xs):SqT K H' a xs:=by
 rcases h with (h | ⟨o,h⟩) | h
 ·exact .inl (.inl (e _ _ h))
 ·exact .inl (.inr ⟨o,e _ _ h⟩)
 ·exact .inr h
theorem Sub.of_same{K:PySem.W.Frag}{H H':Hp}(e:Same H H'):Sub K H H':=⟨fun _ _ h=>z6h e h,fun _ _ h=>e.seq h,fun _ _ _ h=>e _ _ h⟩
theorem Sub.refl{K:PySem.W.Frag}{H:Hp}:Sub K H H:=⟨fun _ _ h=>h,fun _ _ h=>h,fun _ _ _ h=>h⟩
mutual
theorem Is.sub{K:PySem.W.Frag}{H H':Hp}(s:Sub K H H'):∀(d:D) (v:V),Is K H d v->Is K H' d v
 | .non,_,h=>h
 | .bl _,_,h=>h
 | .int _,_,h=>h
 | .str _,_,h=>h
 | .tup ds,v,h=>by
   unfold Is at h ⊢
   obtain⟨a,xs,e,h1,h2⟩:=h
   exact⟨a,xs,e,s.t a xs h1,IsAll.sub s ds xs h2⟩
 | .lst ds,v,h=>by
   unfold Is at h ⊢
   obtain⟨a,xs,e,h1,h2⟩:=h
   exact⟨a,xs,e,s.l a xs h1,IsAll.sub s ds xs h2⟩
 | .dct,v,h=>by
   unfold Is at h ⊢
   obtain⟨a,ob,e,h1,h2⟩:=h
   exact⟨a,ob,e,s.x a ob _ h1,h2⟩
 | .exc c,v,h=>by
   unfold Is at h ⊢
   obtain⟨a,oe,C,e,h1,h2⟩:=h
   exact⟨a,oe,C,e,s.x a oe _ h1,h2⟩
theorem IsAll.sub{K:PySem.W.Frag}{H H':Hp}(s:Sub K H H'):∀(ds:List D) (xs:List V),IsAll K H ds xs->IsAll K H' ds xs
 | [],_,h=>h
 | d::ds,xs,h=>by
   unfold IsAll at h ⊢
   obtain⟨x,r,e,h1,h2⟩:=h
   exact⟨x,r,e,Is.sub s d x h1,IsAll.sub s ds r h2⟩
end
theorem Is.same{K:PySem.W.Frag}{H H':Hp}{d:D}{v:V}(h:Is K H d v)(e:Same H H'):Is K H' d v:=Is.sub (.of_same e) d v h
theorem IsAll.same{K:PySem.W.Frag}{H H':Hp}{ds:List D}{xs:List V}(h:IsAll K H ds xs)(e:Same H H'):IsAll K H' ds xs:=IsAll.sub (.of_same e) ds xs h
theorem Is.int_iff{K:PySem.W.Frag}{H:Hp}{i:Int}{v:V}:Is K H (.int i) v↔v = .int i:=by unfold Is;rfl
theorem Is.bl_iff{K:PySem.W.Frag}{H:Hp}{b:Bool}{v:V}:Is K H (.bl b) v↔v = .bl b:=by unfold Is;rfl
theorem Is.str_iff{K:PySem.W.Frag}{H:Hp}{x:Str}{v:V}:Is K H (.str x) v↔v = .str x:=by unfold Is;rfl
theorem Is.non_iff{K:PySem.W.Frag}{H:Hp}{v:V}:Is K H .non v↔v = .non:=by unfold Is;rfl
theorem Is.tup_iff{K:PySem.W.Frag}{H:Hp}{ds:List D}{v:V}:Is K H (.tup ds) v↔∃a xs,v = .ref a/\SqT K H a xs/\IsAll K H ds xs:=by conv=>lhs;unfold Is
theorem Is.lst_iff{K:PySem.W.Frag}{H:Hp}{ds:List D}{v:V}:Is K H (.lst ds) v↔∃a xs,v = .ref a/\SqL K H a xs/\IsAll K H ds xs:=by conv=>lhs;unfold Is
theorem IsAll.nil_iff{K:PySem.W.Frag}{H:Hp}{xs:List V}:IsAll K H [] xs↔xs=[]:=by unfold IsAll;rfl
theorem IsAll.cons_iff{K:PySem.W.Frag}{H:Hp}{d:D}{ds:List D}{xs:List V}:IsAll K H (d::ds) xs↔∃x r,xs=x::r/\Is K H d x/\IsAll K H ds r:=by conv=>lhs;unfold IsAll
theorem IsAll.nil{K:PySem.W.Frag}{H:Hp}:IsAll K H [] []:=IsAll.nil_iff.mpr rfl
theorem IsAll.cons{K:PySem.W.Frag}{H:Hp}{d:D}{ds:List D}{x:V}{xs:List V}(h:Is K H d x)(t:IsAll K H ds xs):IsAll K H (d::ds) (x::xs):=IsAll.cons_iff.mpr ⟨x,xs,rfl,h,t⟩
theorem IsAll.length{K:PySem.W.Frag}{H:Hp}:∀{ds:List D} {xs:List V},IsAll K H ds xs->ds.length=xs.length
 | [],xs,h=>by rw[IsAll.nil_iff.mp h];rfl
 | d::ds,xs,h=>by
   obtain⟨x,r,rfl,_,t⟩:=IsAll.cons_iff.mp h
   rw[List.length_cons,List.length_cons,IsAll.length t]
theorem IsAll.get{K:PySem.W.Frag}{H:Hp}:∀{ds:List D} {xs:List V} {i:Nat} {d:D},IsAll K H ds xs->ds[i]? = some d->∃x,xs[i]? = some x/\Is K H d x
 | [],_,_,_,_,e=>by simp at e
 | d::ds,xs,0,d',h,e=>by
   obtain⟨x,r,rfl,hx,t⟩:=IsAll.cons_iff.mp h
   simp at e;subst e
   exact⟨x,rfl,hx⟩
 | d::ds,xs,i+1,d',h,e=>by
   obtain⟨x,r,rfl,hx,t⟩:=IsAll.cons_iff.mp h
   obtain⟨y,e1,hy⟩:=IsAll.get (i:=i) t (by simpa using e)
   exact⟨y,by simpa using e1,hy⟩
theorem IsAll.getX{K:PySem.W.Frag}{H:Hp}{ds:List D}{xs:List V}{i:Nat}{x:V}(h:IsAll K H ds xs)(e:xs[i]? = some x):∃d,ds[i]? = some d/\Is K H d x:=by
 have hi:i<xs.length:=(List.getElem?_eq_some_iff.mp e).1
 have hd:i<ds.length:=by rw[h.length];exact hi
 obtain⟨y,e1,hy⟩:=h.get (List.getElem?_eq_getElem hd)
 rw[e] at e1;cases e1
 exact⟨_,List.getElem?_eq_getElem hd,hy⟩
theorem IsAll.append{K:PySem.W.Frag}{H:Hp}:∀{ds es:List D} {xs ys:List V},IsAll K H ds xs->IsAll K H es ys->IsAll K H (ds++es) (xs++ys)
 | [],_,_,_,h,t=>by rw[IsAll.nil_iff.mp h];exact t
 | d::ds,es,xs,ys,h,t=>by
   obtain⟨x,r,rfl,hx,tr⟩:=IsAll.cons_iff.mp h
   exact IsAll.cons hx (IsAll.append tr t)
theorem IsAll.drop{K:PySem.W.Frag}{H:Hp}:∀{ds:List D} {xs:List V} (n:Nat),IsAll K H ds xs->IsAll K H (ds.drop n) (xs.drop n)
 | _,_,0,h=>h
 | [],xs,n+1,h=>by rw[IsAll.nil_iff.mp h];exact IsAll.nil
 | d::ds,xs,n+1,h=>by
   obtain⟨x,r,rfl,hx,tr⟩:=IsAll.cons_iff.mp h
   exact IsAll.drop n tr
theorem IsAll.take{K:PySem.W.Frag}{H:Hp}:∀{ds:List D} {xs:List V} (n:Nat),IsAll K H ds xs->IsAll K H (ds.take n) (xs.take n)
 | _,_,0,_=>by rw[List.take_zero,List.take_zero];exact IsAll.nil
 | [],xs,n+1,h=>by rw[IsAll.nil_iff.mp h];exact IsAll.nil
 | d::ds,xs,n+1,h=>by
   obtain⟨x,r,rfl,hx,tr⟩:=IsAll.cons_iff.mp h
   exact IsAll.cons hx (IsAll.take n tr)
theorem IsAll.set{K:PySem.W.Frag}{H:Hp}{d':D}{x':V}(q:Is K H d' x'):∀{ds:List D} {xs:List V} (n:Nat),IsAll K H ds xs->IsAll K H (ds.set n d') (xs.set n x')
 | [],xs,n,h=>by rw[IsAll.nil_iff.mp h];exact IsAll.nil
 | d::ds,xs,0,h=>by
   obtain⟨x,r,rfl,hx,tr⟩:=IsAll.cons_iff.mp h
   exact IsAll.cons q tr
 | d::ds,xs,n+1,h=>by
   obtain⟨x,r,rfl,hx,tr⟩:=IsAll.cons_iff.mp h
   exact IsAll.cons hx (IsAll.set q n tr)
theorem IsAll.ints{K:PySem.W.Frag}{H:Hp}:∀ns:List Int,IsAll K H (ns.map D.int) (ns.map V.int)
 | []=>IsAll.nil
 | n::ns=>IsAll.cons (Is.int_iff.mpr rfl) (IsAll.ints ns)
theorem IsAll.ints_eq{K:PySem.W.Frag}{H:Hp}:∀{ns:List Int} {xs:List V},IsAll K H (ns.map D.int) xs->xs=ns.map V.int
 | [],xs,h=>IsAll.nil_iff.mp h
 | n::ns,xs,h=>by
   obtain⟨x,r,rfl,hx,tr⟩:=IsAll.cons_iff.mp h
   rw[Is.int_iff.mp hx,IsAll.ints_eq tr];rfl
noncomputable def hid(F:List Addr)(H:Hp):Hp:=fun b=>if b∈F then none else H b
theorem x3c{F:List Addr}{H:Hp}{b:Addr}(h:b∈F):hid F H b=none:=by unfold hid;rw[if_pos h]
theorem z1d{F:List Addr}{H:Hp}{b:Addr}(h:b ∉ F):hid F H b=H b:=by unfold hid;rw[if_neg h]
theorem z2a{F:List Addr}{H:Hp}{b:Addr}{o:HO}(h:hid F H b=some o):b ∉ F/\H b=some o:=by
 unfold hid at h
 by_cases q:b∈F
 ·rw[if_pos q] at h;cases h
 ·rw[if_neg q] at h;exact⟨q,h⟩
noncomputable def FOk(H:Hp)(F:List Addr):Prop:=∀b∈F,∃xs,H b=some (.lst xs)
theorem FOk.same{H H':Hp}{F:List Addr}(h:FOk H F)(e:Same H H'):FOk H' F:=fun b hb=>let ⟨xs,q⟩:=h b hb;⟨xs,e _ _ q⟩
theorem FOk.nil{H:Hp}:FOk H []:=fun b hb=>by simp at hb
theorem FOk.cons{H:Hp}{F:List Addr}{a:Addr}{xs:List V}(h:FOk H F)(e:H a=some (.lst xs)):FOk H (a::F):=fun b hb=>by
 rcases List.mem_cons.mp hb with z | z
 ·subst z;exact⟨xs,e⟩
 ·exact h b z
theorem x1z{H:Hp}{F:List Addr}{a:Addr}:Same (hid (a::F) H) (hid F H):=fun b o h=>by
 obtain⟨h1,h2⟩:=z2a h
 rw[z1d fun z=>h1 (List.mem_cons_of_mem _ z)];exact h2
theorem y9u{H H':Hp}{F:List Addr}{a:Addr}(e:Same H H')(hn:H a=none):Same (hid F H) (hid (a::F) H'):=fun b o h=>by
 obtain⟨h1,h2⟩:=z2a h
 rw[z1d fun z=>(List.mem_cons.mp z).elim (fun q=>by rw[q,hn] at h2;cases h2) h1]
 exact e _ _ h2
theorem z2c{H H':Hp}{F:List Addr}(e:Same H H'):Same (hid F H) (hid F H'):=fun b o h=>by
 obtain⟨h1,h2⟩:=z2a h
 rw[z1d h1];exact e _ _ h2
theorem z0u{H:Hp}{F:List Addr}:Same (hid F H) H:=fun b o h=>(z2a h).2
theorem y8g{K:PySem.W.Frag}{H:Hp}{F:List Addr}{a:Addr}{xs:List V}(fo:FOk H F)(h:SqT K H a xs):SqT K (hid F H) a xs:=by
 rcases h with (h1 | ⟨o,h1⟩) | h1
 ·refine .inl (.inl ?_)
  rw[z1d fun q=>by obtain⟨ys,z⟩:=fo a q;rw[h1] at z;cases z];exact h1
 ·refine .inl (.inr ⟨o,?_⟩)
  rw[z1d fun q=>by obtain⟨ys,z⟩:=fo a q;rw[h1] at z;cases z];exact h1
 ·exact .inr h1
mutual
theorem Is.hid{K:PySem.W.Frag}{H:Hp}{F:List Addr}(fo:FOk H F):∀(d:D) (v:V),d.noL=true->Is K H d v->Is K (hid F H) d v
 | .non,_,_,h=>h
 | .bl _,_,_,h=>h
 | .int _,_,_,h=>h
 | .str _,_,_,h=>h
 | .tup ds,v,n,h=>by
   obtain⟨a,xs,e,h1,h2⟩:=Is.tup_iff.mp h
   exact Is.tup_iff.mpr ⟨a,xs,e,y8g fo h1,IsAll.hid fo ds xs (by simpa [D.noL] using n) h2⟩
 | .lst ds,v,n,h=>by simp[D.noL] at n
 | .dct,v,n,h=>by simp[D.noL] at n
 | .exc c,v,n,h=>by
   unfold Is at h ⊢
   obtain⟨a,oe,C,e,h1,h2⟩:=h
   refine⟨a,oe,C,e,?_,h2⟩
   rw[z1d fun q=>by obtain⟨ys,z⟩:=fo a q;rw[h1] at z;cases z];exact h1
theorem IsAll.hid{K:PySem.W.Frag}{H:Hp}{F:List Addr}(fo:FOk H F):∀(ds:List D) (xs:List V),D.noLs ds=true->IsAll K H ds xs->IsAll K (hid F H) ds xs
 | [],_,_,h=>h
 | d::ds,xs,n,h=>by
   obtain⟨x,r,e,h1,h2⟩:=IsAll.cons_iff.mp h
   have n':d.noL=true/\D.noLs ds=true:=by simpa [D.noLs] using n
   exact IsAll.cons_iff.mpr ⟨x,r,e,Is.hid fo d x n'.1 h1,IsAll.hid fo ds r n'.2 h2⟩
end
structure Rel (K:PySem.W.Frag) (H:Hp) (F:List Addr) (Γ:G) (σ:St):Prop where
 len:Γ.length=σ.length
 ro:∀(i:Nat) d,Γ[i]? = some (.ro d)->∃v,σ[i]? = some (some v)/\Is K (hid F H) d v
 own:∀(i:Nat) ds,Γ[i]? = some (.own ds)->∃a xs,σ[i]? = some (some (.ref a))/\a∈F/\H a=some (.lst xs)/\IsAll K (hid F H) ds xs
 inj:∀(i j:Nat) ds es a,Γ[i]? = some (.own ds)->Γ[j]? = some (.own es)->σ[i]? = some (some (.ref a))->σ[j]? = some (some (.ref a))->i=j
theorem Rel.same{K:PySem.W.Frag}{H H':Hp}{F:List Addr}{Γ:G}{σ:St}(r:Rel K H F Γ σ)(e:Same H H'):Rel K H' F Γ σ :=
 ⟨r.len,fun i d h=>let ⟨v,h1,h2⟩:=r.ro i d h;⟨v,h1,h2.same (z2c e)⟩,fun i ds h=>let ⟨a,xs,h1,h2,h3,h4⟩:=r.own i ds h;⟨a,xs,h1,h2,e _ _ h3,h4.same (z2c e)⟩,r.inj⟩
theorem Rel.look{K:PySem.W.Frag}{H:Hp}{F:List Addr}{Γ:G}{σ:St}(r:Rel K H F Γ σ){i:Nat}{d:D}(h:lk Γ i = .ok d):∃v,σ[i]? = some (some v)/\Is K H d v:=by
 unfold lk at h
 cases e:Γ[i]? with
 | none=>rw[e] at h;cases h
 | some en =>
   rw[e] at h
   cases en with
   | no=>cases h
   | ro d'=>cases h;obtain⟨v,h1,h2⟩:=r.ro i d e;exact⟨v,h1,h2.same z0u⟩
   | own ds =>
     cases h
     obtain⟨a,xs,h1,h2,h3,h4⟩:=r.own i ds e
     exact⟨.ref a,h1,Is.lst_iff.mpr ⟨a,xs,rfl,SqL.of h3,h4.same z0u⟩⟩
theorem Rel.lookr{K:PySem.W.Frag}{H:Hp}{F:List Addr}{Γ:G}{σ:St}(r:Rel K H F Γ σ){i:Nat}{d:D}(h:lkr Γ i = .ok d):∃v,σ[i]? = some (some v)/\Is K (hid F H) d v:=by
 unfold lkr at h
 cases e:Γ[i]? with
 | none=>rw[e] at h;cases h
 | some en =>
   rw[e] at h
   cases en with
   | no=>cases h
   | ro d'=>cases h;exact r.ro i d e
   | own ds=>cases h
structure Ext (H:Hp) (F:List Addr) (H':Hp) (F':List Addr):Prop where
 keep:∀b o,b ∉ F->H b=some o->H' b=some o
 old:∀b,b∈F'->b∈F∨H b=none
theorem Ext.refl{H:Hp}{F:List Addr}:Ext H F H F:=⟨fun _ _ _ h=>h,fun _ h=>.inl h⟩
theorem Ext.of_same{H H':Hp}{F:List Addr}(e:Same H H'):Ext H F H' F:=⟨fun _ _ _ h=>e _ _ h,fun _ h=>.inl h⟩
theorem Ext.trans{H H1 H2:Hp}{F F1 F2:List Addr}(a:Ext H F H1 F1)(b:Ext H1 F1 H2 F2):Ext H F H2 F2 where
 keep:=fun c o hc h=>b.keep c o (fun z=>(a.old c z).elim hc fun n=>by rw[h] at n;cases n) (a.keep c o hc h)
 old:=fun c hc=>by
  rcases b.old c hc with h | h
  ·exact a.old c h
  ·by_cases q:c∈F
   ·exact .inl q
   ·refine .inr ?_
    cases e:H c with
    | none=>rfl
    | some o=>rw[a.keep c o q e] at h;cases h
theorem Ext.same{H H':Hp}{F':List Addr}(e:Ext H [] H' F'):Same H H':=fun b o h=>e.keep b o (by simp) h
theorem Ext.hid{H H':Hp}{F F':List Addr}(e:Ext H F H' F'):Same (hid F H) (hid F' H'):=fun b o h=>by
 obtain⟨h1,h2⟩:=z2a h
 have h3:=e.keep b o h1 h2
 rw[z1d fun z=>(e.old b z).elim h1 fun n=>by rw[h2] at n;cases n]
 exact h3
noncomputable def y4d(X:Cx)(pins:List (Addr×Obj))(σ:St)(H:Hp)(c:Er)(x:Value)(s:Shared):Prop :=
 Inv X pins σ H s/\∃(e C:Addr) (oe:Obj) (vs:Array Value),x = .ref e/\X.mg c.nm=some (.ref C)/\H e=none/\X.s₀.heap.get? e=none/\e≠X.env.locals/\(∀y k,X.env.cells.lookup y=some k->k≠e)/\(∀p∈X.pn++pins,p.1≠e) /\
  s.heap.get? e=some oe/\oe.cls = .ref C/\oe.data = .fields vs/\(∃a0,vs[0]? = some a0) /\
  (vs[1]? = some .none∨∃(T:Addr) (oT:Obj) (ts:Array Value),vs[1]? = some (.ref T)/\H T=none/\X.s₀.heap.get? T=none/\T≠X.env.locals/\(∀y k,X.env.cells.lookup y=some k->k≠T)/\(∀p∈X.pn++pins,p.1≠T)/\T≠e /\
    s.heap.get? T=some oT/\oT.data = .fields ts/\(ts[3]? = some .none∨∃L,X.env.frame=some L/\ts[3]? = some (rawInt L)))
noncomputable def Post(X:Cx)(pins:List (Addr×Obj))(σ:St)(H:Hp)(r:R D)(u:Value)(s':Shared):Prop :=
 ∃d v H',r = .ok d/\Inv X pins σ H' s'/\RelV v u/\Same H H'/\Is X.K H' d v
noncomputable def z1m{α:Type}(X:Cx)(pins:List (Addr×Obj))(σ:St)(H:Hp)(r:R α)(x:Value)(s':Shared):Prop :=
 ∃c H',r = .er c/\Same H H'/\y4d X pins σ H' c x s'
theorem z1m.bind{α β:Type}{X:Cx}{pins:List (Addr×Obj)}{σ:St}{H:Hp}{r:R α}{x:Value}{s':Shared}(h:z1m X pins σ H r x s')(k:α->R β):z1m X pins σ H (r>>=k) x s':=by
 obtain⟨c,H',e,h1,h2⟩:=h
 exact⟨c,H',R.stop e k,h1,h2⟩
theorem z1m.later{α β:Type}{X:Cx}{pins:List (Addr×Obj)}{σ:St}{H H1:Hp}{r:R α}{a:α}{k:α->R β}{x:Value}{s':Shared}(e:r = .ok a)(s:Same H H1)(h:z1m X pins σ H1 (k a) x s'):z1m X pins σ H (r>>=k) x s':=by
 obtain⟨c,H',e1,h1,h2⟩:=h
 exact⟨c,H',(R.step e k).trans e1,s.trans h1,h2⟩
structure PD (X:Cx) (e:Expr) (g:G->R D):Prop where
 run:∀(pins:List (Addr×Obj)) (s:Shared) (σ:St) (H:Hp) (F:List Addr) (Γ:G),Inv X pins σ H s->FOk H F->Rel X.K H F Γ σ->g Γ ≠ .no ->
  wpAny (model X.prog X.w) X.A (eval e X.env) (Post X pins σ H (g Γ)) (z1m X pins σ H (g Γ)) s
structure PDr (X:Cx) (e:Expr) (g:G->R D):Prop where
 run:∀(pins:List (Addr×Obj)) (s:Shared) (σ:St) (H:Hp) (F:List Addr) (Γ:G),Inv X pins σ H s->FOk H F->Rel X.K H F Γ σ->g Γ ≠ .no ->
  wpAny (model X.prog X.w) X.A (eval e X.env) (fun u s'=>∃d v H',g Γ = .ok d/\Inv X pins σ H' s'/\RelV v u/\Same H H'/\Is X.K (hid F H') d v) (z1m X pins σ H (g Γ)) s
structure PF (X:Cx) (e:Expr) (g:G->R (List D)):Prop where
 run:∀(pins:List (Addr×Obj)) (s:Shared) (σ:St) (H:Hp) (F:List Addr) (Γ:G),Inv X pins σ H s->FOk H F->Rel X.K H F Γ σ->g Γ ≠ .no ->
  wpAny (model X.prog X.w) X.A (eval e X.env) (fun u s'=>∃ds a xs H',g Γ = .ok ds/\Inv X pins σ H' s'/\u = .ref a/\Same H H'/\H a=none/\H' a=some (.lst xs)/\IsAll X.K (hid (a::F) H') ds xs) (z1m X pins σ H (g Γ)) s
structure PTD (X:Cx) (e:Expr) (g:G->R Bool):Prop where
 run:∀(pins:List (Addr×Obj)) (s:Shared) (σ:St) (H:Hp) (F:List Addr) (Γ:G),Inv X pins σ H s->FOk H F->Rel X.K H F Γ σ->g Γ ≠ .no ->
  wpAny (model X.prog X.w) X.A (isTrue e X.env (eval e X.env)) (fun b s'=>∃H',g Γ = .ok b/\Inv X pins σ H' s'/\Same H H') (z1m X pins σ H (g Γ)) s
structure PWD (X:Cx) (e:Expr) (g:G->R Bool):Prop where
 run:∀(whole:Sem Value) (pins:List (Addr×Obj)) (s:Shared) (σ:St) (H:Hp) (F:List Addr) (Γ:G),Inv X pins σ H s->FOk H F->Rel X.K H F Γ σ->g Γ ≠ .no ->
  wpAny (model X.prog X.w) X.A (isTrue e X.env whole) (fun b s'=>∃H',g Γ = .ok b/\Inv X pins σ H' s'/\Same H H') (z1m X pins σ H (g Γ)) s
theorem PWD.pt{X:Cx}{e:Expr}{g:G->R Bool}(h:PWD X e g):PTD X e g:=⟨h.run _⟩
structure PAD (X:Cx) (es:List Expr) (g:G->R (List D)):Prop where
 run:∀(pos:Pos) (pins:List (Addr×Obj)) (s:Shared) (σ:St) (H:Hp) (F:List Addr) (Γ:G),Inv X pins σ H s->FOk H F->Rel X.K H F Γ σ->g Γ ≠ .no ->
  wpAny (model X.prog X.w) X.A (spliced (backTo pos (starEach es X.env))) (fun us s'=>∃ds vs H',g Γ = .ok ds/\Inv X pins σ H' s'/\Vals vs us/\Same H H'/\IsAll X.K H' ds vs) (z1m X pins σ H (g Γ)) s
section
variable {X:Cx}{e a b c:Expr}{g ga gb gc:G->R D}{pos:Pos}
theorem PDr.pd(h:PDr X e g):PD X e g:=⟨fun pins s σ H F Γ I fo rl hg =>
 thn (h.run pins s σ H F Γ I fo rl hg) fun _ _ ⟨d,v,H',e1,I',r,S,i⟩=>⟨d,v,H',e1,I',r,S,i.same z0u⟩⟩
theorem PD.ro(h:PD X e g):PDr X e (gNL g):=⟨fun pins s σ H F Γ I fo rl hg =>
 wpAny_mono (h.run pins s σ H F Γ I fo rl (R.left hg)) (fun _ _ ⟨d,v,H',e1,I',r,S,i⟩=>by
  have hgx:=R.next hg e1
  obtain⟨n,e2⟩:=R.guard_ne hgx
  exact⟨d,v,H',(R.step e1 _).trans e2,I',r,S,Is.hid (fo.same S) d v n i⟩) fun _ _ x=>x.bind _⟩
theorem PF.ro{g:G->R (List D)}(h:PF X e g):PDr X e (gL g):=⟨fun pins s σ H F Γ I fo rl hg =>
 wpAny_mono (h.run pins s σ H F Γ I fo rl (R.left hg)) (fun _ _ ⟨ds,p,xs,H',e1,I',eu,S,hn,hp,i⟩=>by
  have hF:p ∉ F:=fun z=>by obtain⟨ys,q⟩:=fo p z;rw[hn] at q;cases q
  exact⟨.lst ds,.ref p,H',(R.step e1 _),I',eu,S,Is.lst_iff.mpr ⟨p,xs,rfl,SqL.of (by rw[z1d hF];exact hp),i.same x1z⟩⟩) fun _ _ x=>x.bind _⟩
theorem PF.pd{g:G->R (List D)}(h:PF X e g):PD X e (gL g):=h.ro.pd
theorem PD.of{t:TE}(h:PE X.nox e t)(hq:∀σ H F Γ,FOk H F->Rel X.K H F Γ σ->g Γ ≠ .no->t σ H fun v H'=>∃d,g Γ = .ok d/\Same H H'/\Is X.K H' d v):PD X e g:=⟨fun pins s σ H F Γ I fo rl hg =>
 wpAny_mono (h pins s σ H _ (I.wish _) (hq σ H F Γ fo rl hg)) (fun _ _ ⟨v,H',I',r,d,e1,S,i⟩=>⟨d,v,H',e1,I'.unwish,r,S,i⟩) fun _ _ z=>False.elim z⟩
theorem z0b(i:Nat){x:Str}(hN:X.N[i]? = some x:=by rfl)(hv:Vis X.env.scope x:=by first | exact Or.inl rfl | exact Or.inr (Or.inl rfl) | exact Or.inr (Or.inr rfl))(hd:(x==("__debug__":Str))=false:=by decide)
 (hcd:(x==("__classdict__":Str))=false:=by decide):PD X (.Name x pos) (gV i) :=
 PD.of (t:=tVar i) (z6a (X:=X.nox) hN hv hd hcd) fun σ H F Γ fo rl hg=>by
  obtain⟨d,e⟩:=x8g hg
  obtain⟨v,h1,h2⟩:=rl.look e
  exact⟨v,h1,d,e,.refl _,h2⟩
theorem z7g(i:Nat){x:Str}(hN:X.N[i]? = some x:=by rfl)(hv:Vis X.env.scope x:=by first | exact Or.inl rfl | exact Or.inr (Or.inl rfl) | exact Or.inr (Or.inr rfl))(hd:(x==("__debug__":Str))=false:=by decide)
 (hcd:(x==("__classdict__":Str))=false:=by decide):PDr X (.Name x pos) (gVr i):=by
 refine⟨fun pins s σ H F Γ I fo rl hg=>?_⟩
 obtain⟨d,e⟩:=x6x hg
 obtain⟨v,h1,h2⟩:=rl.lookr e
 exact wpAny_mono (z6a (X:=X.nox) hN hv hd hcd pins s σ H (fun v' H'=>v'=v/\H'=H) (I.wish _) ⟨v,h1,rfl,rfl⟩) (fun _ _ ⟨v',H',I',r,e1,e2⟩=>by
  subst e1 e2
  exact⟨d,v',H',e,I'.unwish,r,.refl _,h2⟩) fun _ _ z=>False.elim z
theorem z0f{i:Int}{j}:PD X (.Constant (.int i) j pos) (gC (.int i)):=PD.of (t:=tC (.int i)) y9b fun _ _ _ _ _ _ _=>⟨_,rfl,.refl _,Is.int_iff.mpr rfl⟩
theorem x6o{b:Bool}{j}:PD X (.Constant (.bool b) j pos) (gC (.bl b)):=PD.of (t:=tC (.bl b)) x7z fun _ _ _ _ _ _ _=>⟨_,rfl,.refl _,Is.bl_iff.mpr rfl⟩
theorem z4w{x:Str}{j}:PD X (.Constant (.str x) j pos) (gC (.str x)):=PD.of (t:=tC (.str x)) x2u fun _ _ _ _ _ _ _=>⟨_,rfl,.refl _,Is.str_iff.mpr rfl⟩
theorem x4a{x:Str}{d:D}{v:V}{u:Value}(hg:Gl X x)(hm:X.mg x=some u)(r:RelV v u)(i:∀H,Is X.K H d v)(hd:(x==("__debug__":Str))=false:=by decide):PD X (.Name x pos) (gC d) :=
 PD.of (t:=tC v) (x3z (X:=X.nox) hg hm r hd) fun _ H _ _ _ _ _=>⟨_,rfl,.refl _,i H⟩
noncomputable def OpD(X:Cx)(f:Value->Value->Sem Value)(g:D->D->R D):Prop:=∃r:R2,OpR X.nox f r/\∀H x y dx dy,Is X.K H dx x->Is X.K H dy y->g dx dy ≠ .no->r x y H fun z H'=>∃d,g dx dy = .ok d/\Same H H'/\Is X.K H' d z
theorem OpD.run{f:Value->Value->Sem Value}{g:D->D->R D}(h:OpD X f g){pins:List (Addr×Obj)}{s:Shared}{σ:St}{H:Hp}{x y:V}{v u:Value}{dx dy:D}(I:Inv X pins σ H s)(rx:RelV x v)(ry:RelV y u)
 (ix:Is X.K H dx x) (iy:Is X.K H dy y) (hg:g dx dy ≠ .no) {E:Value->Shared->Prop}:wpAny (model X.prog X.w) X.A (f v u) (Post X pins σ H (g dx dy)) E s:=by
 obtain⟨r,ho,hr⟩:=h
 exact wpAny_mono (ho pins s σ H x y v u _ (I.wish _) rx ry (hr H x y dx dy ix iy hg)) (fun _ _ ⟨z,H',I',rz,d,e,S,i⟩=>⟨d,z,H',e,I'.unwish,rz,S,i⟩) fun _ _ z=>False.elim z
theorem Post.bind{pins:List (Addr×Obj)}{σ:St}{H H1:Hp}{α:Type}{r:R α}{k:α->R D}{a:α}{u:Value}{s':Shared}(e:r = .ok a)(S:Same H H1)(h:Post X pins σ H1 (k a) u s'):Post X pins σ H (r>>=k) u s':=by
 obtain⟨d,v,H',e1,I,rv,S1,i⟩:=h
 exact⟨d,v,H',(R.step e k).trans e1,I,rv,S.trans S1,i⟩
theorem binD{g2:D->D->R D}{f:Value->Value->Sem Value}(ho:OpD X f g2)(ha:PD X a ga)(hb:PD X b gb){pins:List (Addr×Obj)}{s:Shared}{σ:St}{H:Hp}{F:List Addr}{Γ:G}(I:Inv X pins σ H s)(fo:FOk H F)(rl:Rel X.K H F Γ σ)(hg:gBin g2 ga gb Γ ≠ .no) :
 wpAny (model X.prog X.w) X.A (eval a X.env) (fun v s₁=>wpAny (model X.prog X.w) X.A (eval b X.env) (fun u s₂=>wpAny (model X.prog X.w) X.A (f v u) (Post X pins σ H (gBin g2 ga gb Γ)) (z1m X pins σ H (gBin g2 ga gb Γ)) s₂) (z1m X pins σ H (gBin g2 ga gb Γ)) s₁) (z1m X pins σ H (gBin g2 ga gb Γ)) s:=by
 refine wpAny_mono (ha.run pins s σ H F Γ I fo rl (R.left hg)) (fun v s1 ⟨dx,x,H1,e1,I1,r1,S1,i1⟩=>?_) fun _ _ x=>x.bind _
 have hg1:=R.next hg e1
 refine wpAny_mono (hb.run pins s1 σ H1 F Γ I1 (fo.same S1) (rl.same S1) (R.left hg1)) (fun u s2 ⟨dy,y,H2,e2,I2,r2,S2,i2⟩=>?_) fun _ _ x=>z1m.later e1 S1 (x.bind _)
 have hg2:=R.next hg1 e2
 exact thn (ho.run I2 r1 r2 (i1.same S2) i2 hg2) fun _ _ q=>Post.bind e1 S1 (Post.bind e2 S2 q)
theorem z0q{op:Operator}{g2:D->D->R D}(ho:OpD X (binaryOp op) g2)(ha:PD X a ga)(hb:PD X b gb):PD X (.BinOp a op b pos) (gBin g2 ga gb):=⟨fun pins s σ H F Γ I fo rl hg=>wpAny_BinOp (binD ho ha hb I fo rl hg)⟩
theorem z9v{op:CmpOp}{g2:D->D->R D}(ho:OpD X (compareOp op) g2)(ha:PD X a ga)(hb:PD X b gb)(hm:behindInMarks op b=false):PD X (.Compare a [op] [b] pos) (gBin g2 ga gb):=⟨fun pins s σ H F Γ I fo rl hg=>wpAny_Compare1 (binD ho ha hb I fo rl hg) hm⟩
theorem y2z{pins:List (Addr×Obj)}{σ:St}{H:Hp}{r:R D}{u:Value}{s':Shared}(h:Post X pins σ H r u s')(hg:(r>>=asB) ≠ .no):∃b H',u = .bool b/\(r>>=asB) = .ok b/\Inv X pins σ H' s'/\Same H H':=by
 obtain⟨d,v,H',e1,I,rv,S,i⟩:=h
 obtain⟨b,rfl,e2⟩:=x0s (R.next hg e1)
 rw[Is.bl_iff.mp i] at rv
 exact⟨b,H',rv,(R.step e1 _).trans e2,I,S⟩
theorem z1c{op:CmpOp}{g2:D->D->R D}(ho:OpD X (compareOp op) g2)(ha:PD X a ga)(hb:PD X b gb)(hm:behindInMarks op b=false):PTD X (.Compare a [op] [b] pos) (gT (gBin g2 ga gb)):=by
 refine⟨fun pins s σ H F Γ I fo rl hg=>?_⟩
 refine wpAny_isTrue_Compare1 (wpAny_mono (binD ho ha hb I fo rl (R.left hg)) (fun v s1 h1=>wpAny_mono h1 (fun u s2 h2=>wpAny_mono h2 (fun z s3 h3=>?_) fun _ _ x=>x.bind _) fun _ _ x=>x.bind _) fun _ _ x=>x.bind _) hm
 obtain⟨b,H',rfl,e,I',S⟩:=y2z h3 hg
 exact wpAny_truthy_bool ⟨H',e,I',S⟩
theorem z9q(ha:PD X a ga)(he:∀whole,isTrue a X.env whole=(do let v <-whole;standAt a.pos;holding [v] (truthy v)):=by intro _;rfl):PTD X a (gT ga):=by
 refine⟨fun pins s σ H F Γ I fo rl hg=>?_⟩
 refine isTrue_plain (wpAny_mono (ha.run pins s σ H F Γ I fo rl (R.left hg)) (fun v s1 h3=>?_) fun _ _ x=>x.bind _) (he _)
 obtain⟨b,H',rfl,e,I',S⟩:=y2z h3 hg
 exact wpAny_truthy_bool ⟨H',e,I',S⟩
variable {gA gB:G->R Bool}{rest:List Expr}
theorem y5q(ha:PTD X a gA):PWD X (.BoolOp .And [a] pos) gA:=by
 refine⟨fun wh pins s σ H F Γ I fo rl hg=>?_⟩
 refine isTrue_and (thn (ha.run pins s σ H F Γ I fo rl hg) fun c s1 e=>?_)
 cases c with
 | true=>exact isTrue_and_nil e
 | false=>exact e
theorem y4l(ha:PTD X a gA)(hb:PWD X (.BoolOp .And (b::rest) pos) gB):PWD X (.BoolOp .And (a::b::rest) pos) (gAnd gA gB):=by
 refine⟨fun wh pins s σ H F Γ I fo rl hg=>?_⟩
 refine isTrue_and (wpAny_mono (ha.run pins s σ H F Γ I fo rl (R.left hg)) (fun c s1 ⟨H1,e1,I1,S1⟩=>?_) fun _ _ x=>x.bind _)
 have hg1:=R.next hg e1
 cases c with
 | true=>exact wpAny_mono (hb.run wh pins s1 σ H1 F Γ I1 (fo.same S1) (rl.same S1) hg1) (fun _ _ ⟨H2,e2,I2,S2⟩=>⟨H2,(R.step e1 _).trans e2,I2,S1.trans S2⟩) fun _ _ x=>z1m.later e1 S1 x
 | false=>exact⟨H1,R.step e1 _,I1,S1⟩
theorem y1x(ha:PTD X a gA):PTD X (.UnaryOp .Not a pos) (gNot gA):=⟨fun pins s σ H F Γ I fo rl hg =>
 isTrue_not (wpAny_mono (ha.run pins s σ H F Γ I fo rl (R.left hg)) (fun c s1 ⟨H1,e1,I1,S1⟩=>⟨H1,R.step e1 _,I1,S1⟩) fun _ _ x=>x.bind _)⟩
theorem y5v{op}(h:PD X a ga):PD X (.BoolOp op [a] pos) ga:=⟨fun pins s σ H F Γ I fo rl hg=>BoolOp_one (h.run pins s σ H F Γ I fo rl hg)⟩
theorem y3b(ha:PD X a ga)(hb:PD X (.BoolOp .And (b::rest) pos) gb):PD X (.BoolOp .And (a::b::rest) pos) (z7l ga gb):=by
 refine⟨fun pins s σ H F Γ I fo rl hg=>?_⟩
 refine BoolOp_and (wpAny_mono (ha.run pins s σ H F Γ I fo rl (R.left hg)) (fun v s1 ⟨d,x,H1,e1,I1,r1,S1,i1⟩=>?_) fun _ _ x=>x.bind _)
 have hg1:=R.next hg e1
 obtain⟨k,rfl,e2⟩:=x0s (R.left hg1)
 have hg2:=R.next hg1 e2
 rw[Is.bl_iff.mp i1] at r1
 cases r1
 refine wpAny_truthy_bool ?_
 cases k with
 | true=>exact wpAny_mono (hb.run pins s1 σ H1 F Γ I1 (fo.same S1) (rl.same S1) hg2) (fun _ _ q=>Post.bind e1 S1 (Post.bind e2 (.refl _) q)) fun _ _ q=>z1m.later e1 S1 (z1m.later e2 (.refl _) q)
 | false=>exact Post.bind e1 S1 (Post.bind e2 (.refl _) ⟨.bl false,.bl false,H1,rfl,I1,rfl,.refl _,Is.bl_iff.mpr rfl⟩)
theorem x6n(ha:PD X a ga):PD X (.UnaryOp .Not a pos) (y0k ga):=by
 refine⟨fun pins s σ H F Γ I fo rl hg=>?_⟩
 refine UnaryOp_ (wpAny_mono (ha.run pins s σ H F Γ I fo rl (R.left hg)) (fun v s1 ⟨d,x,H1,e1,I1,r1,S1,i1⟩=>?_) fun _ _ x=>x.bind _)
 have hg1:=R.next hg e1
 obtain⟨k,rfl,e2⟩:=x0s (R.left hg1)
 rw[Is.bl_iff.mp i1] at r1
 cases r1
 exact not_of (wpAny_truthy_bool (Post.bind e1 S1 (Post.bind e2 (.refl _) ⟨.bl (!k),.bl (!k),H1,rfl,I1,rfl,.refl _,Is.bl_iff.mpr rfl⟩)))
theorem x2v(ha:PD X a ga):PD X (.UnaryOp .USub a pos) (gNeg ga):=by
 refine⟨fun pins s σ H F Γ I fo rl hg=>?_⟩
 refine UnaryOp_ (wpAny_mono (ha.run pins s σ H F Γ I fo rl (R.left hg)) (fun v s1 ⟨d,x,H1,e1,I1,r1,S1,i1⟩=>?_) fun _ _ x=>x.bind _)
 have hg1:=R.next hg e1
 cases d with
 | int i =>
   rw[Is.int_iff.mp i1] at r1
   obtain⟨t,rfl⟩:=r1
   exact neg_int (Post.bind e1 S1 ⟨.int (-i),.int (-i),H1,rfl,I1.tok _,⟨_,rfl⟩,.refl _,Is.int_iff.mpr rfl⟩)
 | _=>exact absurd rfl hg1
theorem x8a(hc:PTD X c gA)(ha:PD X a ga)(hb:PD X b gb):PD X (.IfExp c a b pos) (gIf gA ga gb):=by
 refine⟨fun pins s σ H F Γ I fo rl hg=>?_⟩
 refine wpAny_IfExp (wpAny_mono (hc.run pins s σ H F Γ I fo rl (R.left hg)) (fun k s1 ⟨H1,e1,I1,S1⟩=>?_) fun _ _ x=>x.bind _)
 have hg1:=R.next hg e1
 cases k with
 | true=>exact wpAny_mono (ha.run pins s1 σ H1 F Γ I1 (fo.same S1) (rl.same S1) hg1) (fun _ _ q=>Post.bind e1 S1 q) fun _ _ q=>z1m.later e1 S1 q
 | false=>exact wpAny_mono (hb.run pins s1 σ H1 F Γ I1 (fo.same S1) (rl.same S1) hg1) (fun _ _ q=>Post.bind e1 S1 q) fun _ _ q=>z1m.later e1 S1 q
variable {es:List Expr}{gs:G->R (List D)}
theorem z0c:PAD X [] gNil:=⟨fun pos pins s σ H F Γ I fo rl hg=>Calls.spliced_nil ⟨[],[],H,rfl,I,.nil,.refl _,IsAll.nil⟩⟩
theorem z0a(ha:PD X e g)(hr:PAD X es gs)(hs:starEach (e::es) X.env=(false,eval e X.env)::starEach es X.env:=by rfl):PAD X (e::es) (gCons g gs):=by
 refine⟨fun pos pins s σ H F Γ I fo rl hg=>?_⟩
 rw[hs]
 show wpAny _ _ (spliced ((false,eval e X.env)::backTo pos (starEach es X.env))) _ _ s
 refine Calls.spliced_cons (wpAny_mono (ha.run pins s σ H F Γ I fo rl (R.left hg)) (fun u s1 ⟨d,x,H1,e1,I1,r1,S1,i1⟩=>?_) fun _ _ x=>x.bind _)
 have hg1:=R.next hg e1
 refine wpAny_mono (hr.run pos pins s1 σ H1 F Γ I1 (fo.same S1) (rl.same S1) (R.left hg1)) (fun us s2 ⟨ds,vs,H2,e2,I2,r2,S2,i2⟩=>?_) fun _ _ x=>z1m.later e1 S1 (x.bind _)
 exact⟨d::ds,x::vs,H2,(R.step e1 _).trans (R.step e2 _),I2,.cons r1 r2,S1.trans S2,IsAll.cons (i1.same S2) i2⟩
theorem z4i{n:Nat}(h:n<=1000):n<=sizeLine:=Nat.le_of_lt (y8h h)
theorem z1k{H:Hp}{p:Addr}(h:H p=none)(o:HO):Same H (upd H p o):=fun b u q=>by rw[z0k (z0p q h)];exact q
theorem z7u{x1}(h:PAD X es gs):PD X (.Tuple es x1 pos) (gTup gs):=by
 refine⟨fun pins s σ H F Γ I fo rl hg=>?_⟩
 refine wpAny_Tuple_spliced (wpAny_mono (h.run pos pins s σ H F Γ I fo rl (R.left hg)) (fun us s1 ⟨ds,vs,H1,e1,I1,r1,S1,i1⟩=>?_) fun _ _ x=>x.bind _)
 have hgx:=R.next hg e1
 obtain⟨hl,e2⟩:=R.guard_ne hgx
 have hz:vs.length<=sizeLine:=by rw[<-i1.length];exact z4i hl
 refine⟨by rw[<-r1.length];exact hz,?_⟩
 have hf:H1 s1.heap.objs.size=none:=I1.hok.fresh (Nat.le_refl _)
 have S2:=z1k hf (.tup vs)
 refine Post.bind e1 S1 ⟨.tup ds,.ref s1.heap.objs.size,upd H1 s1.heap.objs.size (.tup vs),e2,I1.laid (t':=s1.toks) (fun b u e=>Heap.get?_push_of_some _ e) (Nat.le_refl _) ?_,rfl,S2,Is.tup_iff.mpr ⟨_,vs,rfl,SqT.of z0m,i1.same S2⟩⟩
 exact⟨hz,us,r1,⟨_,Heap.get?_push_size _ rfl,rfl,_,rfl⟩⟩
theorem z7b(h:PAD X es gs):PF X (.List es pos) (gLst gs):=by
 refine⟨fun pins s σ H F Γ I fo rl hg=>?_⟩
 refine wpAny_List_spliced (wpAny_mono (h.run pos pins s σ H F Γ I fo rl (R.left hg)) (fun us s1 ⟨ds,vs,H1,e1,I1,r1,S1,i1⟩=>?_) fun _ _ x=>x.bind _)
 have hgx:=R.next hg e1
 obtain⟨⟨hl,hn⟩,e2⟩:=R.guard_ne hgx
 have hz:vs.length<=sizeLine:=by rw[<-i1.length];exact z4i hl
 refine⟨by rw[<-r1.length];exact hz,?_⟩
 have hf:H1 s1.heap.objs.size=none:=I1.hok.fresh (Nat.le_refl _)
 have S2:=z1k hf (.lst vs)
 have hH:H s1.heap.objs.size=none:=S1.free hf
 refine⟨ds,s1.heap.objs.size,vs,upd H1 s1.heap.objs.size (.lst vs),(R.step e1 _).trans e2,I1.laid (t':=s1.toks) (fun b u e=>Heap.get?_push_of_some _ e) (Nat.le_refl _) ?_,rfl,S1.trans S2,hH,z0m,?_⟩
 ·exact⟨hz,us,0,r1,Heap.get?_push_size _ rfl⟩
 ·exact IsAll.hid (((fo.same S1).same S2).cons z0m) ds vs hn (i1.same S2)
end
section
variable {X:Cx}{e a b c:Expr}{g ga gb gc:G->R D}{pos:Pos}
theorem od_I{f:Value->Value->Sem Value}{C:Int->Int->Prop}[∀i j,Decidable (C i j)]{v:Int->Int->V}{d:Int->Int->D}(hd:∀K H i j,Is K H (d i j) (v i j))(ho:OpR X.nox f (rI C v)) :
 OpD X f (fun x y=>match x,y with | .int i,.int j=>R.guard (C i j) (.ok (d i j)) | _,_=>.no):=by
 refine⟨_,ho,fun H x y dx dy ix iy hg=>?_⟩
 cases dx with
 | int i =>
   cases dy with
   | int j =>
     obtain⟨hc,e⟩:=R.guard_ne (show R.guard (C i j) (.ok (d i j)) ≠ .no from hg)
     exact⟨i,j,Is.int_iff.mp ix,Is.int_iff.mp iy,hc,d i j,e,.refl _,hd _ _ _ _⟩
   | _=>exact absurd rfl hg
 | _=>exact absurd rfl hg
theorem y9g{f:Value->Value->Sem Value}{v:Int->Int->V}{d:Int->Int->D}(hd:∀K H i j,Is K H (d i j) (v i j))(ho:OpR X.nox f (rI0 v)) :
 OpD X f (fun x y=>match x,y with | .int i,.int j=>.ok (d i j) | _,_=>.no):=by
 refine⟨_,ho,fun H x y dx dy ix iy hg=>?_⟩
 cases dx with
 | int i =>
   cases dy with
   | int j=>exact⟨i,j,Is.int_iff.mp ix,Is.int_iff.mp iy,d i j,rfl,.refl _,hd _ _ _ _⟩
   | _=>exact absurd rfl hg
 | _=>exact absurd rfl hg
theorem y1l:OpD X (binaryOp .Sub) dSub:=y9g (d:=fun i j=>.int (i-j)) (fun _ _ _ _=>Is.int_iff.mpr rfl) x6p
theorem z9z:OpD X (binaryOp .FloorDiv) dDiv:=od_I (d:=fun i j=>.int (i/j)) (fun _ _ _ _=>Is.int_iff.mpr rfl) (C:=fun i j=>0<j/\j<1073741824) x4e
theorem z3o:OpD X (binaryOp .Mod) dMod:=od_I (d:=fun i j=>.int (i%j)) (fun _ _ _ _=>Is.int_iff.mpr rfl) (C:=fun i j=>0<j) x6t
theorem y3c:OpD X (binaryOp .Pow) dPow:=od_I (d:=fun i j=>.int (i^j.toNat)) (fun _ _ _ _=>Is.int_iff.mpr rfl) (C:=fun i j=>0<=j/\j<=1000000/\i.natAbs<18446744073709551616) x6r
theorem x4j:OpD X (compareOp .Lt) dLt:=y9g (d:=fun i j=>.bl (decide (i<j))) (fun _ _ _ _=>Is.bl_iff.mpr rfl) x8b
theorem x4k:OpD X (compareOp .LtE) dLe:=y9g (d:=fun i j=>.bl (decide (i<=j))) (fun _ _ _ _=>Is.bl_iff.mpr rfl) x8c
theorem y7a:OpD X (compareOp .Gt) dGt:=y9g (d:=fun i j=>.bl (decide (j<i))) (fun _ _ _ _=>Is.bl_iff.mpr rfl) x8d
theorem x8f:OpD X (compareOp .GtE) dGe:=y9g (d:=fun i j=>.bl (decide (j<=i))) (fun _ _ _ _=>Is.bl_iff.mpr rfl) x8e
noncomputable def x7w(K:PySem.W.Frag):R2:=fun x y H Q=>∃a b xs ys,x = .ref a/\y = .ref b/\SqT K H a xs/\SqT K H b ys/\xs.length+ys.length<=sizeLine /\
 (xs=[]->Q (.ref b) H)/\(xs≠[]->ys=[]->Q (.ref a) H)/\(xs≠[]->ys≠[]->∀p,H p=none->Q (.ref p) (upd H p (.tup (xs++ys))))
theorem x4g:OpR X (binaryOp .Add) (x7w X.K):=by
 intro pins s σ H x y v u Q I rx ry h
 obtain⟨a,b,xs,ys,rfl,rfl,ha,hb,hz,q0,q1,q2⟩:=h
 by_cases hx:xs=[]
 ·cases rx
  cases ry
  obtain⟨its,r1,p1,_⟩:=I.tuple ha
  obtain⟨its2,r2,p2,_⟩:=I.tuple hb
  have hi:its=[]:=r1.nil_iff.mpr hx
  obtain⟨⟨cls,dd,data,sl⟩,ho,hc,n,hd⟩:=id p1
  obtain⟨⟨cls2,dd2,data2,sl2⟩,ho2,hc2,n2,hd2⟩:=id p2
  simp only at hc hd hc2 hd2
  subst hc hd hc2 hd2
  exact concat_meets ⟨_,ho,rfl⟩ ⟨_,ho2,rfl⟩ noFill_tuple_add seq_tuple_add PySem.F.slot_tuple_add PySem.F.entry_tuple_add (PySem.F.args_tuple_add_2 _ _)
   (tuple_addW0 a b its.toArray its2.toArray n n2 dd dd2 sl sl2 (by rw[hi];rfl)) ⟨ho,ho2,⟨.ref b,H,I,rfl,q0 hx⟩⟩
 ·exact x4f pins s σ H _ _ v u Q I rx ry ⟨a,b,xs,ys,rfl,rfl,ha,hb,hx,hz,q1 hx,q2 hx⟩
theorem z2d:OpD X (binaryOp .Add) dAdd:=by
 refine⟨_,OpR.or (x6v (X:=X.nox)) (x4g (X:=X.nox)),fun H x y dx dy ix iy hg=>?_⟩
 cases dx with
 | int i =>
   cases dy with
   | int j=>exact .inl ⟨i,j,Is.int_iff.mp ix,Is.int_iff.mp iy,.int (i+j),rfl,.refl _,Is.int_iff.mpr rfl⟩
   | _=>exact absurd rfl hg
 | tup ds =>
   cases dy with
   | tup es =>
     obtain⟨hc,e⟩:=R.guard_ne (show R.guard (ds.length+es.length<=1000) (R.ok (D.tup (ds++es)))≠R.no from hg)
     obtain⟨a,xs,rfl,h1,h2⟩:=Is.tup_iff.mp ix
     obtain⟨b,ys,rfl,h3,h4⟩:=Is.tup_iff.mp iy
     refine .inr ⟨a,b,xs,ys,rfl,rfl,h1,h3,by rw[<-h2.length,<-h4.length];exact z4i hc,fun z=>?_,fun z z'=>?_,fun z z' p hp=>?_⟩
     ·refine⟨.tup (ds++es),e,.refl _,Is.tup_iff.mpr ⟨b,ys,rfl,h3,?_⟩⟩
      have:ds=[]:=List.length_eq_zero_iff.mp (by rw[h2.length,z];rfl)
      rw[this];exact h4
     ·refine⟨.tup (ds++es),e,.refl _,Is.tup_iff.mpr ⟨a,xs,rfl,h1,?_⟩⟩
      have:es=[]:=List.length_eq_zero_iff.mp (by rw[h4.length,z'];rfl)
      rw[this,List.append_nil];exact h2
     ·have S:=z1k hp (.tup (xs++ys))
      exact⟨.tup (ds++es),e,S,Is.tup_iff.mpr ⟨p,xs++ys,rfl,SqT.of z0m,(h2.append h4).same S⟩⟩
   | _=>exact absurd rfl hg
 | _=>exact absurd rfl hg
theorem y6m(l:Addr)(items:Array Value)(n:Nat)(dd:Option Addr)(sl:Array (Option Value))(k:Int)(u:Tok)(h1:(decide (k < -(2^63))||decide (k≥2^63))=false)(hc:(items.isEmpty||k==1)=true) :
 Meets (Builtin.«tuple.__mul__» ⟨[.ref l,.int k u],[]⟩) (fun _ Q s=>s.heap.get? l=some { cls:=.type "tuple",dict:=dd,data:=.seq items n,slots:=sl }/\Q (.ok (.ret (Value.ref l))) s) :=
 .of_wp fun prog w A Q s h=>by obtain⟨hp,g,d,tk,os⟩:=s;obtain⟨hl,h⟩:=h;have f1:=AutoSeq1.idx_int;wp_walk using wpAny_loadPart' hl;refine wpAny_ite_false (by rw[h1];rfl) ?_;wp_walk using wpAny_loadPart' hl;exact⟨_,rfl,h⟩
theorem y6o(l:Addr)(items:Array Value)(n:Nat)(dd:Option Addr)(sl:Array (Option Value))(k:Int)(u:Tok)(h1:(decide (k < -(2^63))||decide (k≥2^63))=false)(hc:(items.isEmpty||k==1)=false)(hc2:(decide (k<=0)||items.isEmpty)=true) :
 Meets (Builtin.«tuple.__mul__» ⟨[.ref l,.int k u],[]⟩) (fun _ Q s=>s.heap.get? l=some { cls:=.type "tuple",dict:=dd,data:=.seq items n,slots:=sl }/\Q (.ok (.ret (Value.ref s.heap.objs.size))) { s with heap:=s.heap.push { cls:=.type "tuple",data:=.seq #[] } }) :=
 .of_wp fun prog w A Q s h=>by obtain⟨hp,g,d,tk,os⟩:=s;obtain⟨hl,h⟩:=h;have f1:=AutoSeq1.idx_int;wp_walk using wpAny_loadPart' hl;refine wpAny_ite_false (by rw[h1];rfl) ?_;wp_walk using wpAny_loadPart' hl;exact⟨_,rfl,h⟩
theorem y6n(l:Addr)(items:Array Value)(n:Nat)(dd:Option Addr)(sl:Array (Option Value))(k:Int)(u:Tok)(h1:(decide (k < -(2^63))||decide (k≥2^63))=false)(hc:(items.isEmpty||k==1)=false)(hc2:(decide (k<=0)||items.isEmpty)=false)(hc3:¬((items.size:Int)*k>(2^63-1)/8))(hc4:Builtin.Tuple.tupleTooMany ((items.size:Int)*k)=false)(hc5:¬((List.replicate k.toNat items).foldl (fun x1 x2=>x1++x2) #[]).size>sizeLine) :
 Meets (Builtin.«tuple.__mul__» ⟨[.ref l,.int k u],[]⟩) (fun _ Q s=>s.heap.get? l=some { cls:=.type "tuple",dict:=dd,data:=.seq items n,slots:=sl }/\Q (.ok (.ret (Value.ref s.heap.objs.size))) { s with heap:=s.heap.push { cls:=.type "tuple",data:=.seq ((List.replicate k.toNat items).foldl (·++·) #[]) } }) :=
 .of_wp fun prog w A Q s h=>by obtain⟨hp,g,d,tk,os⟩:=s;obtain⟨hl,h⟩:=h;have f1:=AutoSeq1.idx_int;wp_walk using wpAny_loadPart' hl;refine wpAny_ite_false (by rw[h1];rfl) ?_;wp_walk using wpAny_loadPart' hl;refine wpAny_ite_false (decide_eq_false hc3) ?_;wp_walk using wpAny_loadPart' hl;exact⟨_,rfl,h⟩
theorem z8z:fillsNumberSlot (.type "tuple") "mul"=pure false :=
 PySem.fillsNumberSlot_seq (id:="tuple.__mul__") (r:=some (.builtin "tuple.__rmul__")) F.slot_tuple_mul.lookup (by decide +kernel) F.slot_tuple_rmul.lookup (by decide +kernel)
theorem y2x:seqRepeat? (.type "tuple")=pure (some (.builtin "tuple.__mul__")):=by
 unfold seqRepeat?
 rw[PySem.seqSlot_of (T:="tuple") (name:="__mul__") (id:="tuple.__mul__") F.slot_tuple_mul.lookup (by decide +kernel),PySem.seqSlot_of (T:="tuple") (name:="__rmul__") (id:="tuple.__rmul__") F.slot_tuple_rmul.lookup (by decide +kernel)]
 rfl
theorem y0t(a:Int)(t:Tok)(l:Addr)(items:Array Value)(n:Nat)(dd:Option Addr)(sl:Array (Option Value)) :
 Meets (Builtin.«int.__rmul__» ⟨[.int a t,.ref l],[]⟩) (fun _ Q s=>s.heap.get? l=some { cls:=.type "tuple",dict:=dd,data:=.seq items n,slots:=sl }/\Q (.ok (.ret Value.notImplemented)) s) :=
 .of_wp fun prog w A Q s h=>by obtain⟨hp,g,d,tk,os⟩:=s;obtain⟨hl,h⟩:=h;wp_walk;exact⟨_,rfl,h⟩
noncomputable def x7u(K:PySem.W.Frag):R2:=fun x y H Q=>∃l k xs,x = .ref l/\y = .int k/\SqT K H l xs/\0<=k/\k<1000000/\xs.length*k.toNat<=1000 /\
 ((xs=[]∨k=1)->Q (.ref l) H)/\(xs≠[]->k≠1->∀p,H p=none->Q (.ref p) (upd H p (.tup (List.replicate k.toNat xs).flatten)))
theorem x4d:OpR X (binaryOp .Mult) (x7u X.K):=by
 intro pins s σ H x y v u Q I rx ry h
 obtain⟨l,k,xs,rfl,rfl,hH,h1,h2,hz,q0,q1⟩:=h
 cases rx
 obtain⟨t,rfl⟩:=ry
 obtain⟨its,r,p1,hz2⟩:=I.tuple hH
 have hl:its.length=xs.length:=r.length.symm
 obtain⟨⟨cls,dd,data,sl⟩,ho,hc,n,hd⟩:=id p1
 simp only at hc hd
 subst hc hd
 have hb:(decide (k < -(2^63))||decide (k≥2^63))=false:=by
  rw[decide_eq_false (by lia),decide_eq_false (by lia)];rfl
 refine wpAny_binaryOp_repeat_ref (T:="tuple") (U:="int") (by decide) ⟨_,ho,rfl⟩ (fun s'=>typeIs_int s' k t) z8z F.fills_int_mul F.slot_int_rmul y2x F.slot_int_index.lookup
  (call_meets F.slot_int_rmul (typeIs_int s k t) F.entry_int_rmul (F.args_int_rmul_2 _ _) (y0t k t l its.toArray n dd sl) ⟨ho,rfl,⟨_,ho,rfl⟩,?_⟩)
 by_cases c1:xs=[]∨k=1
 ·have hc1:(its.toArray.isEmpty||k==1)=true:=by
   rcases c1 with c | c
   ·have:its=[]:=List.length_eq_zero_iff.mp (by rw[hl,c];rfl)
    rw[this];rfl
   ·rw[c];simp
  exact call_meets F.slot_tuple_mul ⟨_,ho,rfl⟩ F.entry_tuple_mul (F.args_tuple_mul_2 _ _) (y6m l its.toArray n dd sl k t hb hc1) ⟨ho,⟨.ref l,H,I,rfl,q0 c1⟩⟩
 ·have hx:xs≠[]:=fun e=>c1 (.inl e)
  have hk1:k≠1:=fun e=>c1 (.inr e)
  have hne:its≠[]:=fun e=>hx (List.length_eq_zero_iff.mp (by rw[<-hl,e];rfl))
  have he:its.toArray.isEmpty=false:=by cases its with | nil=>exact absurd rfl hne | cons a b=>rfl
  have hc1:(its.toArray.isEmpty||k==1)=false:=by rw[he];simpa using hk1
  by_cases c2:k<=0
  ·have hk0:k=0:=by lia
   refine call_meets F.slot_tuple_mul ⟨_,ho,rfl⟩ F.entry_tuple_mul (F.args_tuple_mul_2 _ _) (y6o l its.toArray n dd sl k t hb hc1 (by rw[decide_eq_true c2];rfl)) ⟨ho,?_⟩
   have e0:(List.replicate k.toNat xs).flatten=[]:=by rw[hk0];rfl
   refine⟨.ref s.heap.objs.size,_,I.laid (t':=s.toks) (o:=.tup (List.replicate k.toNat xs).flatten) (fun b ob q=>Heap.get?_push_of_some _ q) (Nat.le_refl _) ?_,rfl,q1 hx hk1 _ (I.hok.fresh (Nat.le_refl _))⟩
   rw[e0]
   exact⟨by decide,[],.nil,⟨_,Heap.get?_push_size _ rfl,rfl,_,rfl⟩⟩
  ·have f0:∀m:Nat,List.foldl (fun x1 x2=>x1++x2) #[] (List.replicate m its.toArray)=(List.replicate m its).flatten.toArray:=fun m=>by
    have:=y0m its m []
    rw[List.nil_append] at this
    exact this
   have hlr:(List.replicate k.toNat its).flatten.length<=1000:=by rw[y4v,hl,Nat.mul_comm];exact hz
   have hsz:(its.toArray.size:Int)*k<=1000:=by
    rw[List.size_toArray,hl,show k=((k.toNat:Nat):Int) by lia]
    exact_mod_cast hz
   refine call_meets F.slot_tuple_mul ⟨_,ho,rfl⟩ F.entry_tuple_mul (F.args_tuple_mul_2 _ _) (y6n l its.toArray n dd sl k t hb hc1 (by rw[decide_eq_false c2,he];rfl) (by lia) ?_ ?_) ⟨ho,?_⟩
   ·unfold Builtin.Tuple.tupleTooMany
    have:(1000:Int)<=(sizeLine:Int):=by decide
    exact decide_eq_false (by lia)
   ·rw[f0,List.size_toArray]
    have:=z4i hlr
    lia
   ·rw[f0]
    refine⟨.ref s.heap.objs.size,_,I.laid (t':=s.toks) (o:=.tup (List.replicate k.toNat xs).flatten) (fun b ob q=>Heap.get?_push_of_some _ q) (Nat.le_refl _) ?_,rfl,q1 hx hk1 _ (I.hok.fresh (Nat.le_refl _))⟩
    exact⟨by rw[y4v,Nat.mul_comm];exact z4i hz,_,r.rep k.toNat,⟨_,Heap.get?_push_size _ rfl,rfl,_,rfl⟩⟩
theorem IsAll.rep{K:PySem.W.Frag}{H:Hp}{ds:List D}{xs:List V}(h:IsAll K H ds xs):∀n:Nat,IsAll K H (List.replicate n ds).flatten (List.replicate n xs).flatten
 | 0=>IsAll.nil
 | n+1=>by rw[List.replicate_succ,List.flatten_cons,List.replicate_succ,List.flatten_cons];exact h.append (IsAll.rep h n)
theorem z9x:OpD X (binaryOp .Mult) dMul:=by
 refine⟨_,OpR.or (x6s (X:=X.nox)) (x4d (X:=X.nox)),fun H x y dx dy ix iy hg=>?_⟩
 cases dx with
 | int i =>
   cases dy with
   | int j =>
     obtain⟨hc,e⟩:=R.guard_ne (show R.guard (z7i i j) (R.ok (D.int (i*j)))≠R.no from hg)
     refine .inl ⟨i,j,Is.int_iff.mp ix,Is.int_iff.mp iy,?_,.int (i*j),e,.refl _,Is.int_iff.mpr rfl⟩
     unfold z7i z9b at hc
     show(-(2^64)<i/\i<2^64)∨(-(2^64)<j/\j<2^64)
     lia
   | _=>exact absurd rfl hg
 | tup ds =>
   cases dy with
   | int j =>
     obtain⟨⟨hc1,hc2⟩,e⟩:=R.guard_ne (show R.guard (0<=j/\j<1000000/\ds.length*j.toNat<=1000) (R.ok (D.tup (List.replicate j.toNat ds).flatten))≠R.no from hg)
     obtain⟨a,xs,rfl,h1,h2⟩:=Is.tup_iff.mp ix
     have hxl:=h2.length
     refine .inr ⟨a,j,xs,rfl,Is.int_iff.mp iy,h1,hc1,hc2.1,by rw[<-hxl];exact hc2.2,fun c=>?_,fun z z' p hp=>?_⟩
     ·refine⟨_,e,.refl _,Is.tup_iff.mpr ⟨a,xs,rfl,h1,?_⟩⟩
      rcases c with c | c
      ·have:ds=[]:=List.length_eq_zero_iff.mp (by rw[hxl,c];rfl)
       rw[this,c]
       have e2:∀m:Nat,(List.replicate m ([]:List D)).flatten=[]:=fun m=>by simp
       rw[e2];exact IsAll.nil
      ·subst c
       show IsAll X.K H (List.replicate 1 ds).flatten xs
       rw[show(List.replicate 1 ds).flatten=ds by simp];exact h2
     ·have S:=z1k hp (.tup (List.replicate j.toNat xs).flatten)
      exact⟨_,e,S,Is.tup_iff.mpr ⟨p,_,rfl,SqT.of z0m,(h2.rep _).same S⟩⟩
   | _=>exact absurd rfl hg
 | _=>exact absurd rfl hg
mutual
noncomputable def D.py:D->PyData
 | .non=>.none
 | .bl b=>.bool b
 | .int i=>.int i
 | .str x=>.str x
 | .tup ds=>.tuple (D.pys ds)
 | .lst ds=>.list (D.pys ds)
 | .dct=>.dict []
 | .exc _=>.dict []
noncomputable def D.pys:List D->List PyData
 | []=>[]
 | d::ds=>d.py::D.pys ds
end
mutual
theorem y3h:∀(n:Nat) (d:D),D.lay n d=true->d.py.canLay0=true/\d.py.depth<=n
 | n,.non,_=>by simp[D.py,PyData.canLay0,PyData.depth]
 | n,.bl _,_=>by simp[D.py,PyData.canLay0,PyData.depth]
 | n,.int _,_=>by simp[D.py,PyData.canLay0,PyData.depth]
 | n,.str x,h=>by
   have h':PyData.strOk x=true:=by have:=h;rw[y0f] at this;exact this
   simp[D.py,PyData.canLay0,PyData.depth,h']
 | 0,.tup ds,h=>by simp[D.lay] at h
 | 0,.lst ds,h=>by simp[D.lay] at h
 | n+1,.tup ds,h=>by
   have q:=lays_py n ds (by simpa [D.lay] using h)
   constructor
   ·simpa [D.py,PyData.canLay0] using q.1
   ·have:=q.2
    simp only[D.py,PyData.depth];lia
 | n+1,.lst ds,h=>by
   have q:=lays_py n ds (by simpa [D.lay] using h)
   constructor
   ·simpa [D.py,PyData.canLay0] using q.1
   ·have:=q.2
    simp only[D.py,PyData.depth];lia
 | n,.dct,h=>by cases n<;>simp[D.lay] at h
 | n,.exc _,h=>by cases n<;>simp[D.lay] at h
theorem lays_py:∀(n:Nat) (ds:List D),D.lays n ds=true->PyData.canLayAll0 (D.pys ds)=true/\PyData.depthAll (D.pys ds)<=n
 | n,[],_=>by simp[D.pys,PyData.canLayAll0,PyData.depthAll]
 | n,d::ds,h=>by
   have h':D.lay n d=true/\D.lays n ds=true:=by simpa [D.lays] using h
   have q1:=y3h n d h'.1
   have q2:=lays_py n ds h'.2
   constructor
   ·simp[D.pys,PyData.canLayAll0,q1.1,q2.1]
   ·have:=q1.2;have:=q2.2
    simp only[D.pys,PyData.depthAll];lia
end
mutual
theorem z7r{pins:List (Addr×Obj)}{σ:St}{H:Hp}{s:Shared}(I:Inv X pins σ H s):∀(n:Nat) (d:D) (v:V) (u:Value),D.lay n d=true->Is X.K H d v->RelV v u->∃as,Reads s.heap u d.py as
 | _,.non,v,u,_,i,r=>by
   rw[Is.non_iff.mp i] at r;cases (show u=Value.none from r)
   exact⟨_,.none⟩
 | _,.bl b,v,u,_,i,r=>by
   rw[Is.bl_iff.mp i] at r;cases (show u=Value.bool b from r)
   exact⟨_,.bool b⟩
 | _,.int k,v,u,_,i,r=>by
   rw[Is.int_iff.mp i] at r
   obtain⟨t,rfl⟩:=(show ∃t,u=Value.int k t from r)
   exact⟨_,.int k t⟩
 | _,.str x,v,u,_,i,r=>by
   rw[Is.str_iff.mp i] at r
   obtain⟨t,rfl⟩:=(show ∃t,u=Value.str x t from r)
   exact⟨_,.str x t⟩
 | 0,.tup ds,v,u,h,_,_=>by simp[D.lay] at h
 | 0,.lst ds,v,u,h,_,_=>by simp[D.lay] at h
 | n+1,.tup ds,v,u,h,i,r=>by
   obtain⟨a,xs,rfl,h1,h2⟩:=Is.tup_iff.mp i
   cases (show u=Value.ref a from r)
   obtain⟨its,rv,⟨o,ho,hc,m,hd⟩,_⟩:=I.tuple h1
   obtain⟨as,ra⟩:=readsAll_of I n ds xs its (by simpa [D.lay] using h) h2 rv
   exact⟨as,by unfold D.py;exact .tuple ho hc hd (by simpa using ra)⟩
 | n+1,.lst ds,v,u,h,i,r=>by
   obtain⟨a,xs,rfl,h1,h2⟩:=Is.lst_iff.mp i
   cases (show u=Value.ref a from r)
   obtain⟨its,rv,⟨o,m,ho,hc,_,hd⟩,_⟩:=I.list h1
   obtain⟨as,ra⟩:=readsAll_of I n ds xs its (by simpa [D.lay] using h) h2 rv
   exact⟨a::as,by unfold D.py;exact .list ho hc hd (by simpa using ra)⟩
 | n,.dct,v,u,h,_,_=>by cases n<;>simp[D.lay] at h
 | n,.exc _,v,u,h,_,_=>by cases n<;>simp[D.lay] at h
theorem readsAll_of{pins:List (Addr×Obj)}{σ:St}{H:Hp}{s:Shared}(I:Inv X pins σ H s):∀(n:Nat) (ds:List D) (xs:List V) (us:List Value),D.lays n ds=true->IsAll X.K H ds xs->Vals xs us->∃as,ReadsAll s.heap us (D.pys ds) as
 | n,[],xs,us,_,i,r=>by
   rw[IsAll.nil_iff.mp i] at r
   cases r
   exact⟨_,by unfold D.pys;exact .nil⟩
 | n,d::ds,xs,us,h,i,r=>by
   obtain⟨x,r',rfl,h1,h2⟩:=IsAll.cons_iff.mp i
   have h':D.lay n d=true/\D.lays n ds=true:=by simpa [D.lays] using h
   cases r with
   | cons q1 q2 =>
     obtain⟨as,ra⟩:=z7r I n d x _ h'.1 h1 q1
     obtain⟨bs,rb⟩:=readsAll_of I n ds r' _ h'.2 h2 q2
     exact⟨as++bs,by unfold D.pys;exact .cons ra rb⟩
end
mutual
theorem x0e:∀x y:D,eqD x y=PyData.eqv x.py y.py
 | .non,y=>by cases y<;>simp[eqD,D.py,PyData.eqv]
 | .bl _,y=>by cases y<;>simp[eqD,D.py,PyData.eqv]
 | .int _,y=>by cases y<;>simp[eqD,D.py,PyData.eqv]
 | .str _,y=>by cases y<;>simp[eqD,D.py,PyData.eqv]
 | .dct,y=>by cases y<;>simp[eqD,D.py,PyData.eqv]
 | .exc _,y=>by cases y<;>simp[eqD,D.py,PyData.eqv]
 | .tup xs,y=>by
   cases y with
   | tup ys=>rw[eqD,D.py,D.py,PyData.eqv,eqDs_py xs ys]
   | _=>simp[eqD,D.py,PyData.eqv]
 | .lst xs,y=>by
   cases y with
   | lst ys=>rw[eqD,D.py,D.py,PyData.eqv,eqDs_py xs ys]
   | _=>simp[eqD,D.py,PyData.eqv]
theorem eqDs_py:∀xs ys:List D,eqDs xs ys=PyData.eqvAll (D.pys xs) (D.pys ys)
 | [],[]=>by simp[eqDs,D.pys,PyData.eqvAll]
 | [],_::_=>by simp[eqDs,D.pys,PyData.eqvAll]
 | _::_,[]=>by simp[eqDs,D.pys,PyData.eqvAll]
 | x::xs,y::ys=>by rw[eqDs,D.pys,D.pys,PyData.eqvAll,x0e x y,eqDs_py xs ys]
end
theorem z7h(hu:X.A.units+64<cLine):OpD X (compareOp .Eq) dEq:=by
 refine⟨fun x y H Q=>∃dx dy,Is X.K H dx x/\Is X.K H dy y/\D.lay 40 dx=true/\D.lay 40 dy=true/\Q (.bl (eqD dx dy)) H,?_,fun H x y dx dy ix iy hg=>?_⟩
 ·intro pins s σ H x y v u Q I rx ry h
  obtain⟨dx,dy,ix,iy,l1,l2,q⟩:=h
  obtain⟨as,ra⟩:=z7r I 40 dx x v l1 ix rx
  obtain⟨bs,rb⟩:=z7r I 40 dy y u l2 iy ry
  have p1:=y3h 40 dx l1
  have p2:=y3h 40 dy l2
  have hu':X.A.units+64<cLine:=hu
  refine PySem.SeqAt.compareEq_reads ra rb p1.1 p2.1 (show X.A.units+min dx.py.depth dy.py.depth<cLine by lia) ⟨.bl (eqD dx dy),H,I,by rw[x0e];rfl,q⟩
 ·obtain⟨⟨l1,l2⟩,e⟩:=R.guard_ne hg
  exact⟨dx,dy,ix,iy,l1,l2,.bl (eqD dx dy),e,.refl _,Is.bl_iff.mpr rfl⟩
theorem x1m(hu:X.A.units+64<cLine):OpD X (compareOp .NotEq) dNe:=by
 refine⟨fun x y H Q=>∃dx dy,Is X.K H dx x/\Is X.K H dy y/\D.lay 40 dx=true/\D.lay 40 dy=true/\Q (.bl (!eqD dx dy)) H,?_,fun H x y dx dy ix iy hg=>?_⟩
 ·intro pins s σ H x y v u Q I rx ry h
  obtain⟨dx,dy,ix,iy,l1,l2,q⟩:=h
  obtain⟨as,ra⟩:=z7r I 40 dx x v l1 ix rx
  obtain⟨bs,rb⟩:=z7r I 40 dy y u l2 iy ry
  have p1:=y3h 40 dx l1
  have p2:=y3h 40 dy l2
  have hu':X.A.units+64<cLine:=hu
  refine PySem.SeqAt.compareNe_reads ra rb p1.1 p2.1 (show X.A.units+min dx.py.depth dy.py.depth<cLine by lia) ⟨.bl (!eqD dx dy),H,I,by rw[x0e];rfl,q⟩
 ·obtain⟨⟨l1,l2⟩,e⟩:=R.guard_ne hg
  exact⟨dx,dy,ix,iy,l1,l2,.bl (!eqD dx dy),e,.refl _,Is.bl_iff.mpr rfl⟩
theorem IsAll.atI{K:PySem.W.Frag}{H:Hp}{ds:List D}{xs:List V}{i:Int}{d:D}(h:IsAll K H ds xs)(e:atI ds i=some d):∃x,L2.atI xs i=some x/\Is K H d x:=by
 unfold L2.atI
 unfold L3.atI at e
 rw[<-h.length]
 show ∃x,((L3.ixN ds.length i).bind fun j=>xs[j]?)=some x/\Is K H d x
 cases q:L3.ixN ds.length i with
 | none=>rw[q] at e;cases e
 | some j =>
   rw[q] at e
   exact h.get (by simpa using e)
theorem z2p(ha:PD X a ga)(hb:PD X b gb)(hs:y2o b:=by intro _ _;rfl):PD X (.Subscript a b pos) (gBin dIx ga gb):=by
 refine⟨fun pins s σ H F Γ I fo rl hg=>?_⟩
 refine Subscript_ (wpAny_mono (ha.run pins s σ H F Γ I fo rl (R.left hg)) (fun v s1 ⟨dx,x,H1,e1,I1,r1,S1,i1⟩=>?_) fun _ _ x=>x.bind _)
 have hg1:=R.next hg e1
 refine wpAny_mono (hb.run pins s1 σ H1 F Γ I1 (fo.same S1) (rl.same S1) (R.left hg1)) (fun u s2 ⟨dy,y,H2,e2,I2,r2,S2,i2⟩=>?_) fun _ _ x=>z1m.later e1 S1 (x.bind _)
 have hg2:=R.next hg1 e2
 have i1':=i1.same S2
 have fin:∀(d:D) (z:V),dIx dx dy = .ok d->Is X.K H2 d z->∀(w':Value) (s':Shared),EP X.nox pins σ (fun z' H'=>z'=z/\H'=H2) w' s'->Post X pins σ H (gBin dIx ga gb Γ) w' s':=fun d z ed iz w' s' ⟨z',H',I',rz,ez,eH⟩=>by
  subst ez eH
  exact Post.bind e1 S1 (Post.bind e2 S2 ⟨d,z',H',ed,I'.unwish,rz,.refl _,iz⟩)
 cases dx with
 | tup ds =>
   cases dy with
   | int i =>
     obtain⟨p,xs,rfl,h1,h2⟩:=Is.tup_iff.mp i1'
     cases q:atI ds i with
     | none=>exact absurd (show dIx (.tup ds) (.int i) = .no by simp only[dIx,q]) hg2
     | some d =>
       obtain⟨z,ez,iz⟩:=h2.atI q
       exact wpAny_mono (x7k (X:=X.nox) a b pins s2 σ H2 _ y v u _ (I2.wish _) r1 r2 ⟨p,xs,i,z,rfl,Is.int_iff.mp i2,h1,ez,rfl,rfl⟩ (hs _ _)) (fun w' s' h=>fin d z (by show dIx (.tup ds) (.int i) = .ok d;simp only[dIx,q]) iz w' s' h) fun _ _ z=>False.elim z
   | _=>exact absurd rfl hg2
 | lst ds =>
   cases dy with
   | int i =>
     obtain⟨p,xs,rfl,h1,h2⟩:=Is.lst_iff.mp i1'
     cases q:atI ds i with
     | none=>exact absurd (show dIx (.lst ds) (.int i) = .no by simp only[dIx,q]) hg2
     | some d =>
       obtain⟨z,ez,iz⟩:=h2.atI q
       exact wpAny_mono (y4x (X:=X.nox) a b pins s2 σ H2 _ y v u _ (I2.wish _) r1 r2 ⟨p,xs,i,z,rfl,Is.int_iff.mp i2,h1,ez,rfl,rfl⟩ (hs _ _)) (fun w' s' h=>fin d z (by show dIx (.lst ds) (.int i) = .ok d;simp only[dIx,q]) iz w' s' h) fun _ _ z=>False.elim z
   | _=>exact absurd rfl hg2
 | _=>exact absurd rfl hg2
variable {x:Str}{p:Pos}{es:List Expr}{gs:G->R (List D)}{bid T:String}
noncomputable def y0y(X:Cx)(f:Value)(g:List D->R D):Prop:=∃r:List V->Hp->VK->Prop,z9c X.nox f r/\∀H xs ds,IsAll X.K H ds xs->g ds ≠ .no->r xs H fun z H'=>∃d,g ds = .ok d/\Same H H'/\Is X.K H' d z
theorem y0y.run{f:Value}{g:List D->R D}(h:y0y X f g){pins:List (Addr×Obj)}{s:Shared}{σ:St}{H:Hp}{xs:List V}{us:List Value}{ds:List D}(I:Inv X pins σ H s)(r:Vals xs us)(i:IsAll X.K H ds xs)(hg:g ds ≠ .no){E:Value->Shared->Prop} :
 wpAny (model X.prog X.w) X.A (call f us) (Post X pins σ H (g ds)) E s:=by
 obtain⟨r',ho,hr⟩:=h
 exact wpAny_mono (ho pins s σ H xs us _ (I.wish _) r (hr H xs ds i hg)) (fun _ _ ⟨z,H',I',rz,d,e,S,i⟩=>⟨d,z,H',e,I'.unwish,rz,S,i⟩) fun _ _ z=>False.elim z
theorem z1r{g:List D->R D}(hc:y0y X (.builtin bid) g)(hm:X.mg x=none)(hv:bootBuiltins x=some (.builtin bid))(ha:PAD X (e::es) gs)(hg:Gl X x:=by rfl)(hn:x≠"__name__":=by decide)(hdb:(x==("__debug__":Str))=false:=by decide)
 (he:starEach (e::es) X.env=(false,eval e X.env)::starEach es X.env:=by rfl) (hpl:(backTo pos (starEach es X.env)).any (·.1)=false:=by rfl):PD X (.Call (.Name x p) (e::es) [] pos) (z0i g gs):=by
 refine⟨fun pins s σ H F Γ I fo rl hgg=>?_⟩
 refine wpAny_Call_Name_kw (z6c I hg hm hv ?_ hn hdb)
 refine PyProof.Rows.callWith_builtin1 (wpAny_mono (ha.run pos pins s σ H F Γ I fo rl (R.left hgg)) (fun us s1 ⟨ds,vs,H1,e1,I1,r1,S1,i1⟩=>?_) fun _ _ x=>x.bind _) he hpl
 exact thn (hc.run I1 r1 i1 (R.next hgg e1)) fun _ _ q=>Post.bind e1 S1 q
theorem z1f{g:List D->R D}(hc:y0y X (.type T) g)(hm:X.mg x=none)(hv:bootBuiltins x=some (.type T))(ha:PAD X (e::es) gs)(hg:Gl X x:=by rfl)(hn:x≠"__name__":=by decide)(hdb:(x==("__debug__":Str))=false:=by decide)
 (he:starEach (e::es) X.env=(false,eval e X.env)::starEach es X.env:=by rfl) (hpl:(backTo pos (starEach es X.env)).any (·.1)=false:=by rfl):PD X (.Call (.Name x p) (e::es) [] pos) (z0i g gs):=by
 refine⟨fun pins s σ H F Γ I fo rl hgg=>?_⟩
 refine wpAny_Call_Name_kw (z6c I hg hm hv ?_ hn hdb)
 refine PyProof.Rows.callWith_type1 (wpAny_mono (ha.run pos pins s σ H F Γ I fo rl (R.left hgg)) (fun us s1 ⟨ds,vs,H1,e1,I1,r1,S1,i1⟩=>?_) fun _ _ x=>x.bind _) he hpl
 exact thn (hc.run I1 r1 i1 (R.next hgg e1)) fun _ _ q=>Post.bind e1 S1 q
theorem z7c{K:PySem.W.Frag}{H:Hp}{d:D}{xs:List V}(h:IsAll K H [d] xs):∃v,xs=[v]/\Is K H d v:=by
 obtain⟨x,r,rfl,h1,h2⟩:=IsAll.cons_iff.mp h
 rw[IsAll.nil_iff.mp h2]
 exact⟨x,rfl,h1⟩
theorem z6u:y0y X (.builtin "len") dLen:=by
 refine⟨_,y3v (X:=X.nox),fun H xs ds i hg=>?_⟩
 unfold dLen at hg
 split at hg
 ·rename_i ys
  obtain⟨v,rfl,h⟩:=z7c i
  obtain⟨a,zs,rfl,h1,h2⟩:=Is.tup_iff.mp h
  exact⟨a,zs,rfl,.inr h1,.int ys.length,rfl,.refl _,Is.int_iff.mpr (by rw[h2.length])⟩
 ·rename_i ys
  obtain⟨v,rfl,h⟩:=z7c i
  obtain⟨a,zs,rfl,h1,h2⟩:=Is.lst_iff.mp h
  exact⟨a,zs,rfl,.inl h1,.int ys.length,rfl,.refl _,Is.int_iff.mpr (by rw[h2.length])⟩
 ·exact absurd rfl hg
theorem z1s:y0y X (.type "tuple") z1i:=by
 refine⟨_,y2m (X:=X.nox),fun H xs ds i hg=>?_⟩
 unfold z1i at hg
 split at hg
 ·rename_i ys
  obtain⟨v,rfl,h⟩:=z7c i
  obtain⟨a,zs,rfl,h1,h2⟩:=Is.tup_iff.mp h
  exact⟨a,zs,rfl,.inr ⟨h1,.tup ys,rfl,.refl _,h⟩⟩
 ·rename_i ys
  obtain⟨v,rfl,h⟩:=z7c i
  obtain⟨a,zs,rfl,h1,h2⟩:=Is.lst_iff.mp h
  refine⟨a,zs,rfl,.inl ⟨h1,fun l hl=>?_⟩⟩
  have S:=z1k hl (.tup zs)
  exact⟨.tup ys,rfl,S,Is.tup_iff.mpr ⟨l,zs,rfl,SqT.of z0m,h2.same S⟩⟩
 ·exact absurd rfl hg
theorem x1a(hc:X.calm=true):z9c X (.builtin "sum") (fun xs H Q=>∃(a:Addr) (ns:List Int),xs=[.ref a]/\SqL X.K H a (ns.map V.int)/\Q (.int ns.sum) H):=by
 intro pins s σ H xs us Q I r h
 obtain⟨a,ns,rfl,hq,q⟩:=h
 obtain⟨u,rfl,ru⟩:=y2p r
 cases ru
 obtain⟨its,rv,pl,_⟩:=I.list hq
 have hi:IntsAre its ns:=y7d rv
 obtain⟨ys,hy⟩:=hi.allInts.items
 have hl:=pl.isList
 rw[hy] at hl
 refine sum_intListG (I.ok.hd hc) hl fun h' tk t' hk=>⟨.int ns.sum,H,I.kept hk,⟨t',?_⟩,q⟩
 have hn:numsOf its.toArray.toList=ns:=by rw[show its.toArray.toList=its from rfl,hi.numsOf]
 rw[hy,nums_intItems] at hn
 rw[preSum_eq,List.take_of_length_le (by simp),hn]
theorem x0m(hc:X.calm=true):y0y X (.builtin "sum") dSum:=by
 refine⟨_,x1a (X:=X.nox) hc,fun H xs ds i hg=>?_⟩
 unfold dSum at hg
 split at hg
 ·rename_i ys
  obtain⟨v,rfl,h⟩:=z7c i
  obtain⟨a,zs,rfl,h1,h2⟩:=Is.lst_iff.mp h
  cases q:ints? ys with
  | none=>rw[q] at hg;exact absurd rfl hg
  | some ns =>
    have:=ints?_some q
    subst this
    rw[h2.ints_eq] at h1
    exact⟨a,ns,rfl,h1,.int ns.sum,by show dSum [.lst (ns.map D.int)]=_;simp only[dSum,q],.refl _,Is.int_iff.mpr rfl⟩
 ·exact absurd rfl hg
theorem IsAll.bools_eq{K:PySem.W.Frag}{H:Hp}:∀{ns:List Bool} {xs:List V},IsAll K H (ns.map D.bl) xs->xs=ns.map V.bl
 | [],xs,h=>IsAll.nil_iff.mp h
 | n::ns,xs,h=>by
   obtain⟨x,r,rfl,hx,tr⟩:=IsAll.cons_iff.mp h
   rw[Is.bl_iff.mp hx,IsAll.bools_eq tr];rfl
theorem y3w:∀{bs:List Bool} {us:List Value} {i:Nat} {v:Value},Vals (bs.map V.bl) us->us[i]? = some v->∃b,bs[i]? = some b/\v = .bool b
 | [],us,i,v,r,e=>by cases r;simp at e
 | b::bs,us,0,v,r,e=>by
   cases r with
   | cons r1 r2=>simp at e;subst e;exact⟨b,rfl,r1⟩
 | b::bs,us,i+1,v,r,e=>by
   cases r with
   | cons r1 r2 =>
     obtain⟨b',e1,e2⟩:=y3w (i:=i) r2 (by simpa using e)
     exact⟨b',by simpa using e1,e2⟩
theorem y4b:∀bs:List Bool,((List.range bs.length).any fun i=>(bs[i]?).getD false)=bs.any (fun b=>b)
 | []=>rfl
 | b::bs=>by
   rw[List.length_cons,List.range_succ_eq_map,List.any_cons,List.any_map,List.any_cons,<-y4b bs]
   rfl
theorem x0t(hc:X.calm=true):z9c X (.builtin "any") (fun xs H Q=>∃(a:Addr) (bs:List Bool),xs=[.ref a]/\SqL X.K H a (bs.map V.bl)/\Q (.bl (bs.any (fun b=>b))) H):=by
 intro pins s σ H xs us Q I r h
 obtain⟨a,bs,rfl,hq,q⟩:=h
 obtain⟨u,rfl,ru⟩:=y2p r
 cases ru
 obtain⟨its,rv,pl,_⟩:=I.list hq
 have hl:=pl.isList
 have hlt:a<s.heap.objs.size:=by obtain⟨_,e,_⟩:=hl;exact Heap.lt_size e
 have hlen:its.length=bs.length:=by rw[<-rv.length,List.length_map]
 refine call_any_walk (wpAny_pyIter_list hl ?_)
 refine⟨s.heap.objs.size,[s.heap.objs.size,a],[s.heap.objs.size],its.toArray.size,_,_,fun i=>(bs[i]?).getD false,rfl,Walks.list (A:=X.A.in1) (I.ok.hd hc) _ a (Nat.ne_of_lt hlt) its.toArray,
  ⟨⟨_,Heap.get?_push_size _ rfl,rfl,rfl⟩,hl.push _⟩,fun i v s' Q' E' hP hQ=>?_,fun h' tk hk=>?_⟩
 ·obtain⟨b,e,rfl⟩:=y3w rv (i:=i) (v:=v) (by simpa using hP)
  simp only[e,Option.getD_some] at hQ
  exact wpAny_truthy_bool hQ
 ·have e:((List.range its.toArray.size).any fun i=>(bs[i]?).getD false)=bs.any (fun b=>b):=by
   rw[List.size_toArray,hlen];exact y4b bs
  refine⟨.bl (bs.any (fun b=>b)),H,I.kept (fun b x ex=>hk b x (fun hm=>by rw[List.mem_singleton.mp hm] at ex;exact Nat.lt_irrefl _ (Heap.lt_size ex)) (Heap.get?_push_of_some _ ex)),by rw[e];rfl,q⟩
theorem x7n(hc:X.calm=true):y0y X (.builtin "any") dAny:=by
 refine⟨_,x0t (X:=X.nox) hc,fun H xs ds i hg=>?_⟩
 unfold dAny at hg
 split at hg
 ·rename_i ys
  obtain⟨v,rfl,h⟩:=z7c i
  obtain⟨a,zs,rfl,h1,h2⟩:=Is.lst_iff.mp h
  cases q:bools? ys with
  | none=>rw[q] at hg;exact absurd rfl hg
  | some ns =>
    have:=bools?_some q
    subst this
    rw[h2.bools_eq] at h1
    exact⟨a,ns,rfl,h1,.bl (ns.any (fun b=>b)),by show dAny [.lst (ns.map D.bl)]=_;simp only[dAny,q],.refl _,Is.bl_iff.mpr rfl⟩
 ·exact absurd rfl hg
end
noncomputable def CXE(P:Program)(w:World):CXT:=fun outer H s E x s'=>∃(e C T:Addr) (oe oT:Obj) (vs ts:Array Value) (H':Hp),x = .ref e/\s'.os=s.os/\AllBare s'.gens/\Un (frs outer) [] H H' s.heap s'.heap/\HOk P w H' s'.heap /\
 H' e=none/\s.heap.get? e=none/\s'.heap.get? e=some oe/\oe.cls = .ref C/\oe.data = .fields vs/\(∃a0,vs[0]? = some a0)/\vs[1]? = some (.ref T)/\H' T=none/\s.heap.get? T=none/\T≠e/\s'.heap.get? T=some oT/\oT.data = .fields ts/\ts[3]? = some .none/\E (.ref C) none H'
noncomputable def spD(K:PySem.W.Frag)(mg:Str->Option Value)(φ:List D->R D):Sp:=fun vs H Q E=>∃ds,IsAll K H ds vs/\φ ds ≠ .no/\(∀d v H',φ ds = .ok d->Same H H'->Is K H' d v->Q v H')/\(∀c C H',φ ds = .er c->mg c.nm=some (.ref C)->Same H H'->E (.ref C) none H')
noncomputable def spF(K:PySem.W.Frag)(mg:Str->Option Value)(φ:List D->R (List D)):Sp:=fun vs H Q E=>∃ds,IsAll K H ds vs/\φ ds ≠ .no/\(∀es a xs H',φ ds = .ok es->Same H H'->H a=none->H' a=some (.lst xs)->IsAll K H' es xs->Q (.ref a) H')/\(∀c C H',φ ds = .er c->mg c.nm=some (.ref C)->Same H H'->E (.ref C) none H')
structure FnD (P:Program) (w:World) (K:PySem.W.Frag) (mg:Str->Option Value) (base:Heap) (k:Nat) (f:Addr) (fd:FuncData) (ps:List Str) (φ:List D->R D):Prop where
 ok:FnOk P w K mg base (CXE P w) k f fd ps (spD K mg φ)
 binds:z1j K fd ps []
 kp:PySem.W.keepIn K (.ref f)=true
structure FnF (P:Program) (w:World) (K:PySem.W.Frag) (mg:Str->Option Value) (base:Heap) (k:Nat) (f:Addr) (fd:FuncData) (ps:List Str) (φ:List D->R (List D)):Prop where
 ok:FnOk P w K mg base (CXE P w) k f fd ps (spF K mg φ)
 binds:z1j K fd ps []
 kp:PySem.W.keepIn K (.ref f)=true
theorem FnD.mono{P:Program}{w:World}{K:PySem.W.Frag}{mg:Str->Option Value}{base:Heap}{j k:Nat}{f:Addr}{fd:FuncData}{ps:List Str}{φ:List D->R D}(F:FnD P w K mg base j f fd ps φ)(h:j<=k):FnD P w K mg base k f fd ps φ:=⟨F.ok.mono h,F.binds,F.kp⟩
section
variable {X:Cx}{e a b c:Expr}{g ga gb gc:G->R D}{pos p:Pos}{x:Str}{es:List Expr}{gs:G->R (List D)}
theorem _root_.L2.Inv.gone{pins:List (Addr×Obj)}{σ:St}{H:Hp}{s:Shared}{q:Addr}(I:Inv X pins σ H s)(hex:X.ex=[])(hq:s.heap.get? q=none):X.s₀.heap.get? q=none/\q≠X.env.locals/\(∀y k,X.env.cells.lookup y=some k->k≠q)/\(∀p∈X.pn++pins,p.1≠q):=by
 refine⟨?_,fun z=>?_,fun y k ek z=>?_,fun p hp z=>?_⟩
 ·cases e0:X.s₀.heap.get? q with
  | none=>rfl
  | some o =>
    obtain⟨o',e1⟩:=I.base.there q o e0 (by rw[hex];simp)
    rw[hq] at e1;cases e1
 ·obtain⟨m,⟨o,_,_,ho,_⟩,_⟩:=I.loc
  rw[<-z,hq] at ho;cases ho
 ·obtain⟨v,o,ho,_⟩:=I.cell y k ek
  rw[z,hq] at ho;cases ho
 ·have ho:=(I.pin p hp).1
  rw[z,hq] at ho;cases ho
theorem z8v{pins:List (Addr×Obj)}{σ:St}{H:Hp}{s s':Shared}{u:Value}{r:R D}{E:XK}(hex:X.ex=[]∨∀C H',¬E (.ref C) none H')(I:Inv X pins σ H s)(h:CXE X.prog X.w X.stack H s E u s')
 (hE:∀C H',E (.ref C) none H'->∃c,r = .er c/\X.mg c.nm=some (.ref C)/\Same H H'):z1m X pins σ H r u s':=by
 obtain⟨e,C,T,oe,oT,vs,ts,H',rfl,os,bare,un,hok,he0,he1,he2,he3,he4,he5,hv,hT0,hT1,hT2,hT3,hT4,hT5,hE'⟩:=h
 have hex:X.ex=[]:=hex.resolve_right fun z=>z C H' hE'
 obtain⟨c,er,hm,S⟩:=hE C H' hE'
 obtain⟨hh,gg,dd,tt,os'⟩:=s'
 obtain rfl:os'=s.os:=os
 have I':Inv X pins σ H' { s with heap:=hh,gens:=gg,drawn:=dd,toks:=tt }:=I.call (h':=hh) (g':=gg) (d':=dd) (t':=tt) (ch:=[]) un hok bare (fun b z=>absurd z (by simp))
 have fr:∀q:Addr,s.heap.get? q=none->X.s₀.heap.get? q=none/\q≠X.env.locals/\(∀y k,X.env.cells.lookup y=some k->k≠q)/\(∀p∈X.pn++pins,p.1≠q):=fun q hq=>I.gone hex hq
 obtain⟨f1,f2,f3,f4⟩:=fr e he1
 obtain⟨g1,g2,g3,g4⟩:=fr T hT1
 exact⟨c,H',er,S,I',e,C,oe,vs,rfl,hm,he0,f1,f2,f3,f4,he2,he3,he4,he5,.inr ⟨T,oT,ts,hv,hT0,g1,g2,g3,g4,hT2,hT3,hT4,.inl hT5⟩⟩
theorem runD{k:Nat}{f:Addr}{fd:FuncData}{ps:List Str}{φ:List D->R D}(Fn:FnD X.prog X.w X.K X.mg X.base k f fd ps φ)(hr:Room k X.A){pins:List (Addr×Obj)}{σ:St}{H:Hp}{s:Shared}{us:List Value}{vs:List V}{ds:List D}
 (I:Inv X pins σ H s) (r:Vals vs us) (i:IsAll X.K H ds vs) (hg:φ ds ≠ .no) (hx:X.ex=[]∨∀c,φ ds ≠ .er c):wpAny (model X.prog X.w) X.A (call (.ref f) us) (Post X pins σ H (φ ds)) (z1m X pins σ H (φ ds)) s:=by
 have hsp:spD X.K X.mg φ vs H (fun v H'=>∃d,φ ds = .ok d/\Same H H'/\Is X.K H' d v) (fun C' _ H'=>∃c C,C' = .ref C/\φ ds = .er c/\X.mg c.nm=some (.ref C)/\Same H H') :=
  ⟨ds,i,hg,fun d v H' e S iv=>⟨d,e,S,iv⟩,fun c C H' e hm S=>⟨c,C,rfl,e,hm,S⟩⟩
 have hl:us.length=ps.length:=by rw[<-r.length];exact Fn.ok.len _ _ _ _ hsp
 have hb:=Fn.binds s us I.kIn (by rw[List.append_nil];exact hl)
 rw[List.append_nil] at hb
 refine wpAny_call (codeAny_mono (Fn.ok.run X.A X.stack s H ⟨us,[]⟩ us vs _ _ hr I.env0 hb r hsp) fun r' s' hq=>?_)
 cases r' with
 | error u =>
   refine z8v (E:=fun C' _ H'=>∃c C,C' = .ref C/\φ ds = .er c/\X.mg c.nm=some (.ref C)/\Same H H') (hx.imp_right fun z C H' ⟨c,_,_,q,_⟩=>z c q) I hq fun C H' hE=>?_
   obtain⟨c,C',e,h1,h2,h3⟩:=hE
   cases e
   exact⟨c,h1,h2,h3⟩
 | ok fl =>
   cases fl with
   | ret u =>
     obtain⟨v,H',I',rv,d,e,S,iv⟩:=I.after hq
     exact⟨d,v,H',e,I',rv,S,iv⟩
   | next=>exact False.elim hq
   | brk=>exact False.elim hq
   | cont=>exact False.elim hq
theorem z0j{k:Nat}{f:Addr}{fd:FuncData}{ps:List Str}{φ:List D->R D}(Fn:FnD X.prog X.w X.K X.mg X.base k f fd ps φ)(hr:Room k X.A)(hm:X.mg x=some (.ref f))(ha:PAD X (e::es) gs)(hex:X.ex=[]:=by rfl)(hg:Gl X x:=by rfl)(hdb:(x==("__debug__":Str))=false:=by decide)
 (he:starEach (e::es) X.env=(false,eval e X.env)::starEach es X.env:=by rfl) (hpl:(backTo pos (starEach es X.env)).any (·.1)=false:=by rfl):PD X (.Call (.Name x p) (e::es) [] pos) (z0i φ gs):=by
 refine⟨fun pins s σ H F Γ I fo rl hgg=>?_⟩
 refine wpAny_Call_Name_kw (y0e I hg hm ?_ hdb)
 refine PySem.W.callWith_K (h₀:=X.base) I.ok.mod.kin Fn.kp (wpAny_mono (ha.run pos pins s σ H F Γ I fo rl (R.left hgg)) (fun us s1 ⟨ds,vs,H1,e1,I1,r1,S1,i1⟩=>⟨I1.kIn,?_⟩) fun _ _ x=>x.bind _) he hpl
 exact wpAny_mono (runD Fn hr I1 r1 i1 (R.next hgg e1) (.inl hex)) (fun _ _ q=>Post.bind e1 S1 q) fun _ _ q=>z1m.later e1 S1 q
theorem FnD.noEr{P:Program}{w:World}{K:PySem.W.Frag}{mg:Str->Option Value}{base:Heap}{k:Nat}{f:Addr}{fd:FuncData}{ps:List Str}{φ:List D->R D}(F:FnD P w K mg base k f fd ps φ):FnD P w K mg base k f fd ps (L3.noEr φ):=by
 refine⟨F.ok.imp fun vs H Q E h=>?_,F.binds,F.kp⟩
 obtain⟨ds,i,hne,hok,her⟩:=h
 obtain⟨d,e1,e2⟩:=y9j hne
 exact⟨ds,i,(by rw[e1];exact fun z=>nomatch z),fun d' v H' e S iv=>hok d' v H' (e2.trans (e1.symm.trans e)) S iv,fun c C H' e=>by rw[e1] at e;cases e⟩
theorem z5n{k:Nat}{f:Addr}{fd:FuncData}{ps:List Str}{φ:List D->R D}(Fn:FnD X.prog X.w X.K X.mg X.base k f fd ps φ)(hr:Room k X.A)(hm:X.mg x=some (.ref f))(ha:PAD X (e::es) gs)(hg:Gl X x:=by rfl)(hdb:(x==("__debug__":Str))=false:=by decide)
 (he:starEach (e::es) X.env=(false,eval e X.env)::starEach es X.env:=by rfl) (hpl:(backTo pos (starEach es X.env)).any (·.1)=false:=by rfl):PD X (.Call (.Name x p) (e::es) [] pos) (z0i (L3.noEr φ) gs):=by
 refine⟨fun pins s σ H F Γ I fo rl hgg=>?_⟩
 refine wpAny_Call_Name_kw (y0e I hg hm ?_ hdb)
 refine PySem.W.callWith_K (h₀:=X.base) I.ok.mod.kin Fn.kp (wpAny_mono (ha.run pos pins s σ H F Γ I fo rl (R.left hgg)) (fun us s1 ⟨ds,vs,H1,e1,I1,r1,S1,i1⟩=>⟨I1.kIn,?_⟩) fun _ _ x=>x.bind _) he hpl
 have hg1:=R.next hgg e1
 obtain⟨d,_,e3⟩:=y9j hg1
 exact wpAny_mono (runD Fn.noEr hr I1 r1 i1 hg1 (.inr fun c z=>by rw[e3] at z;cases z)) (fun _ _ q=>Post.bind e1 S1 q) fun _ _ q=>z1m.later e1 S1 q
theorem runF{k:Nat}{f:Addr}{fd:FuncData}{ps:List Str}{φ:List D->R (List D)}(Fn:FnF X.prog X.w X.K X.mg X.base k f fd ps φ)(hr:Room k X.A){pins:List (Addr×Obj)}{σ:St}{H:Hp}{s:Shared}{us:List Value}{vs:List V}{ds:List D}
 (I:Inv X pins σ H s) (r:Vals vs us) (i:IsAll X.K H ds vs) (hg:φ ds ≠ .no) (hx:X.ex=[]∨∀c,φ ds ≠ .er c):wpAny (model X.prog X.w) X.A (call (.ref f) us) (fun u s'=>∃es a xs H',φ ds = .ok es/\Inv X pins σ H' s'/\u = .ref a/\Same H H'/\H a=none/\H' a=some (.lst xs)/\IsAll X.K H' es xs) (z1m X pins σ H (φ ds)) s:=by
 have hsp:spF X.K X.mg φ vs H (fun v H'=>∃es a xs,v = .ref a/\φ ds = .ok es/\Same H H'/\H a=none/\H' a=some (.lst xs)/\IsAll X.K H' es xs) (fun C' _ H'=>∃c C,C' = .ref C/\φ ds = .er c/\X.mg c.nm=some (.ref C)/\Same H H') :=
  ⟨ds,i,hg,fun es a xs H' e S h1 h2 h3=>⟨es,a,xs,rfl,e,S,h1,h2,h3⟩,fun c C H' e hm S=>⟨c,C,rfl,e,hm,S⟩⟩
 have hl:us.length=ps.length:=by rw[<-r.length];exact Fn.ok.len _ _ _ _ hsp
 have hb:=Fn.binds s us I.kIn (by rw[List.append_nil];exact hl)
 rw[List.append_nil] at hb
 refine wpAny_call (codeAny_mono (Fn.ok.run X.A X.stack s H ⟨us,[]⟩ us vs _ _ hr I.env0 hb r hsp) fun r' s' hq=>?_)
 cases r' with
 | error u =>
   obtain⟨c,H',e1,S,fl⟩:=z8v (r:=φ ds>>=fun _=>.ok D.non) (E:=fun C' _ H'=>∃c C,C' = .ref C/\φ ds = .er c/\X.mg c.nm=some (.ref C)/\Same H H') (hx.imp_right fun z C H' ⟨c,_,_,q,_⟩=>z c q) I hq fun C H' hE=>by
    obtain⟨c,C',e,h1,h2,h3⟩:=hE
    cases e
    exact⟨c,R.stop h1 _,h2,h3⟩
   refine⟨c,H',?_,S,fl⟩
   cases q:φ ds with
   | no=>exact absurd q hg
   | ok _=>rw[q] at e1;cases e1
   | er c'=>rw[q] at e1;cases e1;rfl
 | ok fl =>
   cases fl with
   | ret u =>
     obtain⟨v,H',I',rv,es,a,xs,rfl,e,S,h1,h2,h3⟩:=I.after hq
     exact⟨es,a,xs,H',e,I',rv,S,h1,h2,h3⟩
   | next=>exact False.elim hq
   | brk=>exact False.elim hq
   | cont=>exact False.elim hq
theorem y9a{k:Nat}{f:Addr}{fd:FuncData}{ps:List Str}{φ:List D->R (List D)}(Fn:FnF X.prog X.w X.K X.mg X.base k f fd ps φ)(hr:Room k X.A)(hm:X.mg x=some (.ref f))(ha:PAD X (e::es) gs)(hex:X.ex=[]:=by rfl)(hg:Gl X x:=by rfl)(hdb:(x==("__debug__":Str))=false:=by decide)
 (he:starEach (e::es) X.env=(false,eval e X.env)::starEach es X.env:=by rfl) (hpl:(backTo pos (starEach es X.env)).any (·.1)=false:=by rfl):PF X (.Call (.Name x p) (e::es) [] pos) (z6d φ gs):=by
 refine⟨fun pins s σ H F Γ I fo rl hgg=>?_⟩
 refine wpAny_Call_Name_kw (y0e I hg hm ?_ hdb)
 refine PySem.W.callWith_K (h₀:=X.base) I.ok.mod.kin Fn.kp (wpAny_mono (ha.run pos pins s σ H F Γ I fo rl (R.left hgg)) (fun us s1 ⟨ds,vs,H1,e1,I1,r1,S1,i1⟩=>⟨I1.kIn,?_⟩) fun _ _ x=>x.bind _) he hpl
 have hg1:=R.next hgg e1
 refine wpAny_mono (runF Fn hr I1 r1 i1 (R.left hg1) (.inl hex)) (fun u s' ⟨es',a,xs,H',e2,I2,eu,S2,h1,h2,h3⟩=>?_) fun _ _ q=>z1m.later e1 S1 (q.bind _)
 have hgx:=R.next hg1 e2
 obtain⟨n,e3⟩:=R.guard_ne hgx
 exact⟨es',a,xs,H',(R.step e1 _).trans ((R.step e2 _).trans e3),I2,eu,S1.trans S2,S1.free h1,h2,IsAll.hid (((fo.same S1).same S2).cons h2) es' xs n h3⟩
theorem x3y{x:Str}(ha:PD X a ga)(hm:X.mg x=none)(hv:bootBuiltins x=some (.type "list"))(hg:Gl X x:=by rfl)(hn:x≠"__name__":=by decide)(hdb:(x==("__debug__":Str))=false:=by decide)
 (he:starEach [a] X.env=(false,eval a X.env)::starEach [] X.env:=by rfl) (hpl:(backTo pos (starEach [] X.env)).any (·.1)=false:=by rfl):PF X (.Call (.Name x p) [a] [] pos) (z6q ga):=by
 refine⟨fun pins s σ H F Γ I fo rl hgg=>?_⟩
 refine wpAny_Call_Name_kw (z6c I hg hm hv ?_ hn hdb)
 refine PyProof.Rows.callWith_type1 (wpAny_mono ((z0a ha z0c he).run pos pins s σ H F Γ I fo rl (fun z=>?_)) (fun us s1 ⟨ds,vs,H1,e1,I1,r1,S1,i1⟩=>?_) fun _ _ q=>?_) he hpl
 ·unfold gCons at z
  cases q:ga Γ with
  | no=>exact absurd (show z6q ga Γ = .no by unfold z6q;rw[q];rfl) hgg
  | ok d=>rw[q] at z;cases z
  | er c=>rw[q] at z;cases z
 ·have e0:∃d,ga Γ = .ok d/\ds=[d]:=by
   unfold gCons at e1
   cases q:ga Γ with
   | no=>rw[q] at e1;cases e1
   | ok d=>rw[q] at e1;cases e1;exact⟨d,rfl,rfl⟩
   | er c=>rw[q] at e1;cases e1
  obtain⟨d,ed,rfl⟩:=e0
  obtain⟨v,rfl,iv⟩:=z7c i1
  have hg1:=R.next hgg ed
  have fin:∀(p':Addr) (ys:List V) (es':List D),v = .ref p'->(SqL X.K H1 p' ys∨SqT X.K H1 p' ys)->IsAll X.K H1 es' ys->D.noLs es'=true->z6q ga Γ = .ok es' ->
   wpAny (model X.prog X.w) X.A (call (.type "list") us) (fun u s'=>∃ds a xs H',z6q ga Γ = .ok ds/\Inv X pins σ H' s'/\u = .ref a/\Same H H'/\H a=none/\H' a=some (.lst xs)/\IsAll X.K (hid (a::F) H') ds xs) (z1m X pins σ H (z6q ga Γ)) s1:=fun p' ys es' ev hq ie hn' eg=>by
   subst ev
   refine wpAny_mono (y3u (X:=X.nox) pins s1 σ H1 _ us (fun z H'=>∃l,z = .ref l/\H1 l=none/\H'=upd H1 l (.lst ys)) (I1.wish _) r1 ⟨p',ys,rfl,hq,fun l hl=>⟨l,rfl,hl,rfl⟩⟩) (fun u s' ⟨z,H',I',rz,l,ez,hl,eH⟩=>?_) fun _ _ z=>False.elim z
   subst ez eH
   have S2:=z1k hl (.lst ys)
   exact⟨es',l,ys,_,eg,I'.unwish,rz,S1.trans S2,S1.free hl,z0m,IsAll.hid (((fo.same S1).same S2).cons z0m) es' ys hn' (ie.same S2)⟩
  cases d with
  | tup es' =>
    obtain⟨n,e2⟩:=R.guard_ne (show R.guard (D.noLs es'=true) (.ok es') ≠ .no from hg1)
    obtain⟨p',ys,ev,h1,h2⟩:=Is.tup_iff.mp iv
    exact fin p' ys es' ev (.inr h1) h2 n ((R.step ed _).trans e2)
  | lst es' =>
    obtain⟨n,e2⟩:=R.guard_ne (show R.guard (D.noLs es'=true) (.ok es') ≠ .no from hg1)
    obtain⟨p',ys,ev,h1,h2⟩:=Is.lst_iff.mp iv
    exact fin p' ys es' ev (.inl h1) h2 n ((R.step ed _).trans e2)
  | _=>exact absurd rfl hg1
 ·obtain⟨c',H',e1,S,fl⟩:=q
  refine⟨c',H',?_,S,fl⟩
  unfold gCons at e1
  cases q:ga Γ with
  | no=>rw[q] at e1;cases e1
  | ok d=>rw[q] at e1;cases e1
  | er c=>rw[q] at e1;cases e1;unfold z6q;rw[q];rfl
theorem x6j{ga gb:G->R (List D)}(ha:PF X a ga)(hb:PF X b gb):PF X (.BinOp a .Add b pos) (gCat ga gb):=by
 refine⟨fun pins s σ H F Γ I fo rl hg=>?_⟩
 refine wpAny_BinOp (wpAny_mono (ha.run pins s σ H F Γ I fo rl (R.left hg)) (fun v s1 ⟨dx,a1,xs,H1,e1,I1,r1,S1,n1,h1,i1⟩=>?_) fun _ _ x=>x.bind _)
 have hg1:=R.next hg e1
 refine wpAny_mono (hb.run pins s1 σ H1 F Γ I1 (fo.same S1) (rl.same S1) (R.left hg1)) (fun u s2 ⟨dy,a2,ys,H2,e2,I2,r2,S2,n2,h2,i2⟩=>?_) fun _ _ x=>z1m.later e1 S1 (x.bind _)
 have hgx:=R.next hg1 e2
 obtain⟨hc,e3⟩:=R.guard_ne hgx
 subst r1 r2
 have hz:xs.length+ys.length<=sizeLine:=by rw[<-i1.length,<-i2.length];exact z4i hc
 refine wpAny_mono (x6u (X:=X.nox) pins s2 σ H2 (.ref a1) (.ref a2) _ _ (fun z H'=>∃l,z = .ref l/\H2 l=none/\H'=upd H2 l (.lst (xs++ys))) (I2.wish _) rfl rfl ⟨a1,a2,xs,ys,rfl,rfl,S2 _ _ h1,h2,hz,fun l hl=>⟨l,rfl,hl,rfl⟩⟩) (fun u s' ⟨z,H',I',rz,l,ez,hl,eH⟩=>?_) fun _ _ z=>False.elim z
 subst ez eH
 have S3:=z1k hl (.lst (xs++ys))
 have up:∀{q:Addr} {Hq:Hp} {zs:List V} {ds:List D},Same Hq H2->Hq q≠none->IsAll X.K (hid (q::F) Hq) ds zs->IsAll X.K (hid (l::F) (upd H2 l (.lst (xs++ys)))) ds zs:=fun {q Hq zs ds} Sq hq i=>by
  refine i.same fun b o hb=>?_
  obtain⟨z1,z2⟩:=z2a hb
  have z3:=Sq _ _ z2
  have hbl:b≠l:=z0p z3 hl
  rw[z1d fun z=>(List.mem_cons.mp z).elim hbl fun z'=>z1 (List.mem_cons_of_mem _ z'),z0k hbl]
  exact z3
 exact⟨dx++dy,l,xs++ys,_,(R.step e1 _).trans ((R.step e2 _).trans e3),I'.unwish,rz,(S1.trans S2).trans S3,S1.free (S2.free hl),z0m,(up S2 (by rw[h1];simp) i1).append (up (.refl _) (by rw[h2];simp) i2)⟩
end
noncomputable def JD(K:PySem.W.Frag)(H:Hp)(F:List Addr)(J:It)(ds:List D):Prop:=∀H1,(∀b o,b ∉ F->H b=some o->H1 b=some o) ->
 (∀i:Nat,i<ds.length->J.go i H1/\∀x H2,J.yld i H1 x H2->H2=H1/\∃d,ds[i]? = some d/\∀F',(∀b,b∈F'->b∈F∨H b=none)->Is K (hid F' H1) d x)/\J.stop ds.length H1
noncomputable def JC(K:PySem.W.Frag)(H:Hp)(F:List Addr)(J:It)(ds:List D):Prop:=∀H1,Same H H1 ->
 (∀i:Nat,i<ds.length->J.go i H1/\∀x H2,J.yld i H1 x H2->H2=H1/\∃d,ds[i]? = some d/\Is K (hid F H1) d x)/\J.stop ds.length H1
theorem JD.jc{K:PySem.W.Frag}{H:Hp}{F:List Addr}{J:It}{ds:List D}(h:JD K H F J ds):JC K H F J ds:=fun H1 S=>by
 obtain⟨h1,h2⟩:=h H1 fun b o _ q=>S b o q
 refine⟨fun i hi=>⟨(h1 i hi).1,fun x H2 y=>?_⟩,h2⟩
 obtain⟨e,d,ed,iv⟩:=(h1 i hi).2 x H2 y
 exact⟨e,d,ed,iv F fun b hb=>.inl hb⟩
structure PIx (Jx:PySem.W.Frag->Hp->List Addr->It->List D->Prop) (X:Cx) (tg iter:Expr) (g:G->R (List D)):Prop where
 run:∀(pins:List (Addr×Obj)) (s:Shared) (σ:St) (H:Hp) (F:List Addr) (Γ:G),Inv X pins σ H s->FOk H F->Rel X.K H F Γ σ->g Γ ≠ .no ->
  wpAny (model X.prog X.w) X.A (eval iter X.env) (fun v s1=>wpAny (model X.prog X.w) X.A (pyIter v) (fun itv s2=>∃(ds:List D) (it:Addr) (fp:List Addr) (tn:Nat->Heap->Prop) (J:It) (H':Hp),g Γ = .ok ds/\itv = .ref it/\Inv X pins σ H' s2/\Same H H' /\
   Turn X.prog X.w X.K tg J fp it tn/\tn 0 s2.heap/\(∀b∈fp,FpOk X pins H' b)/\Jx X.K H' F J ds) (z1m X pins σ H (g Γ)) s1) (z1m X pins σ H (g Γ)) s
noncomputable abbrev PIF:=PIx JD
noncomputable abbrev PIC:=PIx JC
theorem PIx.pic{X:Cx}{tg iter:Expr}{g:G->R (List D)}(h:PIF X tg iter g):PIC X tg iter g:=⟨fun pins s σ H F Γ I fo rl hg =>
 thn (h.run pins s σ H F Γ I fo rl hg) fun v s1 h1=>thn h1 fun itv s2 ⟨ds,it,fp,tn,J,H',e,ei,I',S,T,t0,fk,j⟩=>⟨ds,it,fp,tn,J,H',e,ei,I',S,T,t0,fk,j.jc⟩⟩
section
variable {X:Cx}{tg a b:Expr}{ga gb:G->R D}
theorem x4x{K:PySem.W.Frag}{H:Hp}{F:List Addr}{p:Addr}{xs:List V}{ds:List D}(h:SqL K H p xs)(i:IsAll K (hid F H) ds xs):JC K H F (Itl K p) ds:=fun H1 S=>by
 have h1:=S.seq h
 have il:=i.length
 refine⟨fun j hj=>⟨⟨xs,xs[j]'(by lia),h1,List.getElem?_eq_getElem (by lia)⟩,fun x H2 y=>⟨y.1,?_⟩⟩,⟨xs,h1,by lia⟩⟩
 exact(i.same (z2c S)).getX (y.2 xs h1)
theorem y7c{H H1:Hp}{F F':List Addr}(S:∀b o,b ∉ F->H b=some o->H1 b=some o)(o:∀b,b∈F'->b∈F∨H b=none):Same (hid F H) (hid F' H1):=Ext.hid ⟨S,o⟩
theorem x2z{K:PySem.W.Frag}{H:Hp}{F:List Addr}{p:Addr}{xs:List V}{ds:List D}(h:SqT K (hid F H) p xs)(i:IsAll K (hid F H) ds xs):JD K H F (Itt K p) ds:=fun H1 S=>by
 have h1:SqT K H1 p xs:=z6h (z0u (F:=F)) (z6h (y7c S fun b hb=>.inl hb) h)
 have il:=i.length
 refine⟨fun j hj=>⟨⟨xs,xs[j]'(by lia),h1,List.getElem?_eq_getElem (by lia)⟩,fun x H2 y=>⟨y.1,?_⟩⟩,⟨xs,h1,by lia⟩⟩
 obtain⟨d,ed,iv⟩:=i.getX (y.2 xs h1)
 exact⟨d,ed,fun F' hF=>iv.same (y7c S hF)⟩
theorem x4w{K:PySem.W.Frag}{H:Hp}{F:List Addr}{p:Addr}{xs:List V}{ds:List D}(h:SqL K (hid F H) p xs)(i:IsAll K (hid F H) ds xs):JD K H F (Itl K p) ds:=fun H1 S=>by
 have h1:SqL K H1 p xs:=(z0u (F:=F)).seq ((y7c S fun b hb=>.inl hb).seq h)
 have il:=i.length
 refine⟨fun j hj=>⟨⟨xs,xs[j]'(by lia),h1,List.getElem?_eq_getElem (by lia)⟩,fun x H2 y=>⟨y.1,?_⟩⟩,⟨xs,h1,by lia⟩⟩
 obtain⟨d,ed,iv⟩:=i.getX (y.2 xs h1)
 exact⟨d,ed,fun F' hF=>iv.same (y7c S hF)⟩
theorem y9s{pins:List (Addr×Obj)}{σ:St}{H:Hp}{s:Shared}{p:Addr}{xs:List V}{E:Value->Shared->Prop}{Q:Value->Shared->Prop}(I:Inv X pins σ H s)(h:SqL X.K H p xs)
 (q:∀it s2,Inv X pins σ H s2->Turn X.prog X.w X.K tg (Itl X.K p) [it] it (fun i h=>h.IsListIter it p i)->s2.heap.IsListIter it p 0->(∀b∈[it],FpOk X pins H b)->Q (.ref it) s2):wpAny (model X.prog X.w) X.A (pyIter (.ref p)) Q E s:=by
 obtain⟨its,rv,pl,hz⟩:=I.list h
 refine wpAny_pyIter_list pl.isList (q s.heap.objs.size _ (I.kept (t':=s.toks) fun b o e=>Heap.get?_push_of_some _ e) (y7y p _) ⟨_,Heap.get?_push_size _ rfl,rfl,rfl⟩ fun b hb=>?_)
 have e:b=s.heap.objs.size:=by simpa using hb
 subst e
 exact I.fpOk (Nat.le_refl _) (I.hok.fresh (Nat.le_refl _))
theorem x3a{pins:List (Addr×Obj)}{σ:St}{H:Hp}{s:Shared}{p:Addr}{xs:List V}{E:Value->Shared->Prop}{Q:Value->Shared->Prop}(I:Inv X pins σ H s)(h:SqT X.K H p xs)
 (q:∀it s2,Inv X pins σ H s2->Turn X.prog X.w X.K tg (Itt X.K p) [it] it (fun i h=>h.IsTupleIter it p i)->s2.heap.IsTupleIter it p 0->(∀b∈[it],FpOk X pins H b)->Q (.ref it) s2):wpAny (model X.prog X.w) X.A (pyIter (.ref p)) Q E s:=by
 obtain⟨its,rv,pl,hz⟩:=I.tuple h
 refine wpAny_pyIter_tuple (show s.heap.IsTuple p its.toArray from pl) (q s.heap.objs.size _ (I.kept (t':=s.toks) fun b o e=>Heap.get?_push_of_some _ e) (y6j p _) ⟨_,Heap.get?_push_size _ rfl,rfl,rfl⟩ fun b hb=>?_)
 have e:b=s.heap.objs.size:=by simpa using hb
 subst e
 exact I.fpOk (Nat.le_refl _) (I.hok.fresh (Nat.le_refl _))
theorem z7e(ha:PDr X a ga):PIF X tg a (gSeq ga):=by
 refine⟨fun pins s σ H F Γ I fo rl hg=>?_⟩
 refine wpAny_mono (ha.run pins s σ H F Γ I fo rl (R.left hg)) (fun v s1 ⟨d,x,H1,e1,I1,r1,S1,i1⟩=>?_) fun _ _ x=>x.bind _
 have hg1:=R.next hg e1
 cases d with
 | tup ds =>
   obtain⟨p,xs,rfl,h1,h2⟩:=Is.tup_iff.mp i1
   cases (show v=Value.ref p from r1)
   exact x3a (tg:=tg) I1 (z6h (z0u (F:=F)) h1) fun it s2 I2 T t0 fk=>⟨ds,it,_,_,_,H1,R.step e1 _,rfl,I2,S1,T,t0,fk,x2z h1 h2⟩
 | lst ds =>
   obtain⟨p,xs,rfl,h1,h2⟩:=Is.lst_iff.mp i1
   cases (show v=Value.ref p from r1)
   exact y9s (tg:=tg) I1 ((z0u (F:=F)).seq h1) fun it s2 I2 T t0 fk=>⟨ds,it,_,_,_,H1,R.step e1 _,rfl,I2,S1,T,t0,fk,x4w h1 h2⟩
 | _=>exact absurd rfl hg1
theorem z9t(ha:PD X a ga):PIC X tg a (z7k ga):=by
 refine⟨fun pins s σ H F Γ I fo rl hg=>?_⟩
 refine wpAny_mono (ha.run pins s σ H F Γ I fo rl (R.left hg)) (fun v s1 ⟨d,x,H1,e1,I1,r1,S1,i1⟩=>?_) fun _ _ x=>x.bind _
 have hg1:=R.next hg e1
 cases d with
 | tup ds =>
   obtain⟨n,e2⟩:=R.guard_ne (show R.guard (D.noLs ds=true) (.ok ds) ≠ .no from hg1)
   obtain⟨p,xs,rfl,h1,h2⟩:=Is.tup_iff.mp i1
   cases (show v=Value.ref p from r1)
   exact x3a (tg:=tg) I1 h1 fun it s2 I2 T t0 fk=>⟨ds,it,_,_,_,H1,(R.step e1 _).trans e2,rfl,I2,S1,T,t0,fk,(x2z (y8g (fo.same S1) h1) (IsAll.hid (fo.same S1) ds xs n h2)).jc⟩
 | lst ds =>
   obtain⟨n,e2⟩:=R.guard_ne (show R.guard (D.noLs ds=true) (.ok ds) ≠ .no from hg1)
   obtain⟨p,xs,rfl,h1,h2⟩:=Is.lst_iff.mp i1
   cases (show v=Value.ref p from r1)
   exact y9s (tg:=tg) I1 h1 fun it s2 I2 T t0 fk=>⟨ds,it,_,_,_,H1,(R.step e1 _).trans e2,rfl,I2,S1,T,t0,fk,x4x h1 (IsAll.hid (fo.same S1) ds xs n h2)⟩
 | _=>exact absurd rfl hg1
theorem y6a{K:PySem.W.Frag}{H:Hp}{F:List Addr}(lo:Int)(n:Nat):JD K H F (Itr lo n) (z2r lo n):=fun H1 S=>by
 rw[z0o]
 refine⟨fun j hj=>⟨hj,fun x H2 y=>⟨y.1,.int (lo+(j:Int)),z8e lo n j hj,fun F' _=>?_⟩⟩,Nat.le_refl _⟩
 exact Is.int_iff.mpr y.2
theorem z1u{p pos:Pos}(ha:PD X a ga)(hm:X.mg "range"=none)(hg:Gl X "range":=by rfl)(hs:starEach [a] X.env=[(false,eval a X.env)]:=by rfl):PIF X tg (.Call (.Name "range" p) [a] [] pos) (z5a ga):=by
 refine⟨fun pins s σ H F Γ I fo rl hgg=>?_⟩
 refine Call_ (z6c I hg hm boot_range (PyProof.Rows.callWith_type1 ?_ hs rfl))
 rw[hs]
 show wpAny _ _ (spliced ((false,eval a X.env)::backTo pos [])) _ _ s
 refine Calls.spliced_cons (wpAny_mono (ha.run pins s σ H F Γ I fo rl (R.left hgg)) (fun u s1 ⟨d,v,H1,e1,I1,r1,S1,i1⟩=>Calls.spliced_nil ?_) fun _ _ x=>x.bind _)
 have hg1:=R.next hgg e1
 cases d with
 | int j =>
   obtain⟨⟨h1,h2⟩,e2⟩:=R.guard_ne (show R.guard (-(2^62)<=j/\j<2^62) (.ok (z2r 0 j.toNat)) ≠ .no from hg1)
   rw[Is.int_iff.mp i1] at r1
   obtain⟨t,rfl⟩:=(show ∃t,u=Value.int j t from r1)
   refine call_range_1 (thn (y5p (tg:=tg) (R:=fun J H'=>J=Itr 0 (j-0).toNat/\H'=H1) I1 (by lia) (by lia) h1 h2 ⟨rfl,rfl⟩) fun itv s2 ⟨it,fp,tn,J,H',ei,I2,T,t0,fk,eJ,eH⟩=>?_)
   subst eJ eH
   rw[Int.sub_zero] at T
   exact⟨_,it,fp,tn,_,H',(R.step e1 _).trans e2,ei,I2,S1,T,t0,fk,y6a 0 j.toNat⟩
 | _=>exact absurd rfl hg1
theorem y6x{p pos:Pos}(ha:PD X a ga)(hb:PD X b gb)(hm:X.mg "range"=none)(hg:Gl X "range":=by rfl)(hs:starEach [a,b] X.env=[(false,eval a X.env),(false,eval b X.env)]:=by rfl)(hs2:starEach [b] X.env=[(false,eval b X.env)]:=by rfl) :
 PIF X tg (.Call (.Name "range" p) [a,b] [] pos) (z8m ga gb):=by
 refine⟨fun pins s σ H F Γ I fo rl hgg=>?_⟩
 refine Call_ (z6c I hg hm boot_range (PyProof.Rows.callWith_type1 ?_ (by rw[hs,hs2]) (by rw[hs2];rfl)))
 rw[hs]
 show wpAny _ _ (spliced ((false,eval a X.env)::backTo pos [(false,eval b X.env)])) _ _ s
 refine Calls.spliced_cons (wpAny_mono (ha.run pins s σ H F Γ I fo rl (R.left hgg)) (fun u s1 ⟨d,v,H1,e1,I1,r1,S1,i1⟩=>?_) fun _ _ x=>x.bind _)
 have hg1:=R.next hgg e1
 show wpAny _ _ (spliced ((false,eval b X.env)::backTo pos [])) _ _ s1
 refine Calls.spliced_cons (wpAny_mono (hb.run pins s1 σ H1 F Γ I1 (fo.same S1) (rl.same S1) (R.left hg1)) (fun u2 s2 ⟨d2,v2,H2,e2,I2,r2,S2,i2⟩=>Calls.spliced_nil ?_) fun _ _ x=>z1m.later e1 S1 (x.bind _))
 have hg2:=R.next hg1 e2
 cases d with
 | int i =>
   cases d2 with
   | int j =>
     obtain⟨⟨⟨h1,h2⟩,h3,h4⟩,e3⟩:=R.guard_ne (show R.guard ((-(2^62)<=i/\i<2^62) /\ -(2^62)<=j/\j<2^62) (.ok (z2r i (j-i).toNat)) ≠ .no from hg2)
     rw[Is.int_iff.mp i1] at r1
     rw[Is.int_iff.mp i2] at r2
     obtain⟨t,rfl⟩:=(show ∃t,u=Value.int i t from r1)
     obtain⟨t',rfl⟩:=(show ∃t,u2=Value.int j t from r2)
     refine call_range_2 (thn (y5p (tg:=tg) (R:=fun J H'=>J=Itr i (j-i).toNat/\H'=H2) I2 h1 h2 h3 h4 ⟨rfl,rfl⟩) fun itv s3 ⟨it,fp,tn,J,H',ei,I3,T,t0,fk,eJ,eH⟩=>?_)
     subst eJ eH
     exact⟨_,it,fp,tn,_,H',(R.step e1 _).trans ((R.step e2 _).trans e3),ei,I3,S1.trans S2,T,t0,fk,y6a i (j-i).toNat⟩
   | _=>exact absurd rfl hg2
 | _=>exact absurd rfl hg2
end
theorem x1x{k:NameKind}(h:(k==NameKind.free)=true):k = .free:=by cases k<;>first | rfl | (exact absurd h (by decide))
noncomputable def capt(env:Env):List (Str×NameKind)->List (Str×Addr)->List (Str×Addr)
 | [],cs=>cs
 | (n,k)::r,cs=>if (k == .free)=true then (match env.cells.lookup n with | some a=>capt env r ((n,a)::cs) | none=>capt env r cs) else capt env r cs
theorem z3k{env:Env}{x:Str}{c:Addr}:∀(names:List (Str×NameKind)) (cs:List (Str×Addr)),(x,c)∈capt env names cs->(x,c)∈cs∨env.cells.lookup x=some c
 | [],cs,h=>.inl h
 | (n,k)::r,cs,h=>by
   unfold capt at h
   split at h
   ·split at h
    ·rename_i a e
     rcases z3k r _ h with q | q
     ·rcases List.mem_cons.mp q with z | z
      ·cases z;exact .inr e
      ·exact .inl z
     ·exact .inr q
    ·exact z3k r _ h
   ·exact z3k r _ h
theorem z9i{env:Env}{p:Str×Addr}:∀(names:List (Str×NameKind)) (cs:List (Str×Addr)),p∈cs->p∈capt env names cs
 | [],cs,h=>h
 | (n,k)::r,cs,h=>by
   unfold capt
   split
   ·split
    ·exact z9i r _ (List.mem_cons_of_mem _ h)
    ·exact z9i r _ h
   ·exact z9i r _ h
theorem z5y{env:Env}{x:Str}{c:Addr}(e:env.cells.lookup x=some c):∀(names:List (Str×NameKind)) (cs:List (Str×Addr)),(x,NameKind.free)∈names->(x,c)∈capt env names cs
 | [],cs,h=>by simp at h
 | (n,k)::r,cs,h=>by
   unfold capt
   rcases List.mem_cons.mp h with z | z
   ·cases z
    rw[if_pos (show(NameKind.free==NameKind.free)=true by decide),e]
    exact z9i r _ List.mem_cons_self
   ·split
    ·split
     ·exact z5y e r _ z
     ·exact z5y e r _ z
    ·exact z5y e r _ z
theorem z1y{α:Type}:∀{l:List (Str×α)} {x:Str} {c:α},(x,c)∈l->∃c',l.lookup x=some c'/\(x,c')∈l
 | [],_,_,h=>by simp at h
 | (n,a)::r,x,c,h=>by
   by_cases e:x=n
   ·subst e;exact⟨a,by simp[List.lookup],List.mem_cons_self⟩
   ·rcases List.mem_cons.mp h with z | z
    ·cases z;exact absurd rfl e
    ·obtain⟨c',h1,h2⟩:=z1y z
     exact⟨c',by rw[List.lookup_cons,beq_eq_false_iff_ne.mpr e];exact h1,List.mem_cons_of_mem _ h2⟩
noncomputable def y2l(N:List Str)(env:Env)(y:Str)(scope:Scope):Bool :=
 decide (scope.kind = .function)&&scope.names.all (fun p=>decide (p.2 ≠ .cell)&&(decide (p.2 ≠ .local)||decide (scope.names.lookup p.1=some .local))&&(decide (p.2 ≠ .free)||((env.cells.lookup p.1).isSome&&(decide (env.scope.names.lookup p.1=some .cell)||decide (env.scope.names.lookup p.1=some .free)))))
  && decide (scope.names.lookup y=some .local)&&decide (scope.names.lookup (("":Str))=none)&&N.all (fun z=>decide (scope.names.lookup z≠some .local)||decide (z=y))&&N.all (fun z=>decide (z≠("":Str)))
structure CompOk (N:List Str) (env:Env) (y:Str) (scope:Scope):Prop where
 kind:scope.kind = .function
 nocell:∀p∈scope.names,p.2 ≠ .cell
 names:∀p∈scope.names,p.2 = .local->scope.names.lookup p.1=some .local
 free:∀p∈scope.names,p.2 = .free->(∃c,env.cells.lookup p.1=some c)/\(env.scope.names.lookup p.1=some .cell∨env.scope.names.lookup p.1=some .free)
 loc:scope.names.lookup y=some .local
 nil:scope.names.lookup (("":Str))=none
 only:∀z∈N,scope.names.lookup z=some .local->z=y
 none:∀z∈N,z≠("":Str)
theorem y3r{N:List Str}{env:Env}{y:Str}{scope:Scope}(h:y2l N env y scope=true):CompOk N env y scope:=by
 unfold y2l at h
 simp only[Bool.and_eq_true,List.all_eq_true,Bool.or_eq_true,decide_eq_true_eq] at h
 obtain⟨⟨⟨⟨⟨h1,h2⟩,h3⟩,h4⟩,h5⟩,h6⟩:=h
 refine⟨h1,fun p hp=>(h2 p hp).1.1,fun p hp e=>((h2 p hp).1.2).resolve_left fun z=>z e,fun p hp e=>?_,h3,h4,fun z hz e=>(h5 z hz).resolve_left fun q=>q e,h6⟩
 have q:=((h2 p hp).2).resolve_left fun z=>z e
 exact⟨Option.isSome_iff_exists.mp q.1,q.2⟩
noncomputable def z1q(X:Cx)(y:Str)(scope:Scope)(C:Addr)(s₂:Shared)(H₂:Hp)(fp:List Addr)(pn:List (Addr×Obj)):Cx :=
 { X with N:=y::X.N.map (fun z=>if z=y then ("":Str) else z),s₀:=s₂,H₀:=H₂,env:=compEnvC scope (capt X.env scope.names []) C X.env,outer:=X.stack,ex:=fp,fn:=fun _=>false,pn:=pn,xe:=fun _ _=>False }
theorem pure_J{α β:Type}{M:Model}{A:Around}{E E':Value->Shared->Prop}{s:Shared}{a:α}{t:Sem β}{P:α->Shared->Prop}{Q:β->Shared->Prop}(h:wpAny M A (pure a) P E s)(k:P a s->wpAny M A t Q E' s):wpAny M A t Q E' s:=fun Γ p hΓ=>k (h Γ p hΓ) Γ p hΓ
theorem y6c{P:Program}{w:World}{H:Hp}{h:Heap}{a:Addr}{o:HO}(x:HOk P w H h)(hn:H a=none)(new:z6z P w (upd H a o) h a o):HOk P w (upd H a o) h:=fun b u e=>by
 by_cases hb:b=a
 ·subst hb;rw[z0m] at e;cases e;exact new
 ·rw[z0k hb] at e
  exact(x b u e).stay (fun c v _ q=>q) (fun c q=>by rw[z0k (z0p q hn)];exact q) fun c xs q=>by rw[z0k (z0p q hn)];exact q
theorem x0k{X:Cx}{y:Str}{scope:Scope}{C Dd:Addr}{fp:List Addr}{pins pl:List (Addr×Obj)}{σ σ':St}{H₂ H':Hp}{s₂ s1:Shared}{xs:List V}{its:List Value}{n:Nat}(I:Inv X pins σ H₂ s₂)
 (J:Inv (z1q X y scope C s₂ H₂ fp (X.pn++pins)) pl σ' H' s1) (hD:s₂.heap.objs.size<=Dd) (hn:H' Dd=none) (hd:s1.heap.get? Dd=some { cls:=.type "list",data:=.seq its.toArray n }) (rv:Vals xs its) (hz:xs.length<=sizeLine) (hf:∀b∈fp,FpOk X pins H₂ b) :
 Inv X pins σ (upd H' Dd (.lst xs)) s1:=by
 have os:s1.os=s₂.os:=J.os
 have un:Un (frs X.stack) fp H₂ H' s₂.heap s1.heap:=J.base
 have hok:HOk X.prog X.w H' s1.heap:=J.hok
 have bare:AllBare s1.gens:=J.bare
 clear J
 obtain⟨hh,gg,dd,tt,os'⟩:=s1
 obtain rfl:os'=s₂.os:=os
 have neD:∀b o,s₂.heap.get? b=some o->b≠Dd:=fun b o e=>Nat.ne_of_lt (Nat.lt_of_lt_of_le (Heap.lt_size e) hD)
 refine I.call (h':=hh) (g':=gg) (d':=dd) (t':=tt) (ch:=fp) ⟨un.keep,un.slot,fun b o e n' hx=>?_,un.there,fun b ys e=>?_,fun b o u e=>?_,fun b ps e=>?_⟩ (y6c hok hn ⟨hz,its,n,rv,hd⟩) bare fun b hb=>?_
 ·rw[z0k (neD b o e)];exact un.free b o e n' hx
 ·have q:=un.tups b ys e
  rw[z0k (z0p q hn)];exact q
 ·have q:=un.frzs b o u e
  rw[z0k (z0p q hn)];exact q
 ·obtain⟨more,q⟩:=un.tbls b ps e
  exact⟨more,by rw[z0k (z0p q hn)];exact q⟩
 ·obtain⟨f0,f1,f2,f3,f4,f5⟩:=hf b hb
  exact⟨f3.imp_right fun z=>Heap.get?_none_of_le z,f1,f4,f5⟩
theorem x5k{X:Cx}{y:Str}{scope:Scope}{C:Addr}{fp:List Addr}{pins:List (Addr×Obj)}{σ:St}{H₂:Hp}{s₂:Shared}(I:Inv X pins σ H₂ s₂)(c:CompOk X.N X.env y scope)(hC:s₂.heap.objs.size<=C)(hf:∀b∈fp,FpOk X pins H₂ b)(ho:∀b∈fp,b<s₂.heap.objs.size) :
 (z1q X y scope C s₂ H₂ fp (X.pn++pins)).Ok:=by
 have cells:∀x k,(capt X.env scope.names []).lookup x=some k->X.env.cells.lookup x=some k:=fun x k e=>by
  rcases z3k scope.names [] (PySem.mem_of_lookup e) with q | q
  ·simp at q
  ·exact q
 refine⟨I.ok.mod,c.kind,I.ok.glob,I.ok.blt,hC,fun x z k h1 h2=>I.ok.inj x z k (cells x k h1) (cells z k h2),fun x hx=>?_,fun x k h _=>absurd h (by simp[z1q]),I.ok.hd,I.ok.frames,.inl rfl,fun b hb=>?_,I.bs,Nat.le_trans I.ok.bsz I.sz,fun b o e hb=>?_,fun b hb z=>?_,I.stack,I.stkFree⟩
 ·have hx':(relabel scope X.env).names.lookup x=some .cell∨(relabel scope X.env).names.lookup x=some .free:=hx
  have hm:∃k,(x,k)∈scope.names/\(k = .free∨k = .cell):=by
   rcases hx' with q | q <;>
   ·have m:=PySem.mem_of_lookup q
    unfold relabel at m
    simp only[List.mem_map] at m
    obtain⟨⟨n,k⟩,hm,e⟩:=m
    by_cases hc:(k==NameKind.free&&X.env.scope.kind == .function&&X.env.kindOf n==some .cell)=true
    ·rw[if_pos hc] at e
     have e1:n=x:=congrArg Prod.fst e
     subst e1
     rw[Bool.and_eq_true,Bool.and_eq_true] at hc
     exact⟨k,hm,.inl (x1x hc.1.1)⟩
    ·rw[if_neg hc] at e
     have e1:n=x:=congrArg Prod.fst e
     have e2:=congrArg Prod.snd e
     dsimp only at e2
     subst e1 e2
     exact⟨_,hm,by first | exact .inr rfl | exact .inl rfl⟩
  obtain⟨k,hm,hk⟩:=hm
  rcases hk with rfl | rfl
  ·obtain⟨⟨a,ea⟩,_⟩:=c.free _ hm rfl
   obtain⟨c',h1,_⟩:=z1y (z5y ea scope.names [] hm)
   exact⟨c',h1⟩
  ·exact absurd rfl (c.nocell _ hm)
 ·refine⟨Nat.ne_of_lt (Nat.lt_of_lt_of_le (ho b hb) hC),fun x k e=>(hf b hb).2.2.2.2.1 x k (cells x k e)⟩
 ·rcases(hf b hb).2.2.2.1 with z | z
  ·exact I.ok.noex b o e z
  ·exact absurd (Nat.lt_of_lt_of_le (Nat.lt_of_lt_of_le (Heap.lt_size e) I.ok.bsz) z) (Nat.lt_irrefl _)
 ·rcases List.mem_cons.mp (I.stkSub b z) with q | q
  ·exact(hf b hb).2.1 q
  ·exact(hf b hb).2.2.1 q
section
variable {X:Cx}{y:Str}{scope:Scope}
theorem y7q{C Dd:Addr}{fp:List Addr}{pins:List (Addr×Obj)}{σ:St}{H₂:Hp}{s₂:Shared}{h₁:Heap}{tk:Nat}{oD:Obj}{m:Str->Option Value}(I:Inv X pins σ H₂ s₂)(c:CompOk X.N X.env y scope)(hC:s₂.heap.objs.size<=C)(hD:s₂.heap.objs.size<=Dd)(hDC:Dd≠C)(hf:∀b∈fp,FpOk X pins H₂ b)(ho:∀b∈fp,b<s₂.heap.objs.size)
 (old:∀b o,s₂.heap.get? b=some o->h₁.get? b=some o) (hns:h₁.Ns C m) (hd:h₁.get? Dd=some oD) (hdd:∀v,oD.data ≠ .cell v) :
 Inv (z1q X y scope C s₂ H₂ fp (X.pn++pins)) [(Dd,oD)] (none::σ) H₂ { s₂ with heap:=h₁,toks:=tk }:=by
 have cells:∀x k,(capt X.env scope.names []).lookup x=some k->X.env.cells.lookup x=some k:=fun x k e=>by
  rcases z3k scope.names [] (PySem.mem_of_lookup e) with q | q
  ·simp at q
  ·exact q
 have nstk:∀b,s₂.heap.objs.size<=b->b ∉ frs X.stack:=fun b hb z=>by
  rcases List.mem_cons.mp (I.stkSub b z) with q | q
  ·exact absurd (Nat.lt_of_lt_of_le I.lt (by rw[<-q];exact hb)) (Nat.lt_irrefl _)
  ·exact I.nofs hb q
 refine⟨x5k I c hC hf ho,rfl,I.bare,Un.kept old,⟨m,hns,fun i x v e1 e2 e3=>?_⟩,fun x k e=>?_,I.hok.fresh hC,fun x k e=>I.freeC x k (cells x k e),fun p hp=>?_,I.hok.kept old,?_⟩
 ·cases i with
  | zero=>simp at e2
  | succ i =>
    have e2':σ[i]? = some (some v):=by simpa using e2
    have e1':(X.N.map (fun z=>if z=y then ("":Str) else z))[i]? = some x:=by simpa [z1q] using e1
    rw[List.getElem?_map] at e1'
    cases hz:X.N[i]? with
    | none=>rw[hz] at e1';cases e1'
    | some z =>
      rw[hz] at e1'
      simp only[Option.map_some,Option.some.injEq] at e1'
      have e3':Vis (relabel scope X.env) x:=e3
      have look0:∀{k:NameKind},(relabel scope X.env).names.lookup x=some k->∃k',(x,k')∈scope.names/\(k'=k∨(k' = .free/\k = .cell)):=fun {k} q=>by
       have m':=PySem.mem_of_lookup q
       unfold relabel at m'
       simp only[List.mem_map] at m'
       obtain⟨⟨n,k0⟩,hm,e⟩:=m'
       by_cases hc:(k0==NameKind.free&&X.env.scope.kind == .function&&X.env.kindOf n==some .cell)=true
       ·rw[if_pos hc] at e
        have e1:n=x:=congrArg Prod.fst e
        have e2:=congrArg Prod.snd e
        dsimp only at e2
        subst e1 e2
        rw[Bool.and_eq_true,Bool.and_eq_true] at hc
        exact⟨k0,hm,.inr ⟨x1x hc.1.1,rfl⟩⟩
       ·rw[if_neg hc] at e
        have e1:n=x:=congrArg Prod.fst e
        have e2:=congrArg Prod.snd e
        dsimp only at e2
        subst e1 e2
        exact⟨_,hm,.inl rfl⟩
      have inames:∀k',(x,k')∈scope.names->x≠("":Str):=fun k' hm z=>by
       subst z
       obtain⟨c',h1,_⟩:=z1y hm
       rw[c.nil] at h1;cases h1
      have ne:x≠("":Str):=by
       rcases e3' with q | q | q<;>(obtain⟨k',hm,_⟩:=look0 q;exact inames k' hm)
      by_cases hzy:z=y
      ·rw[if_pos hzy] at e1';exact absurd e1'.symm ne
      ·rw[if_neg hzy] at e1'
       subst e1'
       have fr:(z,NameKind.free)∈scope.names:=by
        rcases e3' with q | q | q
        ·obtain⟨k',hm,hk⟩:=look0 q
         rcases hk with rfl | ⟨_,hk⟩
         ·exact absurd (c.only z (List.mem_of_getElem? hz) (c.names _ hm rfl)) hzy
         ·cases hk
        ·obtain⟨k',hm,hk⟩:=look0 q
         rcases hk with rfl | ⟨rfl,_⟩
         ·exact absurd rfl (c.nocell _ hm)
         ·exact hm
        ·obtain⟨k',hm,hk⟩:=look0 q
         rcases hk with rfl | ⟨_,hk⟩
         ·exact hm
         ·cases hk
       obtain⟨⟨ca,eca⟩,hv⟩:=c.free _ fr rfl
       obtain⟨m0,hn0,hl0⟩:=I.loc
       obtain⟨u,ru,lk⟩:=hl0 i z v hz e2' (.inr hv)
       refine⟨u,ru,?_⟩
       rcases lk with ⟨q,_⟩ | ⟨_,k,ek,hk⟩
       ·exfalso
        have q':X.env.scope.names.lookup z=some .local:=q
        rcases hv with w | w<;>(rw[q'] at w;cases w)
       ·obtain⟨c',h1,_⟩:=z1y (z5y ek scope.names [] fr)
        have h2:=cells z c' h1
        rw[ek] at h2;cases h2
        refine .inr ⟨?_,k,h1,?_⟩
        ·rcases e3' with q | q | q
         ·exfalso
          obtain⟨k',hm,hk'⟩:=look0 q
          rcases hk' with rfl | ⟨_,hk'⟩
          ·exact hzy (c.only z (List.mem_of_getElem? hz) (c.names _ hm rfl))
          ·cases hk'
         ·exact .inl q
         ·exact .inr q
        ·obtain⟨o,ho',hd'⟩:=hk
         exact⟨o,old _ _ ho',hd'⟩
 ·obtain⟨v,o,ho',hd'⟩:=I.cell x k (cells x k e)
  exact⟨v,o,old _ _ ho',hd'⟩
 ·rcases List.mem_append.mp hp with q | q
  ·obtain⟨h1,h2,h3,h4,h5⟩:=I.pin p q
   refine⟨old _ _ h1,h2,Nat.ne_of_lt (Nat.lt_of_lt_of_le (Heap.lt_size h1) hC),fun z=>?_,h5⟩
   rcases List.mem_cons.mp (I.stkSub p.1 z) with q' | q'
   ·exact h3 q'
   ·exact h4 q'
  ·have e:p=(Dd,oD):=by simpa using q
   subst e
   exact⟨hd,I.hok.fresh hD,hDC,nstk Dd hD,hdd⟩
 ·show σ.length+1=(y::X.N.map _).length
  rw[List.length_cons,List.length_map,I.len]
structure PC1 (X:Cx) (y:Str) (scope:Scope) (ifs:List Expr) (elt:Expr) (f:D->G->R (Option D)):Prop where
 run:∀(C:Addr) (s₂:Shared) (H₂:Hp) (fp:List Addr) (pn:List (Addr×Obj)) (pins:List (Addr×Obj)) (s:Shared) (σ:St) (H:Hp) (F:List Addr) (Γ:G) (d:D),Inv (z1q X y scope C s₂ H₂ fp pn) pins σ H s->FOk H F->Rel X.K H F (.ro d::Γ) σ->(∃o,f d Γ = .ok o) ->
  wpAny (model X.prog X.w) X.A (forIn ifs true fun c r=>if r=true then do let ok <-isTrue c (compEnvC scope (capt X.env scope.names []) C X.env) (eval c (compEnvC scope (capt X.env scope.names []) C X.env));pure (ForInStep.yield ok) else pure (ForInStep.yield r)) (fun ok s₃ =>
   if ok=true then wpAny (model X.prog X.w) X.A (eval elt (compEnvC scope (capt X.env scope.names []) C X.env)) (fun u s₄=>∃e v H',f d Γ = .ok (some e)/\Inv (z1q X y scope C s₂ H₂ fp pn) pins σ H' s₄/\RelV v u/\Same H H'/\Is X.K (hid F H') e v) (fun _ _=>False) s₃
   else f d Γ = .ok none/\∃H',Inv (z1q X y scope C s₂ H₂ fp pn) pins σ H' s₃/\Same H H') (fun _ _=>False) s
theorem z6b{elt:Expr}{ge:G->R D}(he:∀C s₂ H₂ fp pn,PDr (z1q X y scope C s₂ H₂ fp pn) elt ge):PC1 X y scope [] elt (fElt ge):=by
 refine⟨fun C s₂ H₂ fp pn pins s σ H F Γ d I fo rl ⟨o,eo⟩=>?_⟩
 refine wpAny_tests_nil ?_
 rw[if_pos rfl]
 have hne:ge (.ro d::Γ) ≠ .no:=fun z=>by unfold fElt at eo;rw[z] at eo;cases eo
 refine wpAny_mono ((he C s₂ H₂ fp pn).run pins s σ H F (.ro d::Γ) I fo rl hne) (fun u s4 ⟨e,v,H',e1,I',rv,S,iv⟩=>⟨e,v,H',R.step e1 _,I',rv,S,iv⟩) fun x s' ⟨c,H',e1,_⟩=>?_
 unfold fElt at eo;rw[e1] at eo;cases eo
theorem x4c{elt c:Expr}{gc:G->R Bool}{ge:G->R D}(hc:∀C s₂ H₂ fp pn,PTD (z1q X y scope C s₂ H₂ fp pn) c gc)(he:∀C s₂ H₂ fp pn,PDr (z1q X y scope C s₂ H₂ fp pn) elt ge):PC1 X y scope [c] elt (z6y gc ge):=by
 refine⟨fun C s₂ H₂ fp pn pins s σ H F Γ d I fo rl ⟨o,eo⟩=>?_⟩
 have hne:gc (.ro d::Γ) ≠ .no:=fun z=>by unfold z6y at eo;rw[z] at eo;cases eo
 refine wpAny_tests_one (wpAny_mono ((hc C s₂ H₂ fp pn).run pins s σ H F (.ro d::Γ) I fo rl hne) (fun k s3 ⟨H1,e1,I1,S1⟩=>?_) fun x s' ⟨c',H',e1,_⟩=>?_)
 ·have eo':(if k=true then ge (.ro d::Γ)>>=fun e=>R.ok (some e) else .ok none) = .ok o:=by
   unfold z6y at eo;rw[e1] at eo;exact eo
  cases k with
  | false =>
    rw[if_neg Bool.false_ne_true]
    exact⟨R.step e1 _,H1,I1,S1⟩
  | true =>
    rw[if_pos rfl] at eo' ⊢
    have hne2:ge (.ro d::Γ) ≠ .no:=fun z=>by rw[z] at eo';cases eo'
    refine wpAny_mono ((he C s₂ H₂ fp pn).run pins s3 σ H1 F (.ro d::Γ) I1 (fo.same S1) (rl.same S1) hne2) (fun u s4 ⟨e,v,H',e2,I',rv,S,iv⟩=>⟨e,v,H',(R.step e1 _).trans (R.step e2 _),I',rv,S1.trans S,iv⟩) fun x s' ⟨c',H',e2,_⟩=>?_
    rw[e2] at eo';cases eo'
 ·unfold z6y at eo;rw[e1] at eo;cases eo
theorem y1w{K:PySem.W.Frag}{H:Hp}{F:List Addr}{Γ:G}{σ:St}{d:D}{v:V}(r:Rel K H F Γ σ)(i:Is K (hid F H) d v):Rel K H F (.ro d::Γ) (some v::σ) where
 len:=by rw[List.length_cons,List.length_cons,r.len]
 ro:=fun j d' h=>by
  cases j with
  | zero=>simp at h;cases h;exact⟨v,rfl,i⟩
  | succ j=>exact r.ro j d' (by simpa using h)
 own:=fun j ds h=>by
  cases j with
  | zero=>simp at h
  | succ j=>exact r.own j ds (by simpa using h)
 inj:=fun j k ds es a h1 h2 h3 h4=>by
  cases j with
  | zero=>simp at h1
  | succ j =>
    cases k with
    | zero=>simp at h2
    | succ k=>rw[r.inj j k ds es a (by simpa using h1) (by simpa using h2) (by simpa using h3) (by simpa using h4)]
theorem sb1{n a i:Nat}(e:n=a-i)(h:i<a):a-(i+1)<n:=by lia
theorem sb2{a c d:Nat}(h:c=d+1)(e:a=d):(d≠c/\a<=c/\a<=d)/\∀b,b<a->b≠c/\b≠d:=⟨⟨by lia,by lia,by lia⟩,fun b hb=>⟨by lia,by lia⟩⟩
theorem y3q{elt iter:Expr}{px pos:Pos}{ifs:List Expr}{f:D->G->R (Option D)}{pins:List (Addr×Obj)}{σ:St}{H₂:Hp}{s₂:Shared}{F:List Addr}{Γ:G}{items:List D}{it:Addr}{fp:List Addr}{tn:Nat->Heap->Prop}{J:It}{E:Value->Shared->Prop}{total:List D}
 (hp:PC1 X y scope ifs elt f) (c:CompOk X.N X.env y scope) (hN:X.N.Nodup) (hcalm:X.calm=true) (I:Inv X pins σ H₂ s₂) (fo:FOk H₂ F) (rl:Rel X.K H₂ F Γ σ) (T:Turn X.prog X.w X.K (.Name y px) J fp it tn) (t0:tn 0 s₂.heap) (hf:∀b∈fp,FpOk X pins H₂ b) (hj:JC X.K H₂ F J items)
 (ht:z0y (fun d=>f d Γ) items [] = .ok total) (hl:items.length<=100000) {RR:Value->Addr->Result->Shared->Prop}
 (hR:∀(Dd C:Addr) (xs:List V) (H':Hp) (m:Str->Option Value) (s':Shared),s₂.heap.objs.size<=C->Dd≠C->H₂ Dd=none->H' Dd=none->H' C=none->s₂.heap.objs.size<=Dd->Same H₂ H'->IsAll X.K (hid F H') total xs->Inv X pins σ (upd H' Dd (.lst xs)) s'->s'.heap.Ns C m->RR (.ref Dd) C (.ok .next) s') :
 wpAny (model X.prog X.w) X.A (newList []) (fun acc s₃=>wpAny (model X.prog X.w) X.A (newFunctionEnv scope X.env.globals (capt X.env scope.names []) [] X.env.qual none .none (some X.env)) (fun cenv s₄ =>
  codeAny (model X.prog X.w) X.A (.compStart (.ListComp elt [⟨.Name y px,iter,ifs,0⟩] scope pos) 0 (.ref it) acc { cenv with scope:=relabel scope X.env }) (RR acc cenv.locals) s₄) E s₃) E s₂:=by
 have ho:∀b∈fp,b<s₂.heap.objs.size:=fun b hb=>by obtain⟨o,e,_⟩:=T.obj _ _ t0 b hb;exact Heap.lt_size e
 refine wpAny_newObj_type (wpAny_newFunctionEnv c.nocell (by intro y hy;simp at hy) (fun h₁ hns₁ hsb₁=>?_) c.kind)
 dsimp only at hns₁ hsb₁ ⊢
 generalize hH2:s₂.heap.push { cls:=.type "list",dict:=none,data:=.seq ([]:List Value).toArray }=H2 at hns₁ hsb₁ ⊢
 have hCs:H2.objs.size=s₂.heap.objs.size+1:=by rw[<-hH2,Heap.size_push]
 generalize hCC:H2.objs.size=C at hns₁ hsb₁ hCs ⊢
 generalize hDD:s₂.heap.objs.size=Dd at hCs ⊢
 obtain⟨⟨hDC,hC,hD⟩,below⟩:=sb2 hCs hDD
 have old:∀b o,s₂.heap.get? b=some o->h₁.get? b=some o:=fun b o e=>by
  refine hsb₁.extBut b o (below b (Heap.lt_size e)).1 ?_
  exact Heap.get?_push_of_some _ (hH2 ▸ Heap.get?_push_of_some _ e)
 have hacc:h₁.get? Dd=some { cls:=.type "list",dict:=none,data:=.seq ([]:List Value).toArray }:=by
  refine hsb₁.extBut _ _ hDC ?_
  refine Heap.get?_push_of_some _ ?_
  rw[<-hH2,<-hDD]
  exact Heap.get?_push_size _ rfl
 have J0:∀tk,Inv (z1q X y scope C s₂ H₂ fp (X.pn++pins)) [(Dd,{ cls:=.type "list",dict:=none,data:=.seq ([]:List Value).toArray })] (none::σ) H₂ { s₂ with heap:=h₁,toks:=tk }:=fun tk =>
  y7q I c hC hD hDC hf ho old hns₁ hacc (fun v z=>nomatch z)
 have t1:tn 0 h₁:=T.keep _ _ _ t0 fun b hb o e=>old b o e
 have fpY:∀{H':Hp} {o:Obj},(∀b∈fp,H' b=none)->∀b∈fp,FpOk (z1q X y scope C s₂ H₂ fp (X.pn++pins)) [(Dd,o)] H' b:=fun {H' o} hn b hb=>by
  obtain⟨f0,f1,f2,f3,f4,f5⟩:=hf b hb
  have lt:=ho b hb
  refine⟨hn b hb,(below b lt).1,fun z=>?_,.inl hb,fun x k e=>?_,fun p hp'=>?_⟩
  ·rcases List.mem_cons.mp (I.stkSub b z) with q | q
   ·exact f1 q
   ·exact f2 q
  ·rcases z3k scope.names [] (PySem.mem_of_lookup e) with q | q
   ·simp at q
   ·exact f4 x k q
  ·rcases List.mem_append.mp hp' with q | q
   ·exact f5 p q
   ·have e:p=(Dd,o):=by simpa using q
    subst e
    exact Ne.symm (below b lt).2
 have NdY:(z1q X y scope C s₂ H₂ fp (X.pn++pins)).N.Nodup:=by
  show(y::X.N.map (fun z=>if z=y then ("":Str) else z)).Nodup
  refine List.nodup_cons.mpr ⟨fun z=>?_,?_⟩
  ·obtain⟨z',hz,e⟩:=List.mem_map.mp z
   by_cases q:z'=y
   ·rw[if_pos q] at e
    subst e
    have:=c.loc;rw[c.nil] at this;cases this
   ·rw[if_neg q] at e;exact q e
  ·have inj:∀a∈X.N,∀b∈X.N,(if a=y then ("":Str) else a)=(if b=y then ("":Str) else b)->a=b:=fun a ha b hb e=>by
    by_cases qa:a=y
    ·by_cases qb:b=y
     ·rw[qa,qb]
     ·rw[if_pos qa,if_neg qb] at e;exact absurd e.symm (c.none b hb)
    ·by_cases qb:b=y
     ·rw[if_neg qa,if_pos qb] at e;exact absurd e (c.none a ha)
     ·rw[if_neg qa,if_neg qb] at e;exact e
   have gen:∀l:List Str,(∀a∈l,a∈X.N)->l.Nodup->(l.map (fun z=>if z=y then ("":Str) else z)).Nodup:=by
    intro l
    induction l with
    | nil=>intro _ _;exact List.nodup_nil
    | cons a l ih =>
      intro hs nd
      obtain⟨n1,n2⟩:=List.nodup_cons.mp nd
      rw[List.map_cons]
      refine List.nodup_cons.mpr ⟨fun z=>?_,ih (fun b hb=>hs b (List.mem_cons_of_mem _ hb)) n2⟩
      obtain⟨b,hb,e⟩:=List.mem_map.mp z
      exact n1 (inj b (hs b (List.mem_cons_of_mem _ hb)) a (hs a List.mem_cons_self) e ▸ hb)
   exact gen X.N (fun _ h=>h) hN
 let L:Nat->Shared->Prop:=fun n s'=>∃(i:Nat) (H':Hp) (o:Option V) (xs:List V) (its:List Value) (acc:List D) (k:Nat),n=items.length-i/\i<=items.length/\Inv (z1q X y scope C s₂ H₂ fp (X.pn++pins)) [(Dd,{ cls:=.type "list",dict:=none,data:=.seq its.toArray k })] (o::σ) H' s' /\
  Same H₂ H'/\(∀b∈fp,H' b=none)/\tn i s'.heap/\Vals xs its/\acc.length<=i/\IsAll X.K (hid F H') acc xs/\z0y (fun d=>f d Γ) (items.drop i) acc = .ok total
 have loop:∀s₄:Shared,L items.length s₄->codeAny (model X.prog X.w) X.A (.compLoop (.ListComp elt [⟨.Name y px,iter,ifs,0⟩] scope pos) 0 (.ref it) (.ref Dd) (compEnvC scope (capt X.env scope.names []) C X.env)) (RR (.ref Dd) C) s₄:=fun s₄ h4=>by
  refine codeAny_compLoop_tests L (fun n s' hL=>wpAny_mono (E:=fun _ _=>False) ?_ (fun _ _ q=>q) fun _ _ z=>z.elim) items.length h4
  obtain⟨i,H',o,xs,its,acc,k,en,hi,J',S',fr',tn',rv,hal,ia,eg⟩:=hL
  obtain⟨jgo,jstop⟩:=hj H' S'
  have hpD:=J'.pin (Dd,{ cls:=.type "list",dict:=none,data:=.seq its.toArray k }) (List.mem_append_right _ (by simp))
  have hxl:xs.length<=100000:=by rw[<-ia.length];exact Nat.le_trans hal (Nat.le_trans hi hl)
  have hsl:(100000:Nat)<=sizeLine:=by rw[sizeLine_eq];decide
  by_cases hlt:i<items.length
  ·obtain⟨go,yl⟩:=jgo i hlt
   refine thn (T.item (z1q X y scope C s₂ H₂ fp (X.pn++pins)) rfl rfl rfl hcalm i _ s' _ H' (fun _ _=>False) J' (fpY fr') tn' go) fun r s2 ⟨u,hr,h1⟩=>?_
   subst hr
   refine pure_J (a:=()) h1 fun⟨x,H5,J5,r5,y5,st5,fr5⟩=>?_
   obtain⟨e5,d,ed,iv⟩:=yl x H5 y5
   subst e5
   have J5':=J5.pinned (fpY fr5) (T.obj _ _ st5)
   have hdrop:items.drop i=d::items.drop (i+1):=by
    rw[List.drop_eq_getElem_cons hlt]
    have:items[i]=d:=by
     have:=List.getElem?_eq_getElem hlt
     rw[ed] at this;exact(Option.some.inj this).symm
    rw[this]
   rw[hdrop] at eg
   have hfo:∃od,f d Γ = .ok od/\(match od with | some e=>z0y (fun d=>f d Γ) (items.drop (i+1)) (acc++[e]) | none=>z0y (fun d=>f d Γ) (items.drop (i+1)) acc) = .ok total:=by
    unfold z0y at eg
    cases q:f d Γ with
    | no=>simp only[q] at eg;cases eg
    | er c'=>simp only[q] at eg;cases eg
    | ok od =>
      refine⟨od,rfl,?_⟩
      cases od with
      | none=>simp only[q] at eg;exact eg
      | some e=>simp only[q] at eg;exact eg
   obtain⟨od,eod,etot⟩:=hfo
   have hpg:PG (z1q X y scope C s₂ H₂ fp (X.pn++pins)).nox (.Name y px) (y7i 0):=z7f (X:=(z1q X y scope C s₂ H₂ fp (X.pn++pins)).nox) NdY rfl (.inl (lookup_relabel_local c.loc)) (.inr (lookup_relabel_local c.loc))
   refine wpAny_mono (hpg _ s2 (o::σ) H5 x u (fun σ' H'=>σ'=some x::σ/\H'=H5) (J5'.wish _) r5 ⟨rfl,rfl⟩) (fun _ s3 ⟨σ6,H6,J6,e6,e6'⟩=>?_) fun _ _ z=>z.elim
   subst e6 e6'
   have J6':=J6.unwish
   have fo6:=fo.same S'
   refine wpAny_mono (hp.run C s₂ H₂ fp (X.pn++pins) _ s3 _ H6 F Γ d J6' fo6 (y1w (rl.same S') iv) ⟨od,eod⟩) (fun ok s4 h4=>?_) fun _ _ z=>z.elim
   have back:∀{s5:Shared} {H7:Hp} {σ7:St},Inv (z1q X y scope C s₂ H₂ fp (X.pn++pins)) ([(Dd,{ cls:=.type "list",dict:=none,data:=.seq its.toArray k })]++y1j fp s2.heap) σ7 H7 s5->tn (i+1) s5.heap/\(∀b∈fp,H7 b=none):=fun {s5 H7 σ7} J7=>by
    refine⟨T.keep _ _ _ st5 fun b hb o' e=>(J7.pin (b,o') (List.mem_append_right _ (List.mem_append_right _ (z3a hb e)))).1,fun b hb=>?_⟩
    obtain⟨o',e,dd⟩:=T.obj _ _ st5 b hb
    exact(J7.pin (b,o') (List.mem_append_right _ (List.mem_append_right _ (z3a hb e)))).2.1
   cases ok with
   | false =>
     rw[if_neg Bool.false_ne_true] at h4 ⊢
     obtain⟨ef,H7,J7,S7⟩:=h4
     rw[eod] at ef;cases ef
     obtain⟨tn7,fr7⟩:=back J7
     exact⟨items.length-(i+1),sb1 en hlt,i+1,H7,some x,xs,its,acc,k,rfl,hlt,J7.unpinned,S'.trans S7,fr7,tn7,rv,Nat.le_succ_of_le hal,ia.same (z2c S7),etot⟩
   | true =>
     rw[if_pos rfl] at h4 ⊢
     refine wpAny_mono h4 (fun u7 s5 ⟨e,v7,H7,ef,J7,r7,S7,iv7⟩=>?_) fun _ _ z=>z.elim
     rw[eod] at ef;cases ef
     obtain⟨tn7,fr7⟩:=back J7
     have J8:=J7.unpinned
     have hpD7:=J8.pin (Dd,{ cls:=.type "list",dict:=none,data:=.seq its.toArray k }) (List.mem_append_right _ (by simp))
     have hlen:its.length=acc.length:=by rw[<-rv.length,<-ia.length]
     refine wpAny_list_append_plain (l:=Dd) (items:=its.toArray) (x:=u7) ⟨k,hpD7.1⟩ (fun h' hl' hs'=>?_) (by rw[List.size_toArray,<-rv.length];exact Nat.le_trans hxl hsl)
     obtain⟨k',hk'⟩:=hl'
     have epush:its.toArray.push u7=(its++[u7]).toArray:=by simp
     rw[epush] at hk'
     have J9:Inv (z1q X y scope C s₂ H₂ fp (X.pn++pins)) [] (some x::σ) H7 s5:=J8.pins_of fun p hp'=>by simp at hp'
     have J10:Inv (z1q X y scope C s₂ H₂ fp (X.pn++pins)) [] (some x::σ) H7 { s5 with heap:=h' }:=J9.turned (t':=s5.toks) (it:=Dd) (fun b o' hb e'=>(hs'.2 b hb).trans e') hpD7.2.1 hDC (.inr hD) (fun x' k'' e' z=>by
      rcases z3k scope.names [] (PySem.mem_of_lookup e') with q | q
      ·simp at q
      ·obtain⟨v',o',ho',_⟩:=I.cell x' k'' q
       exact(below k'' (Heap.lt_size ho')).2 z) (fun p hp' z=>by
      rcases List.mem_append.mp hp' with q | q
      ·obtain⟨h1',_⟩:=I.pin p q
       exact(below p.1 (Heap.lt_size h1')).2 z
      ·simp at q)
     have J11:Inv (z1q X y scope C s₂ H₂ fp (X.pn++pins)) [(Dd,{ cls:=.type "list",dict:=none,data:=.seq (its++[u7]).toArray k' })] (some x::σ) H7 { s5 with heap:=h' }:=J10.pins_of fun p hp'=>by
      have e':p=(Dd,{ cls:=.type "list",dict:=none,data:=.seq (its++[u7]).toArray k' }):=by simpa using hp'
      subst e'
      exact⟨hk',hpD7.2.1,hDC,hpD7.2.2.2.1,fun v z=>nomatch z⟩
     refine⟨items.length-(i+1),sb1 en hlt,i+1,H7,some x,xs++[v7],its++[u7],acc++[e],k',rfl,hlt,J11,S'.trans S7,fr7,T.keep _ _ _ tn7 fun b hb o' e'=>(hs'.2 b (below b (ho b hb)).2).trans e',rv.append (.cons r7 .nil),by rw[List.length_append,List.length_singleton];exact Nat.succ_le_succ hal,(ia.same (z2c S7)).append (IsAll.cons iv7 IsAll.nil),etot⟩
  ·have hi':i=items.length:=Nat.le_antisymm hi (Nat.le_of_not_lt hlt)
   subst hi'
   refine thn (T.done (z1q X y scope C s₂ H₂ fp (X.pn++pins)) rfl rfl rfl hcalm _ _ s' _ H' (fun _ _=>False) J' (fpY fr') tn' jstop) fun r s1 ⟨hr,J1⟩=>?_
   subst hr
   have hpD1:=J1.pin (Dd,{ cls:=.type "list",dict:=none,data:=.seq its.toArray k }) (List.mem_append_right _ (by simp))
   rw[List.drop_length] at eg
   have:acc=total:=by unfold z0y at eg;cases eg;rfl
   subst this
   obtain⟨mC,hnC,_⟩:=J1.loc
   exact hR Dd C xs H' mC s1 hC hDC (I.hok.fresh hD) hpD1.2.1 J1.free hD S' ia (x0k I J1 hD hpD1.2.1 hpD1.1 rv (Nat.le_trans hxl hsl) hf) hnC
 have L0:∀tk,L items.length { s₂ with heap:=h₁,toks:=tk }:=fun tk=>⟨0,H₂,none,[],[],[],_,rfl,Nat.zero_le _,J0 tk,.refl _,fun b hb=>(hf b hb).1,t1,.nil,Nat.le_refl _,IsAll.nil,by rw[List.drop_zero];exact ht⟩
 exact codeAny_compStart_list (loop _ (L0 _)) (T.self _ 0 _ _ _ t1 (loop _ (L0 _)))
theorem z4a{elt iter:Expr}{px pos:Pos}{ifs:List Expr}{f:D->G->R (Option D)}{gi:G->R (List D)}(hi:PIC X (.Name y px) iter gi)(hp:PC1 X y scope ifs elt f)(hN:X.N.Nodup)(hcalm:X.calm=true)
 (chk:y2l X.N X.env y scope=true:=by rfl) (hclos:closureFor scope X.env=pure (capt X.env scope.names []):=by rfl) (hs:∀x,foldedSetIterable iter X.env x=pure x:=by intro _;rfl) :
 PF X (.ListComp elt [⟨.Name y px,iter,ifs,0⟩] scope pos) (z2y gi f):=by
 refine⟨fun pins s σ H F Γ I fo rl hg=>?_⟩
 have c:=y3r chk
 rw[eval_ListComp]
 refine wpAny_comprehension_free (use:=none) rfl hs hclos c.kind c.names (wpAny_mono (hi.run pins s σ H F Γ I fo rl (R.left hg)) (fun xv s₁ h₁=>wpAny_mono h₁ (fun itv s₂ h₂=>?_) fun _ _ x=>x.bind _) fun _ _ x=>x.bind _)
 obtain⟨items,it,fp,tn,J,H₂,e1,rfl,I2,S2,T,t0,fk,jc⟩:=h₂
 have hgx:=R.next hg e1
 obtain⟨hl,e2⟩:=R.guard_ne hgx
 have hne:z0y (fun d=>f d Γ) items [] ≠ .no:=by
  have:=R.next hg e1
  rw[e2] at this;exact this
 obtain⟨total,et⟩:=z5h hne
 refine y3q (RR:=fun acc C=>compPost (model X.prog X.w) X.A _ none _ acc C) hp c hN hcalm I2 (fo.same S2) (rl.same S2) T t0 fk jc et hl ?_
 intro Dd C xs H' m s' hC hDC hn hn' hnC hD S' ia I' hnsC
 refine⟨m,hnsC,fun h'' hs''=>?_⟩
 have nlt:∀{b:Addr} {o:Obj},s₂.heap.get? b=some o->b≠C:=fun e=>Nat.ne_of_lt (Nat.lt_of_lt_of_le (Heap.lt_size e) hC)
 have I'':Inv X pins σ (upd H' Dd (.lst xs)) { s' with heap:=h'' }:=I'.turned (t':=s'.toks) (it:=C) (fun b o hb e=>hs''.extBut b o hb e) (by rw[z0k (Ne.symm hDC)];exact hnC) (Nat.ne_of_gt (Nat.lt_of_lt_of_le I2.lt hC)) (.inr (Nat.le_trans I2.sz hC))
  (fun x k e=>by obtain⟨v,o,ho,_⟩:=I2.cell x k e;exact nlt ho) (fun p hp'=>nlt (I2.pin p hp').1)
 have S3:=z1k hn' (.lst xs)
 refine⟨total,Dd,xs,_,(R.step e1 _).trans (e2.trans et),I'',rfl,(S2.trans S').trans S3,S2.free hn,z0m,ia.same fun b o hb=>?_⟩
 obtain⟨z1,z2⟩:=z2a hb
 have hbl:b≠Dd:=z0p z2 hn'
 rw[z1d fun z=>(List.mem_cons.mp z).elim hbl z1,z0k hbl]
 exact z2
end
noncomputable def NxP(X:Cx)(pins:List (Addr×Obj))(H:Hp)(F:List Addr)(Γ:G)(s':Shared):Prop:=∃σ' H' F',Inv X pins σ' H' s'/\FOk H' F'/\Rel X.K H' F' Γ σ'/\Ext H F H' F'
noncomputable def RtP(X:Cx)(pins:List (Addr×Obj))(H:Hp)(F:List Addr)(r:R Fl)(u:Value)(s':Shared):Prop:=∃v σ' H' F',Inv X pins σ' H' s'/\RelV v u/\Ext H F H' F' /\
 ((∃d,r = .ok (.rt d)/\Is X.K H' d v)∨∃ds a xs,r = .ok (.rtF ds)/\v = .ref a/\(a∈F∨H a=none)/\H' a=some (.lst xs)/\IsAll X.K H' ds xs)
theorem RtP.map{X:Cx}{pins pins':List (Addr×Obj)}{H H1:Hp}{F F1:List Addr}{r r':R Fl}{u:Value}{s':Shared}(h:RtP X pins H1 F1 r u s')(E:Ext H F H1 F1)(hI:∀σ' H',Inv X pins σ' H' s'->Inv X pins' σ' H' s')
 (h1:∀d,r = .ok (.rt d)->r' = .ok (.rt d)) (h2:∀ds,r = .ok (.rtF ds)->r' = .ok (.rtF ds)):RtP X pins' H F r' u s':=by
 obtain⟨v,σ',H',F',I,rv,E',q⟩:=h
 refine⟨v,σ',H',F',hI _ _ I,rv,E.trans E',?_⟩
 rcases q with ⟨d,e,i⟩ | ⟨ds,a,xs,e,ev,hn,ha,i⟩
 ·exact .inl ⟨d,h1 d e,i⟩
 ·refine .inr ⟨ds,a,xs,h2 ds e,ev,?_,ha,i⟩
  rcases hn with z | z
  ·exact E.old a z
  ·by_cases c:a∈F
   ·exact .inl c
   ·refine .inr ?_
    cases q:H a with
    | none=>rfl
    | some o=>rw[E.keep a o c q] at z;cases z
noncomputable def FlP(X:Cx)(pins:List (Addr×Obj))(H:Hp)(F:List Addr)(r:R Fl)(fl:Flow)(s':Shared):Prop:=match fl with
 | .next=>∃Γ',r = .ok (.nx Γ')/\NxP X pins H F Γ' s'
 | .brk=>∃Γ',r = .ok (.bk Γ')/\NxP X pins H F Γ' s'
 | .cont=>∃Γ',r = .ok (.ct Γ')/\NxP X pins H F Γ' s'
 | .ret u=>RtP X pins H F r u s'
noncomputable def FlX(X:Cx)(pins:List (Addr×Obj))(H:Hp)(F:List Addr)(r:R Fl)(x:Value)(s':Shared):Prop:=∃c Γ' σ' H' F',r = .ok (.ex c Γ')/\y4d X pins σ' H' c x s'/\FOk H' F'/\Rel X.K H' F' Γ' σ'/\Ext H F H' F'
structure PQ (X:Cx) (st:Stmt) (g:G->R Fl):Prop where
 run:∀(pins:List (Addr×Obj)) (s:Shared) (σ:St) (H:Hp) (F:List Addr) (Γ:G),Inv X pins σ H s->FOk H F->Rel X.K H F Γ σ->g Γ ≠ .no ->
  wpAny (model X.prog X.w) X.A (exec st X.env) (FlP X pins H F (g Γ)) (FlX X pins H F (g Γ)) s
structure PQs (X:Cx) (st:List Stmt) (g:G->R Fl):Prop where
 run:∀(pins:List (Addr×Obj)) (s:Shared) (σ:St) (H:Hp) (F:List Addr) (Γ:G),Inv X pins σ H s->FOk H F->Rel X.K H F Γ σ->g Γ ≠ .no ->
  wpAny (model X.prog X.w) X.A (execs st X.env) (FlP X pins H F (g Γ)) (FlX X pins H F (g Γ)) s
theorem FlP.later{X:Cx}{pins:List (Addr×Obj)}{H H1:Hp}{F F1:List Addr}{r:R Fl}{fl:Flow}{s':Shared}(E:Ext H F H1 F1)(h:FlP X pins H1 F1 r fl s'):FlP X pins H F r fl s':=by
 cases fl with
 | next=>obtain⟨Γ',e,σ',H',F',h1,h2,h3,h4⟩:=h;exact⟨Γ',e,σ',H',F',h1,h2,h3,E.trans h4⟩
 | brk=>obtain⟨Γ',e,σ',H',F',h1,h2,h3,h4⟩:=h;exact⟨Γ',e,σ',H',F',h1,h2,h3,E.trans h4⟩
 | cont=>obtain⟨Γ',e,σ',H',F',h1,h2,h3,h4⟩:=h;exact⟨Γ',e,σ',H',F',h1,h2,h3,E.trans h4⟩
 | ret u=>exact RtP.map h E (fun _ _ I=>I) (fun _ e=>e) fun _ e=>e
theorem FlX.later{X:Cx}{pins:List (Addr×Obj)}{H H1:Hp}{F F1:List Addr}{r:R Fl}{x:Value}{s':Shared}(E:Ext H F H1 F1)(h:FlX X pins H1 F1 r x s'):FlX X pins H F r x s':=by
 obtain⟨c,Γ',σ',H',F',e,h1,h2,h3,h4⟩:=h
 exact⟨c,Γ',σ',H',F',e,h1,h2,h3,E.trans h4⟩
theorem z1m.lift{α:Type}{X:Cx}{pins:List (Addr×Obj)}{σ:St}{H:Hp}{F:List Addr}{Γ:G}{r:R α}{x:Value}{s':Shared}(fo:FOk H F)(rl:Rel X.K H F Γ σ)(h:z1m X pins σ H r x s')(k:α->R Fl):FlX X pins H F (lift r Γ k) x s':=by
 obtain⟨c,H',e,S,fl⟩:=h
 exact⟨c,Γ,σ,H',F,by rw[e];rfl,fl,fo.same S,rl.same S,.of_same S⟩
theorem Rel.set_ro{K:PySem.W.Frag}{H:Hp}{F:List Addr}{Γ:G}{σ:St}{i:Nat}{d:D}{v:V}(r:Rel K H F Γ σ)(iv:Is K (hid F H) d v):Rel K H F (Γ.set i (.ro d)) (σ.set i (some v)) where
 len:=by rw[List.length_set,List.length_set,r.len]
 ro:=fun j d' h=>by
  by_cases e:i=j
  ·subst e
   by_cases hi:i<Γ.length
   ·rw[List.getElem?_set_self hi] at h;cases h
    exact⟨v,List.getElem?_set_self (by rw[<-r.len];exact hi),iv⟩
   ·rw[List.getElem?_eq_none (by rw[List.length_set];lia)] at h;cases h
  ·rw[List.getElem?_set_ne e] at h
   rw[List.getElem?_set_ne e]
   exact r.ro j d' h
 own:=fun j ds h=>by
  by_cases e:i=j
  ·subst e
   by_cases hi:i<Γ.length
   ·rw[List.getElem?_set_self hi] at h;cases h
   ·rw[List.getElem?_eq_none (by rw[List.length_set];lia)] at h;cases h
  ·rw[List.getElem?_set_ne e] at h
   rw[List.getElem?_set_ne e]
   exact r.own j ds h
 inj:=fun j k ds es a h1 h2 h3 h4=>by
  by_cases ej:i=j
  ·subst ej
   by_cases hi:i<Γ.length
   ·rw[List.getElem?_set_self hi] at h1;cases h1
   ·rw[List.getElem?_eq_none (by rw[List.length_set];lia)] at h1;cases h1
  ·by_cases ek:i=k
   ·subst ek
    by_cases hi:i<Γ.length
    ·rw[List.getElem?_set_self hi] at h2;cases h2
    ·rw[List.getElem?_eq_none (by rw[List.length_set];lia)] at h2;cases h2
   ·rw[List.getElem?_set_ne ej] at h1 h3
    rw[List.getElem?_set_ne ek] at h2 h4
    exact r.inj j k ds es a h1 h2 h3 h4
theorem Rel.set_own{K:PySem.W.Frag}{H H':Hp}{F:List Addr}{Γ:G}{σ:St}{i:Nat}{ds:List D}{xs:List V}{a:Addr}(r:Rel K H F Γ σ)(fo:FOk H F)(S:Same H H')(hn:H a=none)(ha:H' a=some (.lst xs))(iv:IsAll K (hid (a::F) H') ds xs):Rel K H' (a::F) (Γ.set i (.own ds)) (σ.set i (some (.ref a))) where
 len:=by rw[List.length_set,List.length_set,r.len]
 ro:=fun j d' h=>by
  by_cases e:i=j
  ·subst e
   by_cases hi:i<Γ.length
   ·rw[List.getElem?_set_self hi] at h;cases h
   ·rw[List.getElem?_eq_none (by rw[List.length_set];lia)] at h;cases h
  ·rw[List.getElem?_set_ne e] at h
   rw[List.getElem?_set_ne e]
   obtain⟨v,h1,h2⟩:=r.ro j d' h
   exact⟨v,h1,h2.same (y9u S hn)⟩
 own:=fun j ds' h=>by
  by_cases e:i=j
  ·subst e
   by_cases hi:i<Γ.length
   ·rw[List.getElem?_set_self hi] at h;cases h
    exact⟨a,xs,List.getElem?_set_self (by rw[<-r.len];exact hi),List.mem_cons_self,ha,iv⟩
   ·rw[List.getElem?_eq_none (by rw[List.length_set];lia)] at h;cases h
  ·rw[List.getElem?_set_ne e] at h
   rw[List.getElem?_set_ne e]
   obtain⟨b,ys,h1,h2,h3,h4⟩:=r.own j ds' h
   exact⟨b,ys,h1,List.mem_cons_of_mem _ h2,S _ _ h3,h4.same (y9u S hn)⟩
 inj:=fun j k ds' es b h1 h2 h3 h4=>by
  have nF:∀(l:Nat) (es':List D),i≠l->Γ[l]? = some (.own es')->σ[l]? ≠ some (some (.ref a)):=fun l es' _ h z=>by
   obtain⟨b',ys,q1,q2,q3,_⟩:=r.own l es' h
   rw[z] at q1;cases q1
   rw[hn] at q3;cases q3
  by_cases ej:i=j
  ·by_cases ek:i=k
   ·rw[<-ej,<-ek]
   ·exfalso
    subst ej
    have hi:i<σ.length:=by
     by_cases hi:i<σ.length
     ·exact hi
     ·rw[List.getElem?_eq_none (by rw[List.length_set];lia)] at h3;cases h3
    rw[List.getElem?_set_self hi] at h3;cases h3
    rw[List.getElem?_set_ne ek] at h2 h4
    exact nF k es ek h2 h4
  ·by_cases ek:i=k
   ·exfalso
    subst ek
    have hi:i<σ.length:=by
     by_cases hi:i<σ.length
     ·exact hi
     ·rw[List.getElem?_eq_none (by rw[List.length_set];lia)] at h4;cases h4
    rw[List.getElem?_set_self hi] at h4;cases h4
    rw[List.getElem?_set_ne ej] at h1 h3
    exact nF j ds' ej h1 h3
   ·rw[List.getElem?_set_ne ej] at h1 h3
    rw[List.getElem?_set_ne ek] at h2 h4
    exact r.inj j k ds' es b h1 h2 h3 h4
theorem Rel.put{K:PySem.W.Frag}{H:Hp}{F:List Addr}{Γ:G}{σ:St}{i:Nat}{ds ds':List D}{xs':List V}{a:Addr}(r:Rel K H F Γ σ)(e:Γ[i]? = some (.own ds))(ea:σ[i]? = some (some (.ref a)))(iv:IsAll K (hid F H) ds' xs'):Rel K (upd H a (.lst xs')) F (Γ.set i (.own ds')) σ/\a∈F:=by
 obtain⟨a',xs,h1,hF,h3,h4⟩:=r.own i ds e
 rw[ea] at h1;cases h1
 have hh:hid F (upd H a (.lst xs'))=hid F H:=by
  funext b
  by_cases hb:b∈F
  ·rw[x3c hb,x3c hb]
  ·rw[z1d hb,z1d hb,z0k (fun z=>hb (by rw[z];exact hF))]
 have hi:i<Γ.length:=(List.getElem?_eq_some_iff.mp e).1
 refine⟨⟨by rw[List.length_set,r.len],fun j d' h=>?_,fun j es h=>?_,fun j k es1 es2 b h1 h2 h3' h4'=>?_⟩,hF⟩
 ·by_cases ej:i=j
  ·subst ej;rw[List.getElem?_set_self hi] at h;cases h
  ·rw[List.getElem?_set_ne ej] at h
   rw[hh];exact r.ro j d' h
 ·by_cases ej:i=j
  ·subst ej;rw[List.getElem?_set_self hi] at h;cases h
   exact⟨a,xs',ea,hF,z0m,by rw[hh];exact iv⟩
  ·rw[List.getElem?_set_ne ej] at h
   obtain⟨b,ys,q1,q2,q3,q4⟩:=r.own j es h
   refine⟨b,ys,q1,q2,?_,by rw[hh];exact q4⟩
   rw[z0k (fun z=>ej (r.inj i j ds es a e h ea (by rw[<-z];exact q1)))];exact q3
 ·have old:∀(l:Nat) (es':List D),(Γ.set i (En.own ds'))[l]? = some (En.own es')->∃es0,Γ[l]? = some (En.own es0):=fun l es' h=>by
   by_cases el:i=l
   ·subst el;exact⟨ds,e⟩
   ·rw[List.getElem?_set_ne el] at h;exact⟨es',h⟩
  obtain⟨e1,q1⟩:=old j es1 h1
  obtain⟨e2,q2⟩:=old k es2 h2
  exact r.inj j k e1 e2 b q1 q2 h3' h4'
theorem Rel.frz{K:PySem.W.Frag}{H:Hp}{F:List Addr}{Γ:G}{σ:St}(r:Rel K H F Γ σ)(fo:FOk H F)(i:Nat):∃F',FOk H F'/\(∀b,b∈F'->b∈F)/\Rel K H F' (L3.frz i Γ) σ:=by
 unfold L3.frz
 split
 ·rename_i ds e
  obtain⟨a,xs,h1,hF,h3,h4⟩:=r.own i ds e
  have hi:i<Γ.length:=(List.getElem?_eq_some_iff.mp e).1
  have sub:∀b,b∈F.filter (fun b=>b != a)->b∈F:=fun b hb=>(List.mem_filter.mp hb).1
  have up:Same (hid F H) (hid (F.filter (fun b=>b != a)) H):=fun b o hb=>by
   obtain⟨z1,z2⟩:=z2a hb
   rw[z1d fun z=>z1 (sub b z)];exact z2
  have na:a ∉ F.filter (fun b=>b != a):=fun z=>by simpa using (List.mem_filter.mp z).2
  refine⟨F.filter (fun b=>b != a),fun b hb=>fo b (sub b hb),sub,⟨by rw[List.length_set,r.len],fun j d' h=>?_,fun j es h=>?_,fun j k es1 es2 b q1 q2 q3 q4=>?_⟩⟩
  ·by_cases ej:i=j
   ·subst ej;rw[List.getElem?_set_self hi] at h;cases h
    exact⟨.ref a,h1,Is.lst_iff.mpr ⟨a,xs,rfl,SqL.of (by rw[z1d na];exact h3),h4.same up⟩⟩
   ·rw[List.getElem?_set_ne ej] at h
    obtain⟨v,q1,q2⟩:=r.ro j d' h
    exact⟨v,q1,q2.same up⟩
  ·by_cases ej:i=j
   ·subst ej;rw[List.getElem?_set_self hi] at h;cases h
   ·rw[List.getElem?_set_ne ej] at h
    obtain⟨b,ys,q1,q2,q3,q4⟩:=r.own j es h
    refine⟨b,ys,q1,List.mem_filter.mpr ⟨q2,?_⟩,q3,q4.same up⟩
    have:b≠a:=fun z=>ej (r.inj i j ds es a e h h1 (z ▸ q1))
    simpa using this
  ·by_cases ej:i=j
   ·subst ej;rw[List.getElem?_set_self hi] at q1;cases q1
   ·by_cases ek:i=k
    ·subst ek;rw[List.getElem?_set_self hi] at q2;cases q2
    ·rw[List.getElem?_set_ne ej] at q1
     rw[List.getElem?_set_ne ek] at q2
     exact r.inj j k es1 es2 b q1 q2 q3 q4
 ·exact⟨F,fo,fun _ h=>h,r⟩
section
variable {X:Cx}{st:Stmt}{rest:List Stmt}{t u:G->R Fl}{e a b c:Expr}{g ga gb:G->R D}{pos p pos':Pos}
theorem PQ.frz{st:Stmt}{g:G->R Fl}(i:Nat)(h:PQ X st g):PQ X st (fun Γ=>g (L3.frz i Γ)):=by
 refine⟨fun pins s σ H F Γ I fo rl hg=>?_⟩
 obtain⟨F',fo',sub,rl'⟩:=rl.frz fo i
 have E:Ext H F H F':=⟨fun _ _ _ h=>h,fun b hb=>.inl (sub b hb)⟩
 exact wpAny_mono (h.run pins s σ H F' _ I fo' rl' hg) (fun _ _ q=>q.later E) fun _ _ q=>q.later E
theorem z2f:PQs X [] z2q:=⟨fun pins s σ H F Γ I fo rl _=>wpAny_execs_nil ⟨Γ,rfl,σ,H,F,I,fo,rl,.refl⟩⟩
theorem z0e(h1:PQ X st t)(h2:PQs X rest u):PQs X (st::rest) (gSt t u):=by
 refine⟨fun pins s σ H F Γ I fo rl hg=>?_⟩
 refine wpAny_execs_cons (wpAny_mono (h1.run pins s σ H F Γ I fo rl (R.left hg)) (fun fl s1 q=>?_) fun x s1 q=>?_)
 ·cases fl with
  | next =>
    obtain⟨Γ',e,σ',H',F',I',fo',rl',E⟩:=q
    have e2:gSt t u Γ=u Γ':=R.step e _
    rw[e2] at hg ⊢
    exact wpAny_mono (h2.run pins s1 σ' H' F' Γ' I' fo' rl' hg) (fun _ _ q=>q.later E) fun _ _ q=>q.later E
  | ret v=>exact RtP.map q .refl (fun _ _ I=>I) (fun _ e=>R.step e _) fun _ e=>R.step e _
  | brk=>obtain⟨Γ',e,r⟩:=q;exact⟨Γ',R.step e _,r⟩
  | cont=>obtain⟨Γ',e,r⟩:=q;exact⟨Γ',R.step e _,r⟩
 ·obtain⟨c,Γ',σ',H',F',e,r⟩:=q
  exact⟨c,Γ',σ',H',F',R.step e _,r⟩
theorem z0h(h1:PQ X st t):PQs X [st] t:=by
 refine⟨fun pins s σ H F Γ I fo rl hg=>?_⟩
 refine wpAny_execs_cons (thn (h1.run pins s σ H F Γ I fo rl hg) fun fl s1 q=>?_)
 cases fl with
 | next=>exact wpAny_execs_nil q
 | ret v=>exact q
 | brk=>exact q
 | cont=>exact q
theorem z0t(he:PD X e g):PQ X (.Return (some e) pos) (gRet g):=⟨fun pins s σ H F Γ I fo rl hg =>
 wpAny_Return_some (wpAny_mono (he.run pins s σ H F Γ I fo rl (z0v hg)) (fun u s1 ⟨d,v,H',e1,I',rv,S,i⟩=>⟨v,σ,H',F,I',rv,.of_same S,.inl ⟨d,z1v e1,i⟩⟩) fun _ _ x=>x.lift fo rl _)⟩
theorem x3r{g:G->R (List D)}(he:PF X e g):PQ X (.Return (some e) pos) (z8n g):=⟨fun pins s σ H F Γ I fo rl hg =>
 wpAny_Return_some (wpAny_mono (he.run pins s σ H F Γ I fo rl (z0v hg)) (fun u s1 ⟨ds,a,xs,H',e1,I',eu,S,hn,ha,i⟩=>⟨.ref a,σ,H',F,I',eu,.of_same S,.inr ⟨ds,a,xs,z1v e1,rfl,.inr hn,ha,i.same z0u⟩⟩) fun _ _ x=>x.lift fo rl _)⟩
theorem x3q(i:Nat){x:Str}{p:Pos}(hN:X.N[i]? = some x:=by rfl)(hv:Vis X.env.scope x:=by first | exact Or.inl rfl | exact Or.inr (Or.inl rfl) | exact Or.inr (Or.inr rfl))(hd:(x==("__debug__":Str))=false:=by decide)
 (hcd:(x==("__classdict__":Str))=false:=by decide):PQ X (.Return (some (.Name x p)) pos) (z9a i):=by
 refine⟨fun pins s σ H F Γ I fo rl hg=>?_⟩
 unfold z9a at hg ⊢
 cases q:Γ[i]? with
 | none=>rw[q] at hg;exact absurd rfl hg
 | some en =>
   cases en with
   | own ds =>
     obtain⟨a,xs,h1,h2,h3,h4⟩:=rl.own i ds q
     refine wpAny_Return_some (wpAny_mono (z6a (X:=X.nox) hN hv hd hcd pins s σ H (fun v' H'=>v' = .ref a/\H'=H) (I.wish _) ⟨.ref a,h1,rfl,rfl⟩) (fun u s1 ⟨v',H',I',r,e1,e2⟩=>?_) fun _ _ z=>False.elim z)
     subst e1 e2
     exact⟨.ref a,σ,H',F,I'.unwish,r,.refl,.inr ⟨ds,a,xs,rfl,rfl,.inl h2,h3,h4.same z0u⟩⟩
   | _=>rw[q] at hg;exact absurd rfl hg
theorem z6f{cs ds:List Stmt}{gc:G->R Bool}(hc:PTD X c gc)(ha:PQs X cs t)(hb:PQs X ds u):PQ X (.If c cs ds pos) (gIfS gc t u):=by
 refine⟨fun pins s σ H F Γ I fo rl hg=>?_⟩
 refine wpAny_If (wpAny_mono (hc.run pins s σ H F Γ I fo rl (z0v hg)) (fun k s1 ⟨H1,e1,I1,S1⟩=>?_) fun _ _ x=>x.lift fo rl _)
 have e2:gIfS gc t u Γ=if k=true then t Γ else u Γ:=z1v e1
 rw[e2] at hg ⊢
 cases k with
 | true=>exact wpAny_mono (ha.run pins s1 σ H1 F Γ I1 (fo.same S1) (rl.same S1) hg) (fun _ _ q=>q.later (.of_same S1)) fun _ _ q=>q.later (.of_same S1)
 | false=>exact wpAny_mono (hb.run pins s1 σ H1 F Γ I1 (fo.same S1) (rl.same S1) hg) (fun _ _ q=>q.later (.of_same S1)) fun _ _ q=>q.later (.of_same S1)
theorem z1a(i:Nat){x:Str}(he:PDr X e g)(hN:X.N.Nodup)(hi:X.N[i]? = some x:=by rfl)(hx:Loc X.env.scope x:=by first | exact Or.inl rfl | exact Or.inr rfl)(hs:swapsWith e (some (.Name x pos')) pos.line X.env=pure false:=by rfl)(hf:X.fn x=true∨X.env.scope.names.lookup x=some .local:=by first | exact .inl rfl | exact .inr rfl | assumption) :
 PQ X (.Assign [.Name x pos'] e pos) (gSet i g):=by
 refine⟨fun pins s σ H F Γ I fo rl hg=>?_⟩
 refine wpAny_Assign_Name (wpAny_mono (he.run pins s σ H F Γ I fo rl (z0v hg)) (fun v s1 ⟨d,y,H1,e1,I1,r1,S1,i1⟩=>?_) fun _ _ x=>x.lift fo rl _) hs
 exact z5l I1 hN hi hx r1 (fun s2 I2=>⟨_,z1v e1,_,H1,F,I2,fo.same S1,(rl.same S1).set_ro i1,.of_same S1⟩) hf
theorem z8f(i:Nat){x:Str}{g:G->R (List D)}(he:PF X e g)(hN:X.N.Nodup)(hi:X.N[i]? = some x:=by rfl)(hx:Loc X.env.scope x:=by first | exact Or.inl rfl | exact Or.inr rfl)(hs:swapsWith e (some (.Name x pos')) pos.line X.env=pure false:=by rfl)(hf:X.fn x=true∨X.env.scope.names.lookup x=some .local:=by first | exact .inl rfl | exact .inr rfl | assumption) :
 PQ X (.Assign [.Name x pos'] e pos) (z3b i g):=by
 refine⟨fun pins s σ H F Γ I fo rl hg=>?_⟩
 refine wpAny_Assign_Name (wpAny_mono (he.run pins s σ H F Γ I fo rl (z0v hg)) (fun v s1 ⟨ds,a,xs,H1,e1,I1,eu,S1,hn,ha,i1⟩=>?_) fun _ _ x=>x.lift fo rl _) hs
 subst eu
 exact z5l (v:=.ref a) I1 hN hi hx rfl (fun s2 I2=>⟨_,z1v e1,_,H1,a::F,I2,(fo.same S1).cons ha,rl.set_own fo S1 hn ha i1,⟨fun b o _ h=>S1 _ _ h,fun b hb=>(List.mem_cons.mp hb).elim (fun z=>.inr (z ▸ hn)) .inl⟩⟩) hf
theorem y6u(i:Nat){x y:Str}{elt iter:Expr}{px:Pos}{ifs:List Expr}{scope:Scope}{f:D->G->R (Option D)}{gi:G->R (List D)}(hi':PIC X (.Name y px) iter gi)(hp:PC1 X y scope ifs elt f)(hN:X.N.Nodup)(hcalm:X.calm=true)(hi:X.N[i]? = some x:=by rfl)(hx:Loc X.env.scope x:=by first | exact Or.inl rfl | exact Or.inr rfl)
 (hsw:swapsWith (.ListComp elt [⟨.Name y px,iter,ifs,0⟩] scope p) (some (.Name x pos')) pos.line X.env=pure true:=by rfl) (hf:X.fn x=true∨X.env.scope.names.lookup x=some .local:=by first | exact .inl rfl | exact .inr rfl | assumption)
 (chk:y2l X.N X.env y scope=true:=by rfl) (hclos:closureFor scope X.env=pure (capt X.env scope.names []):=by rfl) (hs:∀x,foldedSetIterable iter X.env x=pure x:=by intro _;rfl) :
 PQ X (.Assign [.Name x pos'] (.ListComp elt [⟨.Name y px,iter,ifs,0⟩] scope p) pos) (z3b i (z2y gi f)):=by
 refine⟨fun pins s σ H F Γ I fo rl hg=>?_⟩
 have c:=y3r chk
 rw[exec_Assign_Name_used _ _ _ _ hsw]
 refine wpAny_bind (wpAny_standAt (wpAny_bind ?_))
 show wpAny _ X.A (do let _ <-comprehension (.ListComp elt [⟨.Name y px,iter,ifs,0⟩] scope p) scope X.env _ (newList []) false (eval iter X.env) (some (assign (.Name x pos') X.env))) _ _ s
 have hg0:=z0v hg
 refine wpAny_bind (wpAny_mono (wpAny_comprehension_free (use:=some (assign (.Name x pos') X.env)) (Q:=fun _ s'=>FlP X pins H F (z3b i (z2y gi f) Γ) .next s') rfl hs hclos c.kind c.names
  (wpAny_mono (hi'.run pins s σ H F Γ I fo rl (R.left hg0)) (fun xv s₁ h₁=>wpAny_mono h₁ (fun itv s₂ h₂=>?_) fun _ _ x=>(x.bind _).lift fo rl _) fun _ _ x=>(x.bind _).lift fo rl _)) (fun _ s' hq=>wpAny_pure (wpAny_pure hq)) fun _ _ e=>e)
 obtain⟨items,it,fp,tn,J,H₂,e1,rfl,I2,S2,T,t0,fk,jc⟩:=h₂
 have hgx:=R.next hg0 e1
 obtain⟨hl,e2⟩:=R.guard_ne hgx
 have hne:z0y (fun d=>f d Γ) items [] ≠ .no:=by
  have:=R.next hg0 e1
  rw[e2] at this;exact this
 obtain⟨total,et⟩:=z5h hne
 have eT:z2y gi f Γ = .ok total:=(R.step e1 _).trans (e2.trans et)
 refine y3q (RR:=fun acc C=>compPost (model X.prog X.w) X.A _ (some (assign (.Name x pos') X.env)) _ acc C) hp c hN hcalm I2 (fo.same S2) (rl.same S2) T t0 fk jc et hl ?_
 intro Dd C xs H' m s' hC hDC hn hn' hnC hD S' ia I' hnsC
 have nlt:∀{b:Addr} {o:Obj},s₂.heap.get? b=some o->b≠C:=fun e=>Nat.ne_of_lt (Nat.lt_of_lt_of_le (Heap.lt_size e) hC)
 have S3:=z1k hn' (.lst xs)
 have hall:Same H (upd H' Dd (.lst xs)):=(S2.trans S').trans S3
 have hH:H Dd=none:=S2.free hn
 have ia':IsAll X.K (hid (Dd::F) (upd H' Dd (.lst xs))) total xs:=ia.same fun b o hb=>by
  obtain⟨z1,z2⟩:=z2a hb
  have hbl:b≠Dd:=z0p z2 hn'
  rw[z1d fun z=>(List.mem_cons.mp z).elim hbl z1,z0k hbl]
  exact z2
 show wpAny _ X.A (assign (.Name x pos') X.env (.ref Dd)) _ _ s'
 refine wpAny_assign_Name (z9n (v:=.ref Dd) I' hN hi hx rfl (fun s3 I3 hsb=>?_) hf)
 obtain⟨aa,hsb,haa⟩:=hsb
 have haC:aa≠C:=by
  rcases haa with z | z
  ·subst z;exact Nat.ne_of_lt (Nat.lt_of_lt_of_le I2.lt hC)
  ·obtain⟨v,o,ho,_⟩:=I2.cell x aa z;exact nlt ho
 refine⟨m,hnsC.sameBut hsb (Ne.symm haC),fun h'' hs''=>?_⟩
 have I4:Inv X pins (σ.set i (some (.ref Dd))) (upd H' Dd (.lst xs)) { s3 with heap:=h'' }:=I3.turned (t':=s3.toks) (it:=C) (fun b o hb e=>hs''.extBut b o hb e) (by rw[z0k (Ne.symm hDC)];exact hnC) (Nat.ne_of_gt (Nat.lt_of_lt_of_le I2.lt hC)) (.inr (Nat.le_trans I2.sz hC))
  (fun x k e=>by obtain⟨v,o,ho,_⟩:=I2.cell x k e;exact nlt ho) (fun p hp'=>nlt (I2.pin p hp').1)
 exact⟨_,z1v eT,_,_,Dd::F,I4,(fo.same hall).cons z0m,rl.set_own fo hall hH z0m ia',⟨fun b o _ h=>hall _ _ h,fun b hb=>(List.mem_cons.mp hb).elim (fun z=>.inr (z ▸ hH)) .inl⟩⟩
theorem z7s(i:Nat){x:Str}{apos cpos:Pos}(he:PDr X e g)(hN:X.N[i]? = some x:=by rfl)(hv:Vis X.env.scope x:=by first | exact Or.inl rfl | exact Or.inr (Or.inl rfl) | exact Or.inr (Or.inr rfl))(hd:(x==("__debug__":Str))=false:=by decide)(hcd:(x==("__classdict__":Str))=false:=by decide)
 (hsw:swapsWith (.Call (.Attribute (.Name x p) "append" apos) [e] [] cpos) none pos.line X.env=pure false:=by rfl)
 (hbase:attributeBase (.Name x p) "append" X.env (eval (.Name x p) X.env)=eval (.Name x p) X.env:=by rfl)
 (hfew:((backTo cpos (starEach [e] X.env)).all (fun x=>!x.1)&&(backToKw cpos (keywordEach [] X.env)).all (fun x=>x.1.isSome)
   && decide ([e].length+([]:List Keyword).length+(if ([]:List Keyword).isEmpty then 0 else 1)<30))=true:=by rfl)
 (hline:(apos.endLine==cpos.line)=true:=by rfl) (hs:starEach [e] X.env=(false,eval e X.env)::starEach [] X.env:=by rfl) :
 PQ X (.Expr (.Call (.Attribute (.Name x p) "append" apos) [e] [] cpos) pos) (gApp i g):=by
 refine⟨fun pins s σ H F Γ I fo rl hg=>?_⟩
 refine wpAny_Expr_any ?_ I.quiet hsw
 have hown:∃ds,Γ[i]? = some (.own ds):=by
  unfold gApp at hg
  split at hg
  ·rename_i ds e1;exact⟨ds,e1⟩
  ·exact absurd rfl hg
 obtain⟨ds,eo⟩:=hown
 have egA:gApp i g Γ=lift (g Γ) Γ fun d=>R.guard (ds.length<=100000) (.ok (.nx (Γ.set i (.own (ds++[d]))))):=by unfold gApp;rw[eo]
 rw[egA] at hg ⊢
 obtain⟨a',xs,h1,hF,h3,h4⟩:=rl.own i ds eo
 refine wpAny_Call_method_late hbase hfew hline rfl (wpAny_mono (z6a (X:=X.nox) hN hv hd hcd pins s σ H (fun v' H'=>v' = .ref a'/\H'=H) (I.wish _) ⟨.ref a',h1,rfl,rfl⟩) (fun v s1 ⟨v',H',I1,r1,e1,e2⟩=>?_) fun _ _ z=>False.elim z)
 subst e1 e2
 have I1':=I1.unwish
 obtain⟨t1,t2⟩:=z9k (T:="list") I1' r1 (.inl ⟨rfl,xs,SqL.of h3⟩)
 refine⟨"list",_,PySem.F.plainAttrs_list,PySem.F.slot_list_append,PySem.F.type_list_append,t1,t2,?_⟩
 rw[hs]
 refine Calls.callWith_builtin rfl (Calls.evalArgs_plain ?_)
 show wpAny _ _ (spliced ((false,eval e X.env)::backTo cpos [])) _ _ s1
 refine Calls.spliced_cons (wpAny_mono (he.run pins s1 σ H' F Γ I1' fo rl (z0v hg)) (fun u s2 ⟨d,y,H2,e3,I2,r2,S2,i2⟩=>Calls.spliced_nil ?_) fun _ _ x=>x.lift fo rl _)
 have hgx:=z6m hg e3
 obtain⟨hl,e4⟩:=R.guard_ne hgx
 have hx2:=S2 _ _ h3
 have hsl:(100001:Nat)<=sizeLine:=by rw[sizeLine_eq];decide
 have hxl:=h4.length
 refine wpAny_mono (z6l (X:=X.nox) pins s2 σ H2 (.ref a') [y] v [u] (fun z H''=>z = .non/\H''=upd H2 a' (.lst (xs++[y]))) (I2.wish _) r1 (.cons r2 .nil) ⟨a',xs,y,rfl,rfl,hx2,by lia,rfl,rfl⟩) (fun w' s3 ⟨z,H'',I3,rz,ez,eH⟩=>?_) fun _ _ z=>False.elim z
 subst ez eH
 obtain⟨rl',hF'⟩:=(rl.same S2).put eo h1 (xs':=xs++[y]) (ds':=ds++[d]) ((h4.same (z2c S2)).append (IsAll.cons i2 IsAll.nil))
 refine⟨_,(z1v e3).trans e4,σ,_,F,I3.unwish,fun b hb=>?_,rl',⟨fun b o hb h=>?_,fun b hb=>.inl hb⟩⟩
 ·by_cases hba:b=a'
  ·exact⟨xs++[y],by rw[hba];exact z0m⟩
  ·obtain⟨ys,q⟩:=fo b hb
   exact⟨ys,by rw[z0k hba];exact S2 _ _ q⟩
 ·rw[z0k (fun z=>hb (by rw[z];exact hF))];exact S2 _ _ h
theorem x2s(i:Nat){x:Str}{k:Expr}{gk:G->R D}{spos:Pos}(hk:PD X k gk)(he:PDr X e g)(hN:X.N[i]? = some x:=by rfl)(hv:Vis X.env.scope x:=by first | exact Or.inl rfl | exact Or.inr (Or.inl rfl) | exact Or.inr (Or.inr rfl))(hd:(x==("__debug__":Str))=false:=by decide)(hcd:(x==("__classdict__":Str))=false:=by decide)
 (ha:∀v,assign (.Subscript (.Name x p) k spos) X.env v=(do
   let ov <-holding [v] (eval (.Name x p) X.env)
   let iv <-holding [v,ov] (eval k X.env)
   standAt spos
   holding [v,ov,iv] (setItem ov iv v)
   release [v,ov,iv] []):=by intro _;rfl)
 (hs:swapsWithSole [.Subscript (.Name x p) k spos] e pos.line X.env=pure false:=by rfl) (hw:swappedStores [.Subscript (.Name x p) k spos] e X.env=pure none:=by rfl)
 (h1':(assignEach [.Subscript (.Name x p) k spos] X.env).map (·.2)=[assign (.Subscript (.Name x p) k spos) X.env]:=by rfl) :
 PQ X (.Assign [.Subscript (.Name x p) k spos] e pos) (gPut i gk g):=by
 refine⟨fun pins s σ H F Γ I fo rl hg=>?_⟩
 have hown:∃ds,Γ[i]? = some (.own ds):=by
  unfold gPut at hg
  split at hg
  ·rename_i ds e1;exact⟨ds,e1⟩
  ·exact absurd rfl hg
 obtain⟨ds,eo⟩:=hown
 have egA:gPut i gk g Γ=lift (g Γ) Γ fun d=>lift (gk Γ) Γ fun k=>(match k with
  | .int j=>(match ixN ds.length j with | some j'=>.ok (.nx (Γ.set i (.own (ds.set j' d)))) | none=>.no)
  | _=>.no):=by(unfold gPut;rw[eo])<;>rfl
 rw[egA] at hg ⊢
 obtain⟨a',xs,h1,hF,h3,h4⟩:=rl.own i ds eo
 refine wpAny_Assign_stores (wpAny_mono (he.run pins s σ H F Γ I fo rl (z0v hg)) (fun u s1 ⟨d,y,H1,e1,I1,r1,S1,i1⟩=>?_) fun _ _ x=>x.lift fo rl _) hs hw
 have hg1:=z6m hg e1
 rw[h1']
 rw[z1v e1] at hg ⊢
 show wpAny _ _ (assign (.Subscript (.Name x p) k spos) X.env u) _ _ s1
 rw[ha]
 refine wpAny_bind (wpAny_holding (wpAny_mono (z6a (X:=X.nox) hN hv hd hcd pins s1 σ H1 (fun v' H'=>v' = .ref a'/\H'=H1) (I1.wish _) ⟨.ref a',h1,rfl,rfl⟩) (fun v s2 ⟨v',H',I2,r2,e2,e3⟩=>?_) fun _ _ z=>False.elim z))
 subst e2 e3
 refine wpAny_bind (wpAny_holding (wpAny_mono (hk.run pins s2 σ H' F Γ I2.unwish (fo.same S1) (rl.same S1) (z0v hg)) (fun w' s3 ⟨dk,vk,H3,e4,I3,r3,S3,i3⟩=>?_) fun _ _ x=>(x.lift (fo.same S1) (rl.same S1) _).later (.of_same S1)))
 have hg2:=z6m hg e4
 rw[z1v e4] at hg ⊢
 cases dk with
 | int j =>
   cases q:ixN ds.length j with
   | none=>simp only[q] at hg2;exact absurd rfl hg2
   | some j' =>
     have hx3:=S3 _ _ (S1 _ _ h3)
     refine wpAny_bind (wpAny_standAt (wpAny_bind (wpAny_holding (wpAny_mono (x1b (X:=X.nox) pins s3 σ H3 (.ref a') vk y v w' u (fun H''=>H''=upd H3 a' (.lst (xs.set j' y))) (I3.wish _) r2 r3 r1 ⟨a',xs,j,j',rfl,Is.int_iff.mp i3,hx3,by rw[<-h4.length];exact q,rfl⟩) (fun _ s4 ⟨H'',I4,eH⟩=>?_) fun _ _ z=>False.elim z))))
     subst eH
     refine wpAny_release ?_
     have S13:=S1.trans S3
     obtain⟨rl',hF'⟩:=(rl.same S13).put eo h1 (xs':=xs.set j' y) (ds':=ds.set j' d) (IsAll.set (i1.same (z2c S3)) j' (h4.same (z2c S13)))
     refine⟨_,by simp only[q],σ,_,F,I4.unwish,fun b hb=>?_,rl',⟨fun b o hb h=>?_,fun b hb=>.inl hb⟩⟩
     ·by_cases hba:b=a'
      ·exact⟨_,by rw[hba];exact z0m⟩
      ·obtain⟨ys,q'⟩:=fo b hb
       exact⟨ys,by rw[z0k hba];exact S13 _ _ q'⟩
     ·rw[z0k (fun z=>hb (by rw[z];exact hF))];exact S13 _ _ h
 | _=>exact absurd rfl hg2
noncomputable def PO'(X:Cx):Prop:=∀pins H F r,PassesOwn (model X.prog X.w) X.A X.env (FlX X pins H F r)
theorem z6i(i:Nat){x:Str}{px:Pos}{iter:Expr}{body:List Stmt}{gi:G->R (List D)}{gb:G->R Fl}(hp:PO' X)(hcalm:X.calm=true)(hi:PIF X (.Name x px) iter gi)(hb:PQs X body gb)(hN:X.N.Nodup)(hix:X.N[i]? = some x:=by rfl)(hx:Loc X.env.scope x:=by first | exact Or.inl rfl | exact Or.inr rfl)
 (hf:X.fn x=true∨X.env.scope.names.lookup x=some .local:=by first | exact .inl rfl | exact .inr rfl | assumption)
 (hs:∀x,foldedSetIterable iter X.env x=pure x:=by intro _;rfl):PQ X (.For (.Name x px) iter body [] pos) (gFor i gi gb):=by
 refine⟨fun pins s σ H F Γ I fo rl hg=>?_⟩
 refine wpAny_For (wpAny_mono (hi.run pins s σ H F Γ I fo rl (z0v hg)) (fun v s1 h1=>wpAny_mono h1 (fun itv s2 h2=>?_) fun _ _ x=>x.lift fo rl _) fun _ _ x=>x.lift fo rl _) hs
 obtain⟨ds,it,fp,tn,J,H2,e1,rfl,I2,S2,T,t0,fk,jd⟩:=h2
 have eg:gFor i gi gb Γ=z3r gb i ds Γ:=z1v e1
 rw[eg] at hg ⊢
 have hp':=hp pins H F (z3r gb i ds Γ)
 have stat:∀{H':Hp},(∀b∈fp,H' b=none)->∀b∈fp,FpOk X pins H' b:=fun hn b hb=>⟨hn b hb,(fk b hb).2⟩
 refine codeAny_forLoop_any (fun n s'=>∃(j:Nat) (σ':St) (H':Hp) (F':List Addr) (Γ':G),n=ds.length-j/\j<=ds.length/\Inv X pins σ' H' s'/\tn j s'.heap/\(∀b∈fp,H' b=none)/\FOk H' F'/\Rel X.K H' F' Γ' σ'/\Ext H2 F H' F'/\z3r gb i (ds.drop j) Γ'=z3r gb i ds Γ) ?_ ds.length
  ⟨0,σ,H2,F,Γ,by lia,Nat.zero_le _,I2,t0,fun b hb=>(fk b hb).1,fo.same S2,rl.same S2,.refl,by rw[List.drop_zero]⟩
 rintro n s3 ⟨j,σ3,H3,F3,Γ3,en,hj,I3,t3,fr3,fo3,rl3,E3,ev3⟩
 have E03:Ext H F H3 F3:=(Ext.of_same S2).trans E3
 obtain⟨jgo,jstop⟩:=jd H3 fun b o hb h=>E3.keep b o hb h
 by_cases hlt:j<ds.length
 ·obtain⟨go,yl⟩:=jgo j hlt
  refine wpAny_passesOwn hp' (thn (T.item X rfl rfl rfl hcalm j pins s3 σ3 H3 _ I3 (stat fr3) t3 go) fun r s4 ⟨u,hr,h4⟩=>?_)
  subst hr
  refine wpAny_passesOwn hp' (thn h4 fun _ s5 ⟨y,H5,I5,r5,y5,st5,fr5⟩=>?_)
  obtain⟨e5,d,ed,iv⟩:=yl y H5 y5
  subst e5
  have iv':=iv F3 fun b hb=>E3.old b hb
  have hdrop:ds.drop j=d::ds.drop (j+1):=by
   rw[List.drop_eq_getElem_cons hlt]
   have:ds[j]=d:=by
    have:=List.getElem?_eq_getElem hlt
    rw[ed] at this;exact(Option.some.inj this).symm
   rw[this]
  have I5':=I5.pinned (stat fr5) (T.obj _ _ st5)
  have hpg:PG X.nox (.Name x px) (y7i i):=z7f (X:=X.nox) hN hix hx hf
  refine wpAny_passesOwn hp' (wpAny_mono (hpg _ s5 σ3 H5 y u (fun σ' H'=>σ'=σ3.set i (some y)/\H'=H5) (I5'.wish _) r5 ⟨rfl,rfl⟩) (fun _ s6 ⟨σ6,H6,I6,e6,e6'⟩=>?_) fun _ _ z=>False.elim z)
  subst e6 e6'
  have evd:z3r gb i (d::ds.drop (j+1)) Γ3=z3r gb i ds Γ:=by rw[<-hdrop];exact ev3
  have hgb:gb (Γ3.set i (.ro d)) ≠ .no:=fun z=>by
   rw[<-evd] at hg
   unfold z3r at hg
   rw[z] at hg
   exact hg rfl
  have back:∀{s7:Shared} {σ7:St} {H7:Hp},Inv X (pins++y1j fp s5.heap) σ7 H7 s7->Inv X pins σ7 H7 s7/\tn (j+1) s7.heap/\∀b∈fp,H7 b=none:=fun {s7 σ7 H7} I7=>by
   refine⟨I7.unpinned,T.keep _ _ _ st5 fun b hb o e=>(I7.pin (b,o) (List.mem_append_right _ (List.mem_append_right _ (z3a hb e)))).1,fun b hb=>?_⟩
   obtain⟨o,e,dd⟩:=T.obj _ _ st5 b hb
   exact(I7.pin (b,o) (List.mem_append_right _ (List.mem_append_right _ (z3a hb e)))).2.1
  refine wpAny_passesOwn hp' (wpAny_mono (hb.run _ s6 _ H6 F3 _ I6.unwish fo3 (rl3.set_ro iv') hgb) (fun f s7 q7=>?_) fun x7 s7 q7=>?_)
  ·cases f with
   | next =>
     obtain⟨Γ7,e7,σ7,H7,F7,I7,fo7,rl7,E7⟩:=q7
     obtain⟨b1,b2,b3⟩:=back I7
     refine⟨ds.length-(j+1),by lia,j+1,σ7,H7,F7,Γ7,rfl,hlt,b1,b2,b3,fo7,rl7,E3.trans E7,?_⟩
     rw[<-evd]
     conv=>rhs;unfold z3r
     rw[e7]
   | cont =>
     obtain⟨Γ7,e7,σ7,H7,F7,I7,fo7,rl7,E7⟩:=q7
     obtain⟨b1,b2,b3⟩:=back I7
     refine⟨ds.length-(j+1),by lia,j+1,σ7,H7,F7,Γ7,rfl,hlt,b1,b2,b3,fo7,rl7,E3.trans E7,?_⟩
     rw[<-evd]
     conv=>rhs;unfold z3r
     rw[e7]
   | brk =>
     obtain⟨Γ7,e7,σ7,H7,F7,I7,fo7,rl7,E7⟩:=q7
     refine⟨Γ7,?_,σ7,H7,F7,I7.unpinned,fo7,rl7,E03.trans E7⟩
     rw[<-evd]
     conv=>lhs;unfold z3r
     rw[e7]
   | ret v7 =>
     refine RtP.map q7 E03 (fun _ _ I7=>I7.unpinned) (fun d7 e7=>?_) fun d7 e7=>?_
     ·rw[<-evd]
      conv=>lhs;unfold z3r
      rw[e7]
     ·rw[<-evd]
      conv=>lhs;unfold z3r
      rw[e7]
  ·obtain⟨c7,Γ7,σ7,H7,F7,e7,fl7,fo7,rl7,E7⟩:=q7
   refine⟨c7,Γ7,σ7,H7,F7,?_,?_,fo7,rl7,E03.trans E7⟩
   ·rw[<-evd]
    conv=>lhs;unfold z3r
    rw[e7]
   ·obtain⟨I7,e',C',oe,vs,q1,q2,q3,q4,q5,q6,q7',q8⟩:=fl7
    refine⟨I7.unpinned,e',C',oe,vs,q1,q2,q3,q4,q5,q6,fun p hp2=>q7' p ?_,?_⟩
    ·rcases List.mem_append.mp hp2 with z | z
     ·exact List.mem_append_left _ z
     ·exact List.mem_append_right _ (List.mem_append_left _ z)
    ·obtain⟨w1,w2,w3,w4,w5⟩:=q8
     refine⟨w1,w2,w3,w4,?_⟩
     rcases w5 with w5 | ⟨T',oT,ts,z1,z2,z3,z4,z5,z6,z7⟩
     ·exact .inl w5
     ·refine .inr ⟨T',oT,ts,z1,z2,z3,z4,z5,fun p hp2=>z6 p ?_,z7⟩
      rcases List.mem_append.mp hp2 with z | z
      ·exact List.mem_append_left _ z
      ·exact List.mem_append_right _ (List.mem_append_left _ z)
 ·have ej:j=ds.length:=by lia
  subst ej
  refine wpAny_passesOwn hp' (thn (T.done X rfl rfl rfl hcalm _ pins s3 σ3 H3 _ I3 (stat fr3) t3 jstop) fun r s4 ⟨hr,I4⟩=>?_)
  subst hr
  rw[List.drop_length] at ev3
  exact wpAny_execs_nil ⟨Γ3,ev3.symm,σ3,H3,F3,I4,fo3,rl3,E03⟩
theorem y1y(n:Nat){cnd:Expr}{body:List Stmt}{gc:G->R Bool}{gb:G->R Fl}(hp:PO' X)(hc:PTD X cnd gc)(hb:PQs X body gb):PQ X (.While cnd body [] pos) (whGo gc gb n):=by
 refine⟨fun pins s σ H F Γ I fo rl hg=>?_⟩
 have hp':=hp pins H F (whGo gc gb n Γ)
 refine wpAny_While (codeAny_whileLoop (fun m s'=>∃(σ':St) (H':Hp) (F':List Addr) (Γ':G),Inv X pins σ' H' s'/\FOk H' F'/\Rel X.K H' F' Γ' σ'/\Ext H F H' F'/\whGo gc gb m Γ'=whGo gc gb n Γ) ?_ n ⟨σ,H,F,Γ,I,fo,rl,.refl,rfl⟩)
 rintro m s1 ⟨σ1,H1,F1,Γ1,I1,fo1,rl1,E1,ev1⟩
 have hg1:whGo gc gb m Γ1 ≠ .no:=by rw[ev1];exact hg
 cases m with
 | zero=>exact absurd rfl hg1
 | succ m =>
   have evu:whGo gc gb (m+1) Γ1=lift (gc Γ1) Γ1 fun k=>if k=true then (match gb Γ1 with
    | .ok (.nx Γ')=>whGo gc gb m Γ'
    | .ok (.ct Γ')=>whGo gc gb m Γ'
    | .ok (.bk Γ')=>.ok (.nx Γ')
    | .ok (.rt d)=>.ok (.rt d)
    | .ok (.rtF d)=>.ok (.rtF d)
    | .ok (.ex c Γ')=>.ok (.ex c Γ')
    | _=>.no) else .ok (.nx Γ1):=rfl
   rw[evu] at hg1 ev1
   refine wpAny_passesOwn hp' (wpAny_mono (hc.run pins s1 σ1 H1 F1 Γ1 I1 fo1 rl1 (z0v hg1)) (fun k s2 ⟨H2,e2,I2,S2⟩=>?_) fun _ _ x=>by rw[<-ev1];exact(x.lift fo1 rl1 _).later E1)
   rw[z1v e2] at hg1 ev1
   cases k with
   | false =>
     rw[if_neg Bool.false_ne_true] at ev1 ⊢
     exact wpAny_execs_nil ⟨Γ1,ev1.symm,σ1,H2,F1,I2,fo1.same S2,rl1.same S2,E1.trans (.of_same S2)⟩
   | true =>
     rw[if_pos rfl] at ev1 hg1 ⊢
     have hgb:gb Γ1 ≠ .no:=fun z=>by rw[z] at hg1;exact hg1 rfl
     refine wpAny_passesOwn hp' (wpAny_mono (hb.run pins s2 σ1 H2 F1 Γ1 I2 (fo1.same S2) (rl1.same S2) hgb) (fun f s3 q3=>?_) fun x3 s3 q3=>?_)
     ·cases f with
      | next =>
        obtain⟨Γ7,e7,σ7,H7,F7,I7,fo7,rl7,E7⟩:=q3
        rw[e7] at ev1
        exact⟨m,Nat.lt_succ_self _,σ7,H7,F7,Γ7,I7,fo7,rl7,(E1.trans (.of_same S2)).trans E7,ev1⟩
      | cont =>
        obtain⟨Γ7,e7,σ7,H7,F7,I7,fo7,rl7,E7⟩:=q3
        rw[e7] at ev1
        exact⟨m,Nat.lt_succ_self _,σ7,H7,F7,Γ7,I7,fo7,rl7,(E1.trans (.of_same S2)).trans E7,ev1⟩
      | brk =>
        obtain⟨Γ7,e7,σ7,H7,F7,I7,fo7,rl7,E7⟩:=q3
        rw[e7] at ev1
        exact⟨Γ7,ev1.symm,σ7,H7,F7,I7,fo7,rl7,(E1.trans (.of_same S2)).trans E7⟩
      | ret v =>
        exact RtP.map q3 (E1.trans (.of_same S2)) (fun _ _ I7=>I7) (fun d7 e7=>by rw[e7] at ev1;exact ev1.symm) fun d7 e7=>by rw[e7] at ev1;exact ev1.symm
     ·obtain⟨c7,Γ7,σ7,H7,F7,e7,fl7,fo7,rl7,E7⟩:=q3
      rw[e7] at ev1
      exact⟨c7,Γ7,σ7,H7,F7,ev1.symm,fl7,fo7,rl7,(E1.trans (.of_same S2)).trans E7⟩
end
noncomputable def z8x(X:Cx)(pins:List (Addr×Obj))(σ:St)(H:Hp)(c:Er)(x:Value)(s:Shared)(fl:Value):Prop :=
 Inv X pins σ H s/\∃(e C:Addr) (oe:Obj) (vs:Array Value),x = .ref e/\X.mg c.nm=some (.ref C)/\H e=none/\X.s₀.heap.get? e=none/\e≠X.env.locals/\(∀y k,X.env.cells.lookup y=some k->k≠e)/\(∀p∈X.pn++pins,p.1≠e) /\
  s.heap.get? e=some oe/\oe.cls = .ref C/\oe.data = .fields vs/\(∃a0,vs[0]? = some a0) /\
  ∃(T:Addr) (oT:Obj) (ts:Array Value),vs[1]? = some (.ref T)/\H T=none/\X.s₀.heap.get? T=none/\T≠X.env.locals/\(∀y k,X.env.cells.lookup y=some k->k≠T)/\(∀p∈X.pn++pins,p.1≠T)/\T≠e /\
   s.heap.get? T=some oT/\oT.data = .fields ts/\ts[3]? = some fl
section
variable {X:Cx}{pins:List (Addr×Obj)}{σ:St}{H:Hp}{c:Er}{x:Value}{s:Shared}{E:Value->Shared->Prop}{Q:Unit->Shared->Prop}
theorem z8x.none(h:z8x X pins σ H c x s .none):y4d X pins σ H c x s:=by
 obtain⟨I,e,C,oe,vs,h1,h2,h3,h4,h5,h6,h7,h8,h9,h10,h11,T,oT,ts,k1,k2,k3,k4,k5,k6,k7,k8,k9,k10⟩:=h
 exact⟨I,e,C,oe,vs,h1,h2,h3,h4,h5,h6,h7,h8,h9,h10,h11,.inr ⟨T,oT,ts,k1,k2,k3,k4,k5,k6,k7,k8,k9,.inl k10⟩⟩
theorem z8x.here{L:Addr}(hf:X.env.frame=some L)(h:z8x X pins σ H c x s (rawInt L)):y4d X pins σ H c x s:=by
 obtain⟨I,e,C,oe,vs,h1,h2,h3,h4,h5,h6,h7,h8,h9,h10,h11,T,oT,ts,k1,k2,k3,k4,k5,k6,k7,k8,k9,k10⟩:=h
 exact⟨I,e,C,oe,vs,h1,h2,h3,h4,h5,h6,h7,h8,h9,h10,h11,.inr ⟨T,oT,ts,k1,k2,k3,k4,k5,k6,k7,k8,k9,.inr ⟨L,hf,k10⟩⟩⟩
theorem x2x{P:Program}{w:World}{H:Hp}{h:Heap}{a:Addr}{o:HO}(x:z6z P w H h a o):∃ob,h.get? a=some ob:=by
 cases o with
 | lst xs=>obtain⟨_,_,_,_,e⟩:=x;exact⟨_,e⟩
 | tup xs=>obtain⟨_,_,_,ob,e,_⟩:=x;exact⟨_,e⟩
 | dK kvs=>obtain⟨_,_,_,_,o,_,_,e,_⟩:=x;exact⟨_,e⟩
 | dT kvs=>obtain⟨_,_,_,_,o,_,_,e,_⟩:=x;exact⟨_,e⟩
 | set S n=>obtain⟨o,_,_,_,e,_⟩:=x;exact⟨_,e⟩
 | ins C dx fs=>obtain⟨_,_,_,e,_⟩:=x;exact⟨_,e⟩
 | own y=>exact x
 | xd fs=>obtain⟨_,⟨_,_,_,e,_⟩,_⟩:=x;exact⟨_,e⟩
 | rng lo hi=>obtain⟨_,_,_,e⟩:=x;exact⟨_,e⟩
 | frz ob u=>obtain⟨e,_⟩:=x;exact⟨_,e⟩
 | tbl ps=>exact⟨_,x⟩
 | met f y=>exact⟨_,x⟩
 | ext φ=>exact x.2.1
theorem Inv.recs{ch:List Addr}{h':Heap}(I:Inv X pins σ H s)(hch:∀b∈ch,H b=none/\X.s₀.heap.get? b=none/\b≠X.env.locals/\(∀y k,X.env.cells.lookup y=some k->k≠b)/\∀p∈X.pn++pins,p.1≠b)
 (keep:∀b o,b ∉ frs X.stack->b ∉ ch->s.heap.get? b=some o->h'.get? b=some o) (slot:∀b o,b ∉ ch->s.heap.get? b=some o->∃sl,h'.get? b=some { o with slots:=sl }):Inv X pins σ H { s with heap:=h' }:=by
 refine I.call (g':=s.gens) (t':=s.toks) (d':=s.drawn) (ch:=ch) ⟨fun b o e _ hb hc=>keep b o hb hc e,fun b o e _ _ hc=>slot b o hc e,fun _ _ _ n _=>n,fun b o e hc=>let ⟨sl,q⟩:=slot b o hc e;⟨_,q⟩,fun _ _ q=>q,fun _ _ _ q=>q,fun _ ps q=>⟨#[],by rw[q];simp⟩⟩ (fun b u e=>?_) I.bare fun b hb=>?_
 ·have tr:∀d w',H d=some w'->d ∉ frs X.stack/\d ∉ ch:=fun d w' q=>by
   refine⟨fun z=>?_,fun z=>?_⟩
   ·rw[I.stkFree d z] at q;cases q
   ·rw[(hch d z).1] at q;cases q
  refine(I.hok b u e).stay (fun d v hd q=>?_) (fun _ q=>q) fun _ _ q=>q
  rcases hd with z | z
  ·rw[z] at q ⊢;exact keep b v (tr b u e).1 (tr b u e).2 q
  ·exact keep d v (tr d _ z).1 (tr d _ z).2 q
 ·obtain⟨h1,h2,h3,h4,h5⟩:=hch b hb
  exact⟨.inr h2,h3,h4,h5⟩
noncomputable def hx(l:List Addr):Hp:=fun b=>if b∈l then some (.own 0) else none
theorem x8k{l:List Addr}{b:Addr}(h:b∈l):hx l b=some (.own 0):=by unfold hx;rw[if_pos h]
theorem x3b{l:List Addr}{b:Addr}(h:b ∉ l):hx l b=none:=by unfold hx;rw[if_neg h]
theorem z6o{h:Heap}{l:List Addr}{b:Addr}(hb:b∈l):(hidT h (hx l)).get? b=none:=by
 cases q:(hidT h (hx l)).get? b with
 | none=>rfl
 | some o =>
   have z:=(y4q q).2
   rw[x8k hb] at z;cases z
theorem y3e{L e C:Addr}{a0:Value}{ch:List Addr}{h':Heap}(hex:X.ex=[])(I:Inv X pins σ H s)(hmg:X.mg c.nm=some (.ref C))(he:e∈ch)(hch:∀b∈ch,H b=none/\X.s₀.heap.get? b=none/\b≠X.env.locals/\(∀y k,X.env.cells.lookup y=some k->k≠b)/\∀p∈X.pn++pins,p.1≠b)
 (hN:Heap.NotedW (hidT s.heap (hx (frs X.stack++ch))) X.stack e (.ref C) a0 (rawInt L) s.heap h'):z8x X pins σ H c (.ref e) { s with heap:=h' } (rawInt L):=by
 obtain⟨st,ff,⟨oe',vs',T',oT',ts',q1,⟨q2,q2'⟩,q3,q4,q5,q6,q7,q8,q9⟩,up⟩:=hN
 have keep:∀b o,b ∉ frs X.stack->b ∉ ch->s.heap.get? b=some o->h'.get? b=some o:=fun b o h1 h2 q=>st b o (y2h q (x3b fun z=>(List.mem_append.mp z).elim h1 h2))
 have slot:∀b o,b ∉ ch->s.heap.get? b=some o->∃sl,h'.get? b=some { o with slots:=sl }:=fun b o h2 q=>by
  by_cases hb:b∈frs X.stack
  ·obtain⟨_,o',ho',hnf⟩:=I.stack.mem hb
   rw[q] at ho';cases ho'
   exact up b o q hnf
  ·exact⟨o.slots,keep b o hb h2 q⟩
 have hT:H T'=none/\X.s₀.heap.get? T'=none/\T'≠X.env.locals/\(∀y k,X.env.cells.lookup y=some k->k≠T')/\∀p∈X.pn++pins,p.1≠T':=by
  cases q:s.heap.get? T' with
  | none =>
    refine⟨?_,I.gone hex q⟩
    cases z:H T' with
    | none=>rfl
    | some u =>
      obtain⟨o,eo⟩:=x2x (I.hok T' u z)
      rw[q] at eo;cases eo
  | some o =>
    have hin:T'∈frs X.stack++ch:=by
     by_cases z:T'∈frs X.stack++ch
     ·exact z
     ·have:=y2h q (x3b z)
      rw[q5] at this;cases this
    rcases List.mem_append.mp hin with z | z
    ·exfalso
     obtain⟨_,o',ho',hnf⟩:=I.stack.mem z
     rw[q] at ho';cases ho'
     obtain⟨sl,e1⟩:=up T' o q hnf
     rw[q7] at e1;cases e1
     exact hnf _ q8
    ·exact hch T' z
 obtain⟨f1,f2,f3,f4,f5⟩:=hch e he
 obtain⟨g1,g2,g3,g4,g5⟩:=hT
 exact⟨Inv.recs I hch keep slot,e,C,oe',vs',rfl,hmg,f1,f2,f3,f4,f5,q1,q2,q3,⟨a0,q2'⟩,T',oT',ts',q4,g1,g2,g3,g4,g5,q6,q7,q8,q9⟩
theorem y6d{M:Model}{L:Addr}(hex:X.ex=[])(hstk:X.stack=X.env::X.outer)(hf:X.env.frame=some L)(h:y4d X pins σ H c x s)(hQ:∀s',z8x X pins σ H c x s' (rawInt L)->Q () s'):wpAny M X.A (noteFrame x X.env) Q E s:=by
 obtain⟨I,e,C,oe,vs,h1,h2,h3,h4,h5,h6,h7,h8,h9,h10,h11,h12⟩:=h
 subst h1
 obtain⟨a0,h11⟩:=h11
 have hfr:X.A.frames=some (X.env::X.outer):=by rw[<-hstk];exact I.ok.frames
 have nfe:∀{b:Addr} {o:Obj} {ws:Array Value},s.heap.get? b=some o->o.data = .fields ws->b ∉ frs X.stack:=fun {b o ws} q1 q2 z=>by
  obtain⟨_,o',ho',hnf⟩:=I.stack.mem z
  rw[q1] at ho';cases ho'
  exact hnf _ q2
 have hl:∀ch:List Addr,s.heap.FunFrames (hidT s.heap (hx (frs X.stack++ch))) (X.env::X.outer):=fun ch=>by
  have gen:∀(l:List Env),(∀b∈frs l,b∈frs X.stack)->s.heap.FunFrames X.base l->s.heap.FunFrames (hidT s.heap (hx (frs X.stack++ch))) l:=by
   intro l
   induction l with
   | nil=>intro _ _;trivial
   | cons env r ih =>
     intro hs ⟨hk,⟨L',o,hf',hn,ho,hd⟩,hr⟩
     have m1:∀b∈frs r,b∈frs (env::r):=fun b hb=>by unfold frs at hb ⊢;rw[List.filterMap_cons,hf'];exact List.mem_cons_of_mem _ hb
     have m0:L'∈frs (env::r):=by unfold frs;rw[List.filterMap_cons,hf'];exact List.mem_cons_self
     exact⟨hk,⟨L',o,hf',z6o (List.mem_append_left _ (hs L' m0)),ho,hd⟩,ih (fun b hb=>hs b (m1 b hb)) hr⟩
  rw[<-hstk]
  exact gen X.stack (fun _ h=>h) I.stack
 have stays:∀ch:List Addr,(hidT s.heap (hx (frs X.stack++ch))).StaysIn s.heap:=fun ch b o q=>(y4q q).1
 rcases h12 with h12 | ⟨T,oT,ts,k1,k2,k3,k4,k5,k6,k7,k8,k9,k10⟩
 ·have hsz:1<vs.size:=(Array.getElem?_eq_some_iff.mp h12).1
  unfold noteFrame
  simp only[hf]
  refine wpAny_bind (wpAny_field h8 h10 h12 ?_)
  rw[if_neg (by decide)]
  refine wpAny_entryW hfr (hl [e]) hf h8 (stays [e]) (z6o (by simp)) h10 hsz h11 fun h' hN=>hQ _ ?_
  rw[h9,<-hstk] at hN
  refine y3e (ch:=[e]) hex I h2 (by simp) (fun b hb=>?_) hN
  have:b=e:=by simpa using hb
  subst this
  exact⟨h3,h4,h5,h6,h7⟩
 ·have hcc:∀b∈[e,T],H b=none/\X.s₀.heap.get? b=none/\b≠X.env.locals/\(∀y k,X.env.cells.lookup y=some k->k≠b)/\∀p∈X.pn++pins,p.1≠b:=fun b hb=>by
   have:b=e∨b=T:=by simpa using hb
   rcases this with rfl | rfl
   ·exact⟨h3,h4,h5,h6,h7⟩
   ·exact⟨k2,k3,k4,k5,k6⟩
  rcases k10 with k10 | ⟨L',hL',k10⟩
  ·refine wpAny_noteFrame_onW (cls:=.ref C) (a0:=a0) hfr (hl [e,T]) hf ⟨oe,vs,T,oT,ts,h8,⟨h9,h11⟩,h10,k1,z6o (by simp),k7,k8,k9,k10⟩ (stays [e,T]) (z6o (by simp)) fun h' hN=>hQ _ ?_
   rw[<-hstk] at hN
   exact y3e (ch:=[e,T]) hex I h2 (by simp) hcc hN
  ·rw[hf] at hL';cases hL'
   refine wpAny_noteFrame_againW (base:=hidT s.heap (hx (frs X.stack++[e,T]))) (cls:=.ref C) (a0:=a0) hf ⟨oe,vs,T,oT,ts,h8,⟨h9,h11⟩,h10,k1,z6o (by simp),k7,k8,k9,k10⟩ (hQ s ?_)
   exact⟨I,e,C,oe,vs,rfl,h2,h3,h4,h5,h6,h7,h8,h9,h10,⟨a0,h11⟩,T,oT,ts,k1,k2,k3,k4,k5,k6,k7,k8,k9,k10⟩
theorem x0b{M:Model}{A:Around}{fl:Value}{fr:Option Addr}(h:z8x X pins σ H c x s fl)(hQ:∀s',z8x X pins σ H c x s' (fr.elim .none fun f=>rawInt f)->Q () s'):wpAny M A (setFlight x fr) Q E s:=by
 obtain⟨I,e,C,oe,vs,h1,h2,h3,h4,h5,h6,h7,h8,h9,h10,h11,T,oT,ts,k1,k2,k3,k4,k5,k6,k7,k8,k9,k10⟩:=h
 subst h1
 have hsz3:3<ts.size:=(Array.getElem?_eq_some_iff.mp k10).1
 have other:∀b,b≠T->(s.heap.update T (Obj.mapFields (·.setIfInBounds 3 (fr.elim Value.none fun f=>rawInt f)))).get? b=s.heap.get? b:=fun b hb=>Heap.get?_update_other _ _ (Ne.symm hb)
 unfold setFlight
 refine wpAny_bind (wpAny_field h8 h10 k1 ?_)
 rw[if_pos (show(Value.ref T != Value.none)=true from by simp)]
 refine wpAny_setField k8 k9 hsz3 (hQ _ ⟨Inv.recs (ch:=[T]) I (fun b hb=>?_) (fun b o hb hc q=>?_) (fun b o hc q=>?_),e,C,oe,vs,rfl,h2,h3,h4,h5,h6,h7,(other e (Ne.symm k7)).trans h8,h9,h10,h11,T,_,_,k1,k2,k3,k4,k5,k6,k7,
  Heap.get?_update_self _ k8 (Obj.isFreed_of_fields (Obj.data_mapFields k9 _)),Obj.data_mapFields k9 _,by simp[hsz3]⟩)
 ·have:b=T:=by simpa using hb
  subst this
  exact⟨k2,k3,k4,k5,k6⟩
 ·have hc':b≠T:=by simpa using hc
  exact(other b hc').trans q
 ·have hc':b≠T:=by simpa using hc
  exact⟨o.slots,(other b hc').trans q⟩
theorem x7y{L:Addr}(hex:X.ex=[])(hstk:X.stack=X.env::X.outer)(hf:X.env.frame=some L):PO' X:=fun pins H F r e s' h=>by
 obtain⟨c,Γ',σ',H',F',e1,fl,fo,rl,Ex⟩:=h
 refine y6d hex hstk hf fl fun s1 f1=>?_
 obtain⟨I,e',C,oe,vs,h1,h2,h3,h4,h5,h6,h7,h8,h9,h10,h11,T,oT,ts,k1,kr⟩:=id f1
 subst h1
 show wpAny _ _ _ _ _ _
 refine wpAny_bind (wpAny_field h8 h10 k1 ?_)
 rw[if_neg (show ¬((Value.ref T==Value.none)=true) from by simp)]
 rw[hf]
 exact x0b f1 fun s2 f2=>⟨c,Γ',σ',H',F',e1,f2.here hf,fo,rl,Ex⟩
end
theorem x4z{H:Hp}:hid [] H=H:=by funext b;unfold hid;simp
theorem y2y{K:PySem.W.Frag}{H:Hp}{N:List Str}{ds:List D}{vs:List V}(i:IsAll K H ds vs):Rel K H [] (ini N.length ds) (L2.start N vs):=by
 have hl:=i.length
 have key:∀(j:Nat) (en:En),(ini N.length ds)[j]? = some en->(∃d,en = .ro d/\ds[j]? = some d)∨en = .no:=fun j en h=>by
  unfold ini at h
  by_cases hj:j<ds.length
  ·rw[List.getElem?_append_left (by simpa using hj),List.getElem?_map,List.getElem?_eq_getElem hj] at h
   cases h
   exact .inl ⟨_,rfl,List.getElem?_eq_getElem hj⟩
  ·rw[List.getElem?_append_right (by simpa using hj),List.getElem?_replicate] at h
   split at h
   ·cases h;exact .inr rfl
   ·cases h
 refine⟨?_,fun j d h=>?_,fun j es h=>?_,fun j k es fs a h1 _ _ _=>?_⟩
 ·unfold ini L2.start
  simp[hl]
 ·rcases key j _ h with ⟨d',e,hd⟩ | e
  ·cases e
   obtain⟨v,hv,iv⟩:=i.get hd
   refine⟨v,?_,by rw[x4z];exact iv⟩
   unfold L2.start
   rw[List.getElem?_append_left (by rw[List.length_map];exact(List.getElem?_eq_some_iff.mp hv).1),List.getElem?_map,hv];rfl
  ·cases e
 ·rcases key j _ h with ⟨d',e,_⟩ | e<;>cases e
 ·rcases key j _ h1 with ⟨d',e,_⟩ | e<;>cases e
section
variable {P:Program}{w:World}{K:PySem.W.Frag}{mg:Str->Option Value}{base:Heap}
noncomputable abbrev y0s (P:Program) (w:World) (K:PySem.W.Frag) (mg:Str->Option Value) (base:Heap) (N:List Str) (qual:Str) (st:Stmt) (f:Addr) (cdv:Value) (A:Around) (outer:List Env) (s:Shared) (H:Hp) (E:XK):Cx :=
 cxOf (CXE P w) P w K mg base N qual (z0d st) f cdv A outer s H E
theorem y9n{N:List Str}{qual:Str}{st:Stmt}{f:Addr}{cdv:Value}{A:Around}{outer:List Env}{s s':Shared}{H H':Hp}{E:XK}{pins:List (Addr×Obj)}{σ':St}{F':List Addr}{c:Er}{x:Value}
 (fl:y4d (y0s P w K mg base N qual st f cdv A outer s H E) pins σ' H' c x s') (hE:∀C,mg c.nm=some (.ref C)->E (.ref C) none H'):(y0s P w K mg base N qual st f cdv A outer s H E).xe x s':=by
 show wpAny _ _ (leaving _ x) _ _ s'
 unfold leaving
 refine wpAny_bind (y6d (L:=s.heap.objs.size) rfl rfl rfl fl fun s1 f1=>?_)
 refine x0b (fr:=none) f1 fun s2 f2=>?_
 obtain⟨I,e,C,oe,vs,h1,h2,h3,h4,h5,h6,h7,h8,h9,h10,h11,T,oT,ts,k1,k2,k3,k4,k5,k6,k7,k8,k9,k10⟩:=f2
 exact⟨e,C,T,oe,oT,vs,ts,H',h1,I.os,I.bare,I.base,I.hok,h3,h4,h8,h9,h10,h11,k1,k2,k3,k7,k8,k9,k10,hE C h2⟩
theorem z1b{x qual:Str}{st:Stmt}{f:Addr}{fd:FuncData}{N ps:List Str}{k:Nat}{φ:List D->R D}(Fu:Fun K x qual st f fd)(S:FnScope N ps (z0d st))(hb:z1j K fd ps [])(hlen:∀ds,φ ds ≠ .no->ds.length=ps.length)
 (hbody:∀(cdv:Value) (A:Around) (outer:List Env) (s:Shared) (H:Hp) (E:XK),Room k (y0s P w K mg base N qual st f cdv A outer s H E).A->∃g,PQs (y0s P w K mg base N qual st f cdv A outer s H E) (z0l st) g/\∀ds,φ ds ≠ .no->fin (g (ini N.length ds))=φ ds) :
 FnD P w K mg base (k+1) f fd ps φ:=by
 refine⟨?_,hb,Fu.kp⟩
 obtain⟨oc,od,kV,doc,pm,an,cdv,ct,osl,rfl,lk,hcd⟩:=Fu.ex
 refine x2g lk hcd S (fun vs H Q E h=>?_) fun A outer s H vs Q E hr hsp=>?_
 ·obtain⟨ds,i,hne,_⟩:=h
  rw[<-i.length];exact hlen ds hne
 obtain⟨g,hq,hg⟩:=hbody cdv A outer s H E hr
 obtain⟨ds,i,hne,hok,her⟩:=hsp
 have e0:=hg ds hne
 refine⟨fun D' σ' H'=>D'={ nx:=fun _ H'=>Q .non H',rt:=Q }/\σ'=L2.start N vs/\H'=H,?_,rfl,rfl,rfl⟩
 intro pins s1 σ1 H1 D1 I hw
 obtain⟨rfl,rfl,rfl⟩:=hw
 have hgne:g (ini N.length ds) ≠ .no:=fun z=>hne (by rw[<-e0,z];rfl)
 refine wpAny_mono (hq.run pins s1 (L2.start N vs) H1 [] (ini N.length ds) I FOk.nil (y2y i) hgne) (fun fl s' q=>?_) fun x' s' q=>?_
 ·cases fl with
  | next =>
    obtain⟨Γ',e1,σ',H',F',I',_,_,Ex⟩:=q
    exact⟨σ',H',I',hok .non .non H' (by rw[<-e0,e1];rfl) Ex.same (Is.non_iff.mpr rfl)⟩
  | ret u =>
    obtain⟨v,σ',H',F',I',rv,Ex,⟨d,e1,iv⟩ | ⟨es,a,xs,e1,ev,hn,ha,ia⟩⟩:=q
    ·exact⟨v,σ',H',I',rv,hok d v H' (by rw[<-e0,e1];rfl) Ex.same iv⟩
    ·exact absurd (by rw[<-e0,e1];rfl) hne
  | brk=>obtain⟨Γ',e1,_⟩:=q;exact absurd (by rw[<-e0,e1];rfl) hne
  | cont=>obtain⟨Γ',e1,_⟩:=q;exact absurd (by rw[<-e0,e1];rfl) hne
 ·obtain⟨c,Γ',σ',H',F',e1,fl,fo,rl,Ex⟩:=q
  exact y9n (F':=F') fl fun C hC=>her c C H' (by rw[<-e0,e1];rfl) hC Ex.same
theorem x3e{x qual:Str}{st:Stmt}{f:Addr}{fd:FuncData}{N ps:List Str}{k:Nat}{φ:List D->R (List D)}(Fu:Fun K x qual st f fd)(S:FnScope N ps (z0d st))(hb:z1j K fd ps [])(hlen:∀ds,φ ds ≠ .no->ds.length=ps.length)
 (hbody:∀(cdv:Value) (A:Around) (outer:List Env) (s:Shared) (H:Hp) (E:XK),Room k (y0s P w K mg base N qual st f cdv A outer s H E).A->∃g,PQs (y0s P w K mg base N qual st f cdv A outer s H E) (z0l st) g/\∀ds,φ ds ≠ .no->finF (g (ini N.length ds))=φ ds) :
 FnF P w K mg base (k+1) f fd ps φ:=by
 refine⟨?_,hb,Fu.kp⟩
 obtain⟨oc,od,kV,doc,pm,an,cdv,ct,osl,rfl,lk,hcd⟩:=Fu.ex
 refine x2g lk hcd S (fun vs H Q E h=>?_) fun A outer s H vs Q E hr hsp=>?_
 ·obtain⟨ds,i,hne,_⟩:=h
  rw[<-i.length];exact hlen ds hne
 obtain⟨g,hq,hg⟩:=hbody cdv A outer s H E hr
 obtain⟨ds,i,hne,hok,her⟩:=hsp
 have e0:=hg ds hne
 refine⟨fun D' σ' H'=>D'={ nx:=fun _ H'=>Q .non H',rt:=Q }/\σ'=L2.start N vs/\H'=H,?_,rfl,rfl,rfl⟩
 intro pins s1 σ1 H1 D1 I hw
 obtain⟨rfl,rfl,rfl⟩:=hw
 have hgne:g (ini N.length ds) ≠ .no:=fun z=>hne (by rw[<-e0,z];rfl)
 refine wpAny_mono (hq.run pins s1 (L2.start N vs) H1 [] (ini N.length ds) I FOk.nil (y2y i) hgne) (fun fl s' q=>?_) fun x' s' q=>?_
 ·cases fl with
  | next =>
    obtain⟨Γ',e1,_⟩:=q
    exact absurd (by rw[<-e0,e1];rfl) hne
  | ret u =>
    obtain⟨v,σ',H',F',I',rv,Ex,⟨d,e1,iv⟩ | ⟨es,a,xs,e1,ev,hn,ha,ia⟩⟩:=q
    ·exact absurd (by rw[<-e0,e1];rfl) hne
    ·subst ev
     exact⟨.ref a,σ',H',I',rv,hok es a xs H' (by rw[<-e0,e1];rfl) Ex.same (hn.elim (fun z=>absurd z (by simp)) fun z=>z) ha ia⟩
  | brk=>obtain⟨Γ',e1,_⟩:=q;exact absurd (by rw[<-e0,e1];rfl) hne
  | cont=>obtain⟨Γ',e1,_⟩:=q;exact absurd (by rw[<-e0,e1];rfl) hne
 ·obtain⟨c,Γ',σ',H',F',e1,fl,fo,rl,Ex⟩:=q
  exact y9n (F':=F') fl fun C hC=>her c C H' (by rw[<-e0,e1];rfl) hC Ex.same
theorem z3d{N:List Str}{qual:Str}{st:Stmt}{f:Addr}{cdv:Value}{A:Around}{outer:List Env}{s:Shared}{H:Hp}{E:XK}:PO' (y0s P w K mg base N qual st f cdv A outer s H E):=x7y (L:=s.heap.objs.size) rfl rfl rfl
end
section
variable {X:Cx}{e a b c:Expr}{g ga gb gc:G->R D}{pos p:Pos}
theorem x7l{pins:List (Addr×Obj)}{σ:St}{H:Hp}{s:Shared}{A:Around}{E:Value->Shared->Prop}{Q:Value->Shared->Prop}{d:D}{v:V}{u cv:Value}{b:Bool}(I:Inv X pins σ H s)(hnx:d.noX=true)(i:Is X.K H d v)(r:RelV v u)(e:PySem.W.kitOne X.K (.type d.ty) cv=some b)(h:∀tk,Q (.bool b) { s with toks:=tk }) :
 wpAny (model X.prog X.w) A (call (.builtin "isinstance") [u,cv]) Q E s:=by
 cases d with
 | non=>rw[Is.non_iff.mp i] at r;cases (show u=Value.none from r);exact PySem.W.kia_one PySem.W.kitx_none I.kIn True.intro e (fun z=>nomatch z) h
 | bl y=>rw[Is.bl_iff.mp i] at r;cases (show u=Value.bool y from r);exact PySem.W.kia_one PySem.W.kitx_bool I.kIn True.intro e (fun z=>nomatch z) h
 | int y=>rw[Is.int_iff.mp i] at r;obtain⟨t,q⟩:=(show ∃t,u=Value.int y t from r);cases q;exact PySem.W.kia_one PySem.W.kitx_int I.kIn True.intro e (fun z=>nomatch z) h
 | str y=>rw[Is.str_iff.mp i] at r;obtain⟨t,q⟩:=(show ∃t,u=Value.str y t from r);cases q;exact PySem.W.kia_one PySem.W.kitx_str I.kIn True.intro e (fun z=>nomatch z) h
 | tup ds =>
   obtain⟨a,xs,rfl,h1,_⟩:=Is.tup_iff.mp i
   cases (show u=Value.ref a from r)
   obtain⟨its,_,⟨o,ho,hc,_⟩,_⟩:=I.tuple h1
   exact PySem.W.kia_one PySem.W.kitx_tuple I.kIn ⟨o,ho,hc⟩ e (fun z=>nomatch z) h
 | lst ds =>
   obtain⟨a,xs,rfl,h1,_⟩:=Is.lst_iff.mp i
   cases (show u=Value.ref a from r)
   obtain⟨its,_,⟨o,n,ho,hc,_⟩,_⟩:=I.list h1
   exact PySem.W.kia_one PySem.W.kitx_list I.kIn ⟨o,ho,hc⟩ e (fun z=>nomatch z) h
 | dct =>
   obtain⟨a,ob,rfl,h1,h2⟩:∃a ob,v=V.ref a/\H a=some (.frz ob (.own 0))/\ob.cls = .type "dict":=by unfold Is at i;exact i
   cases (show u=Value.ref a from r)
   exact PySem.W.kia_one PySem.W.kitx_dict I.kIn ⟨ob,(I.hok a _ h1).1,h2⟩ e (fun z=>nomatch z) h
 | exc c=>simp[D.noX] at hnx
theorem x2w{y:Str}{py:Pos}{cv:Value}(f:String->Bool)(ha:PD X a ga)(hm:X.mg "isinstance"=none)(hb:∀{E:Value->Shared->Prop} {pins σ H s} {Q:Value->Shared->Prop},Inv X pins σ H s->Q cv s->wpAny (model X.prog X.w) X.A (eval (.Name y py) X.env) Q E s)
 (hk:∀d:D,d.noX=true->PySem.W.kitOne X.K (.type d.ty) cv=some (f d.ty)) (hg:Gl X "isinstance":=by rfl)
 (he:starEach [a,.Name y py] X.env=(false,eval a X.env)::(false,eval (.Name y py) X.env)::[]:=by rfl) (hpl:(backTo pos (starEach [.Name y py] X.env)).any (·.1)=false:=by rfl) (he2:starEach [.Name y py] X.env=[(false,eval (.Name y py) X.env)]:=by rfl) :
 PD X (.Call (.Name "isinstance" p) [a,.Name y py] [] pos) (gIsi f ga):=by
 refine⟨fun pins s σ H F Γ I fo rl hgg=>?_⟩
 refine wpAny_Call_Name_kw (z6c I hg hm (by decide +kernel:bootBuiltins "isinstance"=some (.builtin "isinstance")) ?_ (by decide) (by decide))
 refine PyProof.Rows.callWith_builtin1 ?_ (by rw[he,he2]) hpl
 rw[he]
 show wpAny _ _ (spliced ((false,eval a X.env)::backTo pos [(false,eval (.Name y py) X.env)])) _ _ s
 refine Calls.spliced_cons (wpAny_mono (ha.run pins s σ H F Γ I fo rl (R.left hgg)) (fun u s1 ⟨d,v,H1,e1,I1,r1,S1,i1⟩=>?_) fun _ _ x=>x.bind _)
 show wpAny _ _ (spliced ((false,eval (.Name y py) X.env)::backTo pos [])) _ _ s1
 refine Calls.spliced_cons (hb I1 (Calls.spliced_nil ?_))
 obtain⟨hnx,e2⟩:=x5h (R.next hgg e1)
 exact x7l I1 hnx i1 r1 (hk d hnx) fun tk=>Post.bind e1 S1 ⟨.bl (f d.ty),.bl (f d.ty),H1,e2,I1.tok _,rfl,.refl _,Is.bl_iff.mpr rfl⟩
theorem x8j{K:PySem.W.Frag}(d:D)(h:d.noX=true):PySem.W.kitOne K (.type d.ty) (.type "int")=some (z6e d.ty):=by cases d<;>first | rfl | (simp[D.noX] at h)
theorem x7j{K:PySem.W.Frag}(d:D)(h:d.noX=true):PySem.W.kitOne K (.type d.ty) (.type "bool")=some (z4c d.ty):=by cases d<;>first | rfl | (simp[D.noX] at h)
theorem z9u{x:Str}{i:Int}{u:Value}(hm:X.mg x=some u)(hu:∃t,u = .int i t)(hg:Gl X x:=by rfl)(hd:(x==("__debug__":Str))=false:=by decide):PD X (.Name x pos) (gC (.int i)) :=
 x4a hg hm (v:=.int i) hu (fun _=>Is.int_iff.mpr rfl) hd
end
theorem FnF.mono{P:Program}{w:World}{K:PySem.W.Frag}{mg:Str->Option Value}{base:Heap}{j k:Nat}{f:Addr}{fd:FuncData}{ps:List Str}{φ:List D->R (List D)}(F:FnF P w K mg base j f fd ps φ)(h:j<=k):FnF P w K mg base k f fd ps φ:=⟨F.ok.mono h,F.binds,F.kp⟩
noncomputable def spN(φ:List D->R D)(K:PySem.W.Frag):Sp:=fun vs H Q _=>∃ds d,IsAll K H ds vs/\φ ds = .ok d/\(∀v H',Same H H'->Is K H' d v->Q v H')
theorem x5v{φ:List D->R D}{K:PySem.W.Frag}{mg:Str->Option Value}{vs:List V}{H:Hp}{Q:VK}{E:XK}(h:spN φ K vs H Q E):spD K mg φ vs H Q E:=by
 obtain⟨ds,d,i,e,q⟩:=h
 exact⟨ds,i,(by rw[e];exact(fun z=>nomatch z)),(fun d' v H' e' S iv=>by rw[e] at e';cases e';exact q v H' S iv),(fun c C H' e'=>by rw[e] at e';cases e')⟩
theorem FnD.okN{P:Program}{w:World}{K:PySem.W.Frag}{mg:Str->Option Value}{base:Heap}{k:Nat}{f:Addr}{fd:FuncData}{ps:List Str}{φ:List D->R D}(F:FnD P w K mg base k f fd ps φ):FnOk P w K mg base (CXE P w) k f fd ps (spN φ K) :=
 F.ok.imp fun _ _ _ _ h=>x5v h
theorem law_true{c:List D->R D}(hc:∀ns:List Int,ns.length<=63->c [.lst (ns.map D.int)] = .ok (.bl true)){K:PySem.W.Frag}{H:Hp}{a:Addr}{ns:List Int}(hl:ns.length<=63)(hS:SqL K H a (ns.map V.int)):spN c K [.ref a] H (fun v _=>v = .bl true) fun _ _ _=>False :=
 ⟨[.lst (ns.map D.int)],.bl true,IsAll.cons (Is.lst_iff.mpr ⟨a,_,rfl,hS,IsAll.ints ns⟩) IsAll.nil,hc ns hl,fun v H' _ iv=>Is.bl_iff.mp iv⟩
theorem cxe_false{P:Program}{w:World}{H:Hp}{s:Shared}{e:Value}{s':Shared}(h:CXE P w [] H s (fun _ _ _=>False) e s'):False:=by
 obtain⟨_,_,_,_,_,_,_,_,_,_,_,_,_,_,_,_,_,_,_,_,_,_,_,_,_,_,z⟩:=h
 exact z
theorem walk_ofL{l:PySem.W.OpenLaw}{n k:Nat}{q:Program}{loose:List Str}{XP:(Str->Option Value)->Heap->Prop}{YP:World->Heap->Prop}{d:DefRec}{K:Params->PySem.W.Frag}{CX:World->CXT}(sp:PySem.W.Frag->Sp){x:Str}
 (hn:l.most=some n) (hn2:n<=sizeLine) (hdf:d.params.defaults=[]) (hr:Room k callerA)
 (hY:∀(w:World) (h:Heap),YP w h->(K w.params).In h)
 (F:∀(w:World) (mg:Str->Option Value) (fa:Addr) (h:Heap),(K w.params).In h->h.Ns mainGlobals mg->mg d.name=some (.ref fa) ->
   ∃fd:FuncData,(∀(s:Shared) (u:Value),BindsTo s fd ⟨[u],[]⟩ [(x,u)]) /\
    ∀base:Heap,(K w.params).In base->base.Ns mainGlobals mg->FnOk l.prog w (K w.params) mg base (CX w) k fa fd [x] (sp (K w.params)))
 (hsp:∀(K:PySem.W.Frag) (H:Hp) (a:Addr) (ns:List Int),ns.length<=n->SqL K H a (ns.map V.int)->sp K [.ref a] H (fun v _=>v = .bl true) fun _ _ _=>False)
 (hCX:∀(w:World) (H:Hp) (s:Shared) (e:Value) (s':Shared),CX w [] H s (fun _ _ _=>False) e s'->False) :
 PySem.W.WalkO q loose XP YP l.row.toRowW d [] (fun f vs=>PySem.call f vs) :=
 walk_of (K:=K) (CX:=CX) (sp:=fun w=>sp (K w.params)) hn hn2 hdf hr hY F (fun w H a ns h1 _ h3=>hsp (K w.params) H a ns h1 h3) hCX
end L3
namespace L3
open PySem PySem.Spec PyProof.Rows L2
section
variable {X:Cx}{tg a b c:Expr}{ga gb gc:G->R D}
end
section
variable {prog:Program}{w:World}{A:Around}{E:Value->Shared->Prop}{s:Shared}
open HT in
theorem z7j{t sl:Addr}{items:Array Value}{vl vu:Value}{lo hi:Option Int}{Q:Value->Shared->Prop}(ht:IsTup s.heap t items)(hs:s.heap.IsSliceOf sl vl vu .none)(pl:IsPart vl lo)(pu:IsPart vu hi)
 (hw:HT.sIx items.size 0 lo=0/\HT.sIx items.size items.size hi=items.size) (h:Q (.ref t) s):wpAny (model prog w) A (getItem (.ref t) (.ref sl)) Q E s:=by
 obtain⟨os,hos,hcs,hds⟩:=id hs
 have hTs:s.TypeIs (.ref sl) "slice":=⟨os,hos,hcs⟩
 unfold getItem
 try with_reducible refine wpAny_holding ?_
 first | refine wpAny_bind (wpAny_pure ?_) | skip
 refine wpAny_bind (wpAny_sequenceKey ht.typeIs (by decide) ?_)
 refine wpAny_bind (wpAny_callSpecial?_slot (name:=Str.ofString "__getitem__") ht.typeIs PyProof.Rows.slot_tuple_getitem
  (wpAny_call_entry PyProof.Rows.slot_tuple_getitem ht.typeIs entry_tuple_getitem ?_ (args_tuple_getitem _ _)))
 show wpAny _ _ (Builtin.Tuple.tupleItemsOf (.ref t)>>=_) _ _ s
 refine wpAny_bind (tupleItemsOf_ ht ?_)
 refine wpAny_bind (wpAny_typeOf hTs ?_)
 rw[if_pos (by decide)]
 refine wpAny_bind (z5z hs pl pu ?_)
 have hyes:(((HT.sIx items.size 0 lo:Nat):Int)==0&&(1:Int)==1&&(HT.sIx items.size items.size hi-HT.sIx items.size 0 lo)==items.size)=true:=by
  rw[hw.1,hw.2];simp
 show wpAny _ _ (if (((HT.sIx items.size 0 lo:Nat):Int)==0&&(1:Int)==1&&(HT.sIx items.size items.size hi-HT.sIx items.size 0 lo)==items.size)=true then _ else _) _ _ s
 rw[if_pos hyes]
 unfold Builtin.Tuple.tupleIsExact
 refine wpAny_bind (wpAny_bind (wpAny_typeOf ht.typeIs ?_))
 refine wpAny_pure ?_
 rw[if_pos (by decide)]
 exact wpAny_bind (wpAny_rule (wpAny_pure ⟨_,rfl,wpAny_pure h⟩))
end
section
variable {X:Cx}{e a b c:Expr}{g ga gb gc:G->R D}{lo hi:Option Expr}{gl gh:G->R (Option Int)}{pos p2:Pos}
noncomputable def rSlW(K:PySem.W.Frag):V->Option Int->Option Int->Hp->VK->Prop:=fun x lo hi H Q=>∃a xs,x = .ref a/\SqT K H a xs/\(HT.sIx xs.length 0 lo=0/\HT.sIx xs.length xs.length hi=xs.length)/\Q (.ref a) H
theorem x3k:SlR X (rSlW X.K):=by
 intro pins s σ H x v vl vu lo hi sl Q I rx hs pl pu h
 obtain⟨a,xs,rfl,hx,hw,q⟩:=h
 cases rx
 obtain⟨its,r,ht,hz⟩:=I.tuple hx
 have hlen:its.toArray.size=xs.length:=by rw[List.size_toArray];exact r.length.symm
 refine⟨"tuple",_,PyProof.Rows.slot_tuple_getitem.lookup,ht.typeIs,?_⟩
 exact z7j ht hs pl pu (by rw[hlen];exact hw) ⟨.ref a,H,I,rfl,q⟩
structure POD (X:Cx) (e:Option Expr) (g:G->R (Option Int)):Prop where
 run:∀(pins:List (Addr×Obj)) (s:Shared) (σ:St) (H:Hp) (F:List Addr) (Γ:G),Inv X pins σ H s->FOk H F->Rel X.K H F Γ σ->g Γ ≠ .no ->
  wpAny (model X.prog X.w) X.A (evalPart e X.env) (fun u s'=>∃o H',g Γ = .ok o/\Inv X pins σ H' s'/\IsPart u o/\Same H H') (z1m X pins σ H (g Γ)) s
theorem podN:POD X none gON:=⟨fun pins s σ H F Γ I fo rl hg=>by
 rw[evalPart_none]
 exact wpAny_pure ⟨none,H,rfl,I,.none,.refl _⟩⟩
theorem podS(h:PD X e g):POD X (some e) (gOS g):=⟨fun pins s σ H F Γ I fo rl hg=>by
 rw[evalPart_some]
 refine wpAny_mono (h.run pins s σ H F Γ I fo rl (R.left hg)) (fun u s1 ⟨d,x,H1,e1,I1,r1,S1,i1⟩=>?_) fun _ _ x=>x.bind _
 have hg1:=R.next hg e1
 cases d with
 | int i =>
   rw[Is.int_iff.mp i1] at r1
   obtain⟨t,rfl⟩:=(show ∃t,u=Value.int i t from r1)
   exact⟨some i,H1,R.step e1 _,I1,.int i t,S1⟩
 | _=>exact absurd rfl hg1⟩
theorem IsAll.cut{K:PySem.W.Frag}{H:Hp}{ds:List D}{xs:List V}(h:IsAll K H ds xs)(lo hi:Option Int):IsAll K H (cutL ds lo hi) (cutV xs lo hi):=by
 have hl:=h.length
 unfold cutL cutV
 rw[hl]
 exact(h.drop _).take _
theorem x5x{r:V->Option Int->Option Int->Hp->VK->Prop}(hr:SlR X.nox r)(ha:PD X a ga)(hl:POD X lo gl)(hh:POD X hi gh){pins:List (Addr×Obj)}{s:Shared}{σ:St}{H:Hp}{F:List Addr}{Γ:G}(I:Inv X pins σ H s)(fo:FOk H F)(rl:Rel X.K H F Γ σ)
 {α:Type} {rr:R α} {k:D->Option Int->Option Int->R α} (hrr:rr=(ga Γ>>=fun d=>gl Γ>>=fun l=>gh Γ>>=fun h=>k d l h)) (hg:rr ≠ .no) {Q:Value->Shared->Prop}
 (hq:∀d x l h H3,k d l h ≠ .no->rr=k d l h->Same H H3->Is X.K H3 d x->FOk H3 F->Rel X.K H3 F Γ σ->r x l h H3 fun z H'=>∀u s',Inv X pins σ H' s'->RelV z u->Q u s') :
 wpAny (model X.prog X.w) X.A (eval (.Subscript a (.Slice lo hi none p2) pos) X.env) Q (z1m X pins σ H rr) s:=by
 subst hrr
 refine Subscript_ (wpAny_mono (ha.run pins s σ H F Γ I fo rl (R.left hg)) (fun v s1 ⟨d,x,H1,e1,I1,r1,S1,i1⟩=>?_) fun _ _ x=>x.bind _)
 have hg1:=R.next hg e1
 refine wpAny_Slice (wpAny_mono (hl.run pins s1 σ H1 F Γ I1 (fo.same S1) (rl.same S1) (R.left hg1)) (fun vl s2 ⟨l,H2,e2,I2,pl,S2⟩=>?_) fun _ _ x=>z1m.later e1 S1 (x.bind _))
 have hg2:=R.next hg1 e2
 refine wpAny_mono (hh.run pins s2 σ H2 F Γ I2 ((fo.same S1).same S2) ((rl.same S1).same S2) (R.left hg2)) (fun vu s3 ⟨h,H3,e3,I3,pu,S3⟩=>?_) fun _ _ x=>z1m.later e1 S1 (z1m.later e2 S2 (x.bind _))
 have hg3:=R.next hg2 e3
 have S03:=(S1.trans S2).trans S3
 rw[evalPart_none]
 refine wpAny_pure ?_
 have I4:Inv X pins σ H3 { s3 with heap:=s3.heap.push { cls:=.type "slice",data:=.fields #[vl,vu,.none] } }:=I3.kept (t':=s3.toks) fun b ob q=>Heap.get?_push_of_some _ q
 obtain⟨T,id,hT,ht,hgi⟩:=hr pins { s3 with heap:=s3.heap.push { cls:=.type "slice",data:=.fields #[vl,vu,.none] } } σ H3 x v vl vu l h s3.heap.objs.size _ (I4.wish _) r1 (Heap.IsSliceOf.new ..) pl pu (hq d x l h H3 hg3 ((R.step e1 _).trans ((R.step e2 _).trans (R.step e3 _))) S03 ((i1.same S2).same S3) (fo.same S03) (rl.same S03))
 show wpAny (model X.prog X.w) X.A (subscriptTail a (.Slice lo hi none p2) v (.ref s3.heap.objs.size)) _ _ { s3 with heap:=s3.heap.push { cls:=.type "slice",data:=.fields #[vl,vu,.none] } }
 refine tail_any (ops:=[.ref s3.heap.objs.size,v]) ht hT (wpAny_mono hgi (fun u s5 ⟨z,H5,I5,rz,q5⟩=>q5 u s5 I5.unwish rz) fun _ _ z=>False.elim z) (by with_unfolding_all rfl)
theorem x6m(ha:PD X a ga)(hl:POD X lo gl)(hh:POD X hi gh):PD X (.Subscript a (.Slice lo hi none p2) pos) (gSl ga gl gh):=⟨fun pins s σ H F Γ I fo rl hg =>
 x5x (SlR.or (SlR.or x5w x3k) x3l) ha hl hh I fo rl (k:=dCut) rfl hg fun d x l h H3 hk er S i fo3 rl3=>by
  cases d with
  | tup ds =>
    obtain⟨p,xs,rfl,h1,h2⟩:=Is.tup_iff.mp i
    by_cases hw:HT.sIx xs.length 0 l=0/\HT.sIx xs.length xs.length h=xs.length
    ·refine .inl (.inr ⟨p,xs,rfl,h1,hw,fun u s' I' rz=>⟨_,.ref p,H3,er,I',rz,S,Is.tup_iff.mpr ⟨p,xs,rfl,h1,?_⟩⟩⟩)
     have:=h2.cut l h
     unfold cutV at this
     rw[hw.1,hw.2,List.drop_zero,Nat.sub_zero,List.take_length] at this
     exact this
    ·refine .inl (.inl ⟨p,xs,rfl,h1,hw,fun q hq u s' I' rz=>?_⟩)
     have S2:=z1k hq (.tup (cutV xs l h))
     exact⟨_,.ref q,_,er,I',rz,S.trans S2,Is.tup_iff.mpr ⟨q,_,rfl,SqT.of z0m,(h2.cut l h).same S2⟩⟩
  | lst ds =>
    obtain⟨p,xs,rfl,h1,h2⟩:=Is.lst_iff.mp i
    refine .inr ⟨p,xs,rfl,h1,fun q hq u s' I' rz=>?_⟩
    have S2:=z1k hq (.lst (cutV xs l h))
    exact⟨_,.ref q,_,er,I',rz,S.trans S2,Is.lst_iff.mpr ⟨q,_,rfl,SqL.of z0m,(h2.cut l h).same S2⟩⟩
  | _=>exact absurd rfl hk⟩
end
end L3
namespace L3
open PySem PySem.Spec PyProof.Rows L2
section
variable {prog:Program}{w:World}{A:Around}{E:Value->Shared->Prop}{s:Shared}
theorem z8j{h h':Heap}{l it:Addr}{items:Array Value}(hl:h.IsList l items)(hk:∀b o,b≠it->h.get? b=some o->h'.get? b=some o)(hne:l≠it):h'.IsList l items:=by
 obtain⟨o,e,r⟩:=hl
 exact⟨o,hk l o hne e,r⟩
theorem y3n{it t:Addr}{items:Array Value}(hne:t≠it):∀(n i:Nat) (s:Shared) (Q:List Value->Shared->Prop),s.heap.IsListIter it t i->s.heap.IsList t items->i+n<=items.size ->
 (∀h',h'.IsListIter it t (i+n)->Heap.SameBut it s.heap h'->Q ((items.toList.drop i).take n) { s with heap:=h' })->wpAny (model prog w) A (draw (.ref it) n) Q E s
 | 0,i,s,Q,hit,_,_,hQ=>by
   show wpAny _ _ (pure []) Q E s
   exact wpAny_pure (by simpa using hQ s.heap hit (Heap.SameBut.refl ..))
 | n+1,i,s,Q,hit,ht,hle,hQ=>by
   have hlt:i<items.size:=by lia
   show wpAny _ _ (pyNext (.ref it)>>=_) Q E s
   refine wpAny_bind (wpAny_pyNext_list_item hit ht (x:=items[i]) (by simp[hlt]) fun h₁ hit₁ hs₁=>?_)
   refine wpAny_bind (wpAny_holding (y3n hne n (i+1) _ _ hit₁ (z8j ht (fun b o hb e=>hs₁.extBut b o hb e) hne) (by lia) fun h₂ hit₂ hs₂=>wpAny_pure ?_))
   have hd:items.toList.drop i=items[i]::items.toList.drop (i+1):=by simp[List.drop_eq_getElem_cons,hlt]
   have:=hQ h₂ (by rw[show i+(n+1)=i+1+n by lia];exact hit₂) (hs₁.trans hs₂)
   rw[hd,List.take_succ_cons] at this
   exact this
theorem z8y{t:Addr}{items:Array Value}{Q:List Value->Shared->Prop}(hh:A.handled=none)(ht:s.heap.IsList t items)
 (hQ:∀h',Heap.ExtBut s.heap.objs.size s.heap h'->Q items.toList { s with heap:=h' }):wpAny (model prog w) A (unpackItems (.ref t) items.size none) Q E s:=by
 have hlt:t≠s.heap.objs.size:=by obtain⟨o,ho,_⟩:=ht;exact Nat.ne_of_lt (Heap.lt_size ho)
 have hpush:∀o:Obj,(s.heap.push o).IsList t items:=fun o=>z8j (it:=s.heap.objs.size) ht (fun b u _ e=>Heap.get?_push_of_some _ e) hlt
 unfold unpackItems
 refine wpAny_bind ?_
 ·unfold notIterableAtAll
  refine wpAny_bind (wpAny_specialOf ht.typeIs slot_list_iter.lookup ?_)
  refine wpAny_pure ?_
  simp only[Bool.false_eq_true,if_false]
  refine wpAny_bind (wpAny_holding (wpAny_pyIter_list ht ?_))
  refine wpAny_bind (wpAny_holding (y3n hlt items.size 0 _ _ ⟨_,Heap.get?_push_size _ rfl,rfl,rfl⟩ (hpush _) (by lia) fun h₁ hit₁ hs₁=>?_))
  have hall:List.take items.size (List.drop 0 items.toList)=items.toList:=by
   rw[List.drop_zero];exact List.take_of_length_le (by simp)
  rw[hall]
  rw[if_neg (by simp)]
  have ht₁:h₁.IsList t items:=z8j (hpush _) (fun b o hb e=>hs₁.extBut b o hb e) hlt
  refine wpAny_bind (wpAny_holding (wpAny_pyNext_list_end hh hit₁ ht₁ (by simp) fun h₂ he₂=>?_))
  simp only[Option.isSome_none,Bool.false_eq_true,if_false]
  refine wpAny_pure (hQ h₂ fun b o hb e=>he₂ b o hb (hs₁.extBut b o hb (Heap.get?_push_of_some _ e)))
theorem z8s{env:Env}{elts:List Expr}{x1}{pos:Pos}{t:Addr}{items:Array Value}{Q:Unit->Shared->Prop}(hh:A.handled=none)(ht:s.heap.IsList t items)
 (hn:(assignEach elts env).length=items.size) (hstar:(assignEach elts env).findIdx? (·.1)=none)
 (h:∀h',Heap.ExtBut s.heap.objs.size s.heap h'->wpAny (model prog w) A (assignInOrder ((assignEach elts env).map (·.2)) items.toList) Q E { s with heap:=h' }) :
 wpAny (model prog w) A (assign (.Tuple elts x1 pos) env (.ref t)) Q E s:=by
 rw[assign_Tuple]
 refine wpAny_bind (wpAny_standAt ?_)
 unfold unpack
 rw[hn,hstar]
 exact wpAny_bind (wpAny_holding (z8y hh ht h))
end
noncomputable def setV:List Nat->List V->St->St
 | i::is,v::vs,σ=>setV is vs (σ.set i (some v))
 | _,_,σ=>σ
theorem Rel.setAll{K:PySem.W.Frag}{H:Hp}{F:List Addr}:∀(is:List Nat) (ds:List D) (vs:List V) (Γ:G) (σ:St),IsAll K (hid F H) ds vs->Rel K H F Γ σ->Rel K H F (L3.setAll is ds Γ) (setV is vs σ)
 | [],_,_,Γ,σ,_,r=>by unfold L3.setAll setV;exact r
 | _::_,[],vs,Γ,σ,h,r=>by rw[IsAll.nil_iff.mp h];unfold L3.setAll setV;exact r
 | i::is,d::ds,vs,Γ,σ,h,r=>by
   obtain⟨x,xs,rfl,hx,t⟩:=IsAll.cons_iff.mp h
   unfold L3.setAll setV
   exact Rel.setAll is ds xs _ _ t (r.set_ro hx)
section
variable {X:Cx}{e:Expr}{g:G->R D}{pos pt:Pos}
end
noncomputable def bmV:List Value:=[.type "ValueError",.type "Exception",.type "BaseException",.type "object"]
noncomputable def x7r(h:Heap)(C:Addr):Prop:=∃bm N nm q bs hdct sn sub ab col dd k0 k1 k2 k3 k5 mN,h.get? C=some (excClassObj nm q C N bs bm hdct sn sub ab col dd k0 k1 k2 k3 k5 "ValueError.__new__")/\h.Ns N mN/\mN "__init__"=none/\OwnTail h bmV bm
theorem x0d{K:PySem.W.Frag}{h:Heap}{C:Addr}(X:K.In h)(q:PySem.W.excIn K C bmV "ValueError.__new__"=true):x7r h C:=by
 unfold PySem.W.excIn at q
 cases e:K.lookup C with
 | none=>rw[e] at q;cases q
 | some o =>
   rw[e] at q
   obtain⟨cls,dd,data,sl⟩:=o
   split at q
   ·rename_i heq
    obtain⟨rfl,rfl,rfl,rfl⟩:cls=_/\dd=_/\data=_/\sl=_:=by
     have z:=Option.some.inj heq
     injection z with z1 z2 z3 z4
     exact⟨z1,z2,z3,z4⟩
    split at q
    ·rename_i hm hs
     rename_i cd xa xb C' bm k0 k1 k2 k3 n k5
     simp only[Bool.and_eq_true,beq_iff_eq,Bool.not_eq_true'] at q
     obtain⟨⟨⟨⟨⟨q1,q2⟩,q3⟩,q4⟩,q5⟩,q6⟩:=q
     obtain⟨nm,bs,mro,ns,qn,hd,sn,sub,ab,col,del⟩:=cd
     subst q1 q2
     have h1:mro = .ref C'::bm:=hm
     have h2:del=false:=q3
     subst h1 h2
     have h3:sl=#[k0,k1,k2,k3,some (.builtin "ValueError.__new__"),k5]:=by
      cases sl with | mk l=>exact congrArg Array.mk hs
     subst h3
     exact⟨bm,ns,nm,qn,bs,hd,sn,sub,ab,col,dd,k0,k1,k2,k3,k5,_,X _ _ e,.of_isNs (PySem.W.isNs_of_in X q5),PySem.W.nsMap_none_of_in X q5 q6,PySem.W.tail_of_in X q4⟩
    ·cases q
   ·cases q
structure XOk (K:PySem.W.Frag) (mg:Str->Option Value) (c:Er) (C:Addr):Prop where
 ns:PySem.W.nsIn K mainGlobals c.nm=some (some (.ref C))
 mg:mg c.nm=some (.ref C)
 ex:PySem.W.excIn K C bmV "ValueError.__new__"=true
section
variable {X:Cx}{e:Expr}{g:G->R D}{pos np cpos:Pos}
theorem x8l{pins:List (Addr×Obj)}{σ:St}{H:Hp}{s:Shared}{q:Addr}(I:Inv X pins σ H s)(hq:s.heap.get? q=none):H q=none:=by
 cases e:H q with
 | none=>rfl
 | some o=>obtain⟨ob,h⟩:=x2x (I.hok q o e);rw[hq] at h;cases h
theorem z5m{c:Er}{C:Addr}{x:Str}{d:D}(hX:XOk X.K X.mg c C)(he:PD X e (gC d))(hc:X.calm=true)(hex:X.ex=[]:=by rfl)(hxn:x=c.nm:=by rfl)(hg:Gl X x:=by rfl)(hdb:(x==("__debug__":Str))=false:=by decide)
 (hs:starEach [e] X.env=(false,eval e X.env)::starEach [] X.env:=by rfl):PQ X (.Raise (some (.Call (.Name x np) [e] [] cpos)) none pos) (z3w c):=by
 refine⟨fun pins s σ H F Γ I fo rl _=>?_⟩
 subst hxn
 obtain⟨bm,N,nm,q,bs,hdct,sn,sub,ab,col,dd,k0,k1,k2,k3,k5,mN,hC,hN,hni,T⟩:=x0d I.mod.kin hX.ex
 refine wpAny_Raise_call_subT (C:=C) (nm:=nm) (q:=q) (N:=N) (bs:=bs) (bm:=bm) (hdct:=hdct) (sn:=sn) (sub:=sub) (ab:=ab) (col:=col) (dd:=dd) (k0:=k0) (k1:=k1) (k2:=k2) (k3:=k3) (k5:=k5)
  PySem.F.excBase_ValueError (mN:=mN) (T.hasType PySem.F.excBase_ValueError.hasBase) (I.ok.hd hc) (by rw[hs];rfl) hni (y0e I hg hX.mg ⟨rfl,?_⟩ hdb)
 rw[hs]
 refine Calls.evalArgs_plain (Calls.spliced_cons (wpAny_mono (he.run pins s σ H F Γ I fo rl (fun z=>nomatch z)) (fun u s1 ⟨d',v,H1,e1,I1,r1,S1,i1⟩=>Calls.spliced_nil ?_) fun x s1 ⟨c',H',e',_⟩=>by cases e'))
 refine⟨rfl,by show 1<=sizeLine;decide,I1.bk _ _ hC,hN.keeps I1.bk,T.keeps I1.bk,fun h' en M=>?_⟩
 obtain⟨t,hte,ht0,ht1⟩:=M.there
 have I2:Inv X pins σ H1 { s1 with heap:=h' }:=I1.kept (t':=s1.toks) fun b o q=>M.keeps b o q
 obtain⟨g1,g2,g3,g4⟩:=I1.gone hex M.new
 exact⟨c,Γ,σ,H1,F,rfl,⟨I2,en,C,_,_,rfl,hX.mg,x8l I1 M.new,g1,g2,g3,g4,hte,rfl,rfl,⟨_,rfl⟩,.inl rfl⟩,fo.same S1,rl.same S1,.of_same S1⟩
end
section
variable {K:PySem.W.Frag}{M:Model}{A:Around}{E:Value->Shared->Prop}{s:Shared}
end
structure XCls (K:PySem.W.Frag) (C:Addr):Prop where
 ga:PySem.W.findIn K (.ref C) "__getattribute__"=some (some (.builtin "BaseException.__getattribute__"))
 gn:PySem.W.findIn K (.ref C) "__getattr__"=some none
 cl:PySem.W.findIn K (.ref C) "__class__"=some (some (.builtin "object.__class__"))
 mo:PySem.W.mroIn K C (.type "object")=some true
 mb:PySem.W.mroIn K C (.type "BaseException")=some true
 ty:PySem.W.typeIn K (.ref C)=some (.type "type")
 is:(PySem.W.clsIn K C).isSome=true
section
variable {K:PySem.W.Frag}{prog:Program}{w:World}{A:Around}{E:Value->Shared->Prop}{s:Shared}{a C:Addr}{o:Obj}
end
section
variable {X:Cx}{pos p pn:Pos}
structure PCl (X:Cx) (es:List Expr) (vs:List Value):Prop where
 run:∀{E:Value->Shared->Prop} {pos:Pos} {pins:List (Addr×Obj)} {σ:St} {H:Hp} {s:Shared} {Q:List Value->Shared->Prop},Inv X pins σ H s->Q vs s->wpAny (model X.prog X.w) X.A (spliced (backTo pos (starEach es X.env))) Q E s
theorem y8r{e:Expr}{g:G->R D}(he:PD X e g)(hs:swapsWith e none pos.line X.env=pure false:=by rfl):PQ X (.Expr e pos) (gEx g):=⟨fun pins s σ H F Γ I fo rl hg =>
 wpAny_Expr_any (wpAny_mono (he.run pins s σ H F Γ I fo rl (z0v hg)) (fun u s1 ⟨d,v,H',e1,I',rv,S,i⟩=>⟨Γ,z1v e1,σ,H',F,I',fo.same S,rl.same S,.of_same S⟩) fun _ _ x=>x.lift fo rl _) I.quiet hs⟩
noncomputable def mk(X:Cx)(v:Value):Cx:={ X with A:=X.A.mark (some v),calm:=false }
end
section
variable {X:Cx}{pos np hpos:Pos}
structure ErrOk (X:Cx) (B:Addr):Prop where
 cl:XCls X.K B
 ns:∀(c:Er) (C:Addr),X.mg c.nm=some (.ref C)->PySem.W.nsIn X.K mainGlobals c.nm=some (some (.ref C))/\PySem.W.mroIn X.K C (.ref B)=some true
end
section
variable {X:Cx}{pos p pn:Pos}
end
section
variable {X:Cx}{e a b c:Expr}{g ga gb gc:G->R D}{pos pos':Pos}{es:List Expr}{gs:G->R (List D)}
end
section
variable {P:Program}{w:World}{K:PySem.W.Frag}{mg:Str->Option Value}{base:Heap}
theorem y0n{x qual:Str}{st:Stmt}{f:Addr}{fd:FuncData}{N ps:List Str}{k:Nat}(Fu:Fun K x qual st f fd)(S:FnScope N ps (z0d st))(hb:z1j K fd ps []):FnD P w K mg base (k+1) f fd ps (fun _=>.no):=by
 refine⟨?_,hb,Fu.kp⟩
 obtain⟨oc,od,kV,doc,pm,an,cdv,ct,osl,rfl,lk,hcd⟩:=Fu.ex
 exact x2g lk hcd S (fun vs H Q E h=>absurd rfl h.choose_spec.2.1) fun A outer s H vs Q E hr hsp=>absurd rfl hsp.choose_spec.2.1
end
section
variable {X:Cx}{e a b c:Expr}{g ga gb gc:G->R D}{pos pos' p p2:Pos}{es:List Expr}{gs:G->R (List D)}{lo hi:Option Expr}{gl gh:G->R (Option Int)}
end
section
variable {X:Cx}{e a b c:Expr}{g ga gb gc:G->R D}{lo:Option Expr}{gl:G->R (Option Int)}{pos p2 p3:Pos}
end
section
variable {X:Cx}
theorem y9f:OpD X (binaryOp .Mult) y3p:=od_I (C:=z6w) (d:=fun i j=>.int (i*j)) (fun _ _ _ _=>Is.int_iff.mpr rfl) (v:=fun i j=>.int (i*j)) (opI fun _ _ _ _ _ _ _ hc q=>mul_int q (by
 have key:∀{k:Int},k.natAbs<bigN->Builtin.Int.intBits k<=4000:=fun {k} h=>PyProof.Rows.intBits_le (Nat.lt_of_lt_of_le h (by unfold bigN;decide +kernel))
 exact PyProof.Rows.mulOk_of_bits (key hc.1) (key hc.2) (by decide)))
theorem x7o:y0y X (.builtin "abs") dAbs:=by
 refine⟨_,x2l (X:=X.nox),fun H xs ds i hg=>?_⟩
 unfold dAbs at hg
 split at hg
 ·rename_i k
  obtain⟨v,rfl,h⟩:=z7c i
  exact⟨k,by rw[Is.int_iff.mp h],_,rfl,.refl _,Is.int_iff.mpr rfl⟩
 ·exact absurd rfl hg
theorem x7m:y0y X (.type "int") dInt:=by
 refine⟨_,x0n (X:=X.nox),fun H xs ds i hg=>?_⟩
 unfold dInt at hg
 split at hg
 ·rename_i k
  obtain⟨v,rfl,h⟩:=z7c i
  exact .inl ⟨k,by rw[Is.int_iff.mp h],_,rfl,.refl _,Is.int_iff.mpr rfl⟩
 ·rename_i k
  obtain⟨v,rfl,h⟩:=z7c i
  exact .inr ⟨k,by rw[Is.bl_iff.mp h],_,rfl,.refl _,Is.int_iff.mpr rfl⟩
 ·exact absurd rfl hg
end
section
variable {X:Cx}{e a b c:Expr}{g ga gb gc:G->R D}{lo:Option Expr}{st:Expr}{gl gt:G->R (Option Int)}{pos p2 p3:Pos}
end
theorem Is.isNon{K:PySem.W.Frag}{H:Hp}{d:D}{v:V}(h:Is K H d v):decide (v = .non)=d.isNon:=by
 cases d with
 | non=>rw[Is.non_iff.mp h];rfl
 | bl b=>rw[Is.bl_iff.mp h];rfl
 | int b=>rw[Is.int_iff.mp h];rfl
 | str b=>unfold Is at h;rw[h];rfl
 | tup ds=>obtain⟨a,xs,rfl,_⟩:=Is.tup_iff.mp h;rfl
 | lst ds=>obtain⟨a,xs,rfl,_⟩:=Is.lst_iff.mp h;rfl
 | dct=>unfold Is at h;obtain⟨a,ob,rfl,_⟩:=h;rfl
 | exc c=>unfold Is at h;obtain⟨a,ob,C,rfl,_⟩:=h;rfl
section
variable {X:Cx}{a b:Expr}{pos:Pos}
theorem x6i{ga:G->R (List D)}{gb:G->R D}(ha:PF X a ga)(hb:PD X b gb):PF X (.BinOp a .Mult b pos) (gRep ga gb):=by
 refine⟨fun pins s σ H F Γ I fo rl hg=>?_⟩
 refine wpAny_BinOp (wpAny_mono (ha.run pins s σ H F Γ I fo rl (R.left hg)) (fun v s1 ⟨dx,a1,xs,H1,e1,I1,r1,S1,n1,h1,i1⟩=>?_) fun _ _ x=>x.bind _)
 have hg1:=R.next hg e1
 refine wpAny_mono (hb.run pins s1 σ H1 F Γ I1 (fo.same S1) (rl.same S1) (R.left hg1)) (fun u s2 ⟨dy,y,H2,e2,I2,r2,S2,i2⟩=>?_) fun _ _ x=>z1m.later e1 S1 (x.bind _)
 have hgx:=R.next hg1 e2
 cases dy with
 | int k =>
   obtain⟨⟨hc1,hc2,hc3⟩,e3⟩:=R.guard_ne (show R.guard (0<=k/\k<1000000/\dx.length*k.toNat<=1000) (.ok (List.replicate k.toNat dx).flatten) ≠ .no from hgx)
   subst r1
   have hxl:=i1.length
   have hz:xs.length*k.toNat<=sizeLine:=by rw[<-hxl];exact z4i hc3
   refine wpAny_mono (x6q (X:=X.nox) pins s2 σ H2 (.ref a1) y _ _ (fun z H'=>∃l,z = .ref l/\H2 l=none/\H'=upd H2 l (.lst (List.replicate k.toNat xs).flatten)) (I2.wish _) rfl r2 ⟨a1,k,xs,rfl,Is.int_iff.mp i2,S2 _ _ h1,by lia,by lia,hz,fun l hl=>⟨l,rfl,hl,rfl⟩⟩) (fun u s' ⟨z,H',I',rz,l,ez,hl,eH⟩=>?_) fun _ _ z=>False.elim z
   subst ez eH
   have S3:=z1k hl (.lst (List.replicate k.toNat xs).flatten)
   have up:IsAll X.K (hid (l::F) (upd H2 l (.lst (List.replicate k.toNat xs).flatten))) dx xs:=by
    refine i1.same fun b o hb=>?_
    obtain⟨z1,z2⟩:=z2a hb
    have z3:=S2 _ _ z2
    have hbl:b≠l:=z0p z3 hl
    rw[z1d fun z=>(List.mem_cons.mp z).elim hbl fun z'=>z1 (List.mem_cons_of_mem _ z'),z0k hbl]
    exact z3
   exact⟨_,l,_,_,(R.step e1 _).trans ((R.step e2 _).trans e3),I'.unwish,rz,(S1.trans S2).trans S3,S1.free (S2.free hl),z0m,up.rep _⟩
 | _=>exact absurd rfl hgx
end
section
variable {X:Cx}{e a b c:Expr}{g ga gb gc:G->R D}{pos pos' p p2:Pos}{es:List Expr}{gs:G->R (List D)}
theorem z9y:OpD X (binaryOp .FloorDiv) y0o:=od_I (C:=fun i j=>0<j/\j.natAbs<bigN) (d:=fun i j=>.int (i/j)) (fun _ _ _ _=>Is.int_iff.mpr rfl) (v:=fun i j=>.int (i/j)) (opI fun i j _ _ _ _ _ hc q=>by
 have h1:(0:Int)<j:=hc.1
 have h2:j.natAbs<bigN:=hc.2
 have h0:j.natAbs≠0:=by lia
 have h3:j.natAbs<2^9000:=Nat.lt_trans h2 (by unfold bigN;decide +kernel)
 exact floordiv_int (by lia) (by rw[Int.fdiv_eq_ediv_of_nonneg i (by lia)];exact q) (.inl (PyProof.noPylong_of_log2 ((Nat.log2_lt h0).mpr h3))))
theorem x2h{a b:Int}(ha:0<=a)(hb:0<=b)(h:b≥((Builtin.Int.intBits a:Nat):Int)):a/2^b.toNat=0:=by
 obtain⟨n,rfl⟩:=Int.eq_ofNat_of_zero_le ha
 obtain⟨k,rfl⟩:=Int.eq_ofNat_of_zero_le hb
 have hk:n<2^k:=by
  unfold Builtin.Int.intBits at h
  by_cases hn:n=0
  ·subst hn;exact Nat.two_pow_pos k
  ·rw[Int.natAbs_natCast,if_neg (by simpa using hn)] at h
   exact(Nat.log2_lt hn).mp (by lia)
 rw[Int.toNat_natCast]
 exact Int.ediv_eq_zero_of_lt (Int.natCast_nonneg n) (by exact_mod_cast hk)
theorem x6w:OpD X (binaryOp .RShift) dShr:=od_I (C:=fun i j=>0<=i/\0<=j) (d:=fun i j=>.int (i/2^j.toNat)) (fun _ _ _ _=>Is.int_iff.mpr rfl) (v:=fun i j=>.int (i/2^j.toNat)) (opI fun i j _ _ _ _ _ hc q=>by
 have h1:(0:Int)<=i:=hc.1
 have h2:(0:Int)<=j:=hc.2
 by_cases hb:j≥((Builtin.Int.intBits i:Nat):Int)
 ·refine AutoIntOps.rshift_1 (by lia) hb ?_
  rw[if_neg (by lia),<-x2h h1 h2 hb]
  exact q
 ·refine AutoIntOps.rshift_2 (by lia) hb ?_
  rw[Int.fdiv_eq_ediv_of_nonneg i (Int.le_of_lt (Int.pow_pos (by lia)))]
  exact q)
theorem x4b{apos cpos:Pos}(ha:PD X a ga)
 (hbase:attributeBase a "bit_length" X.env (eval a X.env)=eval a X.env:=by rfl)
 (hfew:((backTo cpos (starEach [] X.env)).all (fun x=>!x.1)&&(backToKw cpos (keywordEach [] X.env)).all (fun x=>x.1.isSome)
   && decide (([]:List Expr).length+([]:List Keyword).length+(if ([]:List Keyword).isEmpty then 0 else 1)<30))=true:=by rfl)
 (hline:(apos.endLine==cpos.line)=true:=by rfl) (hs:starEach [] X.env=[]:=by rfl) :
 PD X (.Call (.Attribute a "bit_length" apos) [] [] cpos) (y4y ga):=by
 refine⟨fun pins s σ H F Γ I fo rl hg=>?_⟩
 refine wpAny_Call_method_late hbase hfew hline rfl (wpAny_mono (ha.run pins s σ H F Γ I fo rl (R.left hg)) (fun v s1 ⟨d,x,H1,e1,I1,r1,S1,i1⟩=>?_) fun _ _ x=>x.bind _)
 have hg1:=R.next hg e1
 cases d with
 | int i =>
   rw[Is.int_iff.mp i1] at r1
   obtain⟨t,rfl⟩:=r1
   refine⟨"int",_,PySem.F.plainAttrs_int,slot_int_bit_length,type_int_bit_length,typeIs_int _ _ _,(fun _ e=>nomatch e),?_⟩
   rw[hs]
   refine Calls.callWith_builtin rfl ?_
   show wpAny _ _ (evalArgs (Value.builtin "int.bit_length") true [] []) _ _ s1
   refine PyProof.Rows.evalArgs_nil3 ?_
   exact call_int_bit_length (Post.bind e1 S1 ⟨.int (x0q i),.int (x0q i),H1,rfl,I1.tok _,⟨_,rfl⟩,.refl _,Is.int_iff.mpr rfl⟩)
 | _=>exact absurd rfl hg1
end
section
variable {X:Cx}{e a b c:Expr}{g ga gb gc:G->R D}{pos pos' p p2:Pos}{es:List Expr}{gs:G->R (List D)}
structure PADr (X:Cx) (es:List Expr) (g:G->R (List D)):Prop where
 run:∀(pos:Pos) (pins:List (Addr×Obj)) (s:Shared) (σ:St) (H:Hp) (F:List Addr) (Γ:G),Inv X pins σ H s->FOk H F->Rel X.K H F Γ σ->g Γ ≠ .no ->
  wpAny (model X.prog X.w) X.A (spliced (backTo pos (starEach es X.env))) (fun us s'=>∃ds vs H',g Γ = .ok ds/\Inv X pins σ H' s'/\Vals vs us/\Same H H'/\IsAll X.K (hid F H') ds vs) (z1m X pins σ H (g Γ)) s
end
noncomputable def z9h(N:List Str)(env:Env)(x0 y:Str)(scope:Scope):Bool :=
 decide (scope.kind = .function)&&scope.names.all (fun p=>decide (p.2 ≠ .cell)&&(decide (p.2 ≠ .local)||decide (scope.names.lookup p.1=some .local))&&(decide (p.2 ≠ .free)||((env.cells.lookup p.1).isSome&&(decide (env.scope.names.lookup p.1=some .cell)||decide (env.scope.names.lookup p.1=some .free)))))
  && decide (scope.names.lookup x0=some .local/\scope.names.lookup y=some .local/\x0≠y/\(x0 ∉ N∨y ∉ N))&&decide (scope.names.lookup (("":Str))=none)&&N.all (fun z=>decide (scope.names.lookup z≠some .local)||decide (z=x0∨z=y))&&decide ((∀z∈N,z≠("":Str))∨(x0 ∉ N/\y ∉ N))
structure CompOk2 (N:List Str) (env:Env) (x0 y:Str) (scope:Scope):Prop where
 kind:scope.kind = .function
 nocell:∀p∈scope.names,p.2 ≠ .cell
 names:∀p∈scope.names,p.2 = .local->scope.names.lookup p.1=some .local
 free:∀p∈scope.names,p.2 = .free->(∃c,env.cells.lookup p.1=some c)/\(env.scope.names.lookup p.1=some .cell∨env.scope.names.lookup p.1=some .free)
 loc:scope.names.lookup x0=some .local/\scope.names.lookup y=some .local/\x0≠y/\(x0 ∉ N∨y ∉ N)
 nil:scope.names.lookup (("":Str))=none
 only:∀z∈N,scope.names.lookup z=some .local->z=x0∨z=y
 none:(∀z∈N,z≠("":Str))∨(x0 ∉ N/\y ∉ N)
theorem y1o{N:List Str}{env:Env}{x0 y:Str}{scope:Scope}(h:z9h N env x0 y scope=true):CompOk2 N env x0 y scope:=by
 unfold z9h at h
 simp only[Bool.and_eq_true,List.all_eq_true,Bool.or_eq_true,decide_eq_true_eq] at h
 obtain⟨⟨⟨⟨⟨h1,h2⟩,h3⟩,h4⟩,h5⟩,h6⟩:=h
 refine⟨h1,fun p hp=>(h2 p hp).1.1,fun p hp e=>((h2 p hp).1.2).resolve_left fun z=>z e,fun p hp e=>?_,h3,h4,fun z hz e=>(h5 z hz).resolve_left fun q=>q e,h6⟩
 have q:=((h2 p hp).2).resolve_left fun z=>z e
 exact⟨Option.isSome_iff_exists.mp q.1,q.2⟩
noncomputable def z1e(X:Cx)(x0 y:Str)(scope:Scope)(C:Addr)(s₂:Shared)(H₂:Hp)(fp:List Addr)(pn:List (Addr×Obj)):Cx :=
 { X with N:=x0::y::X.N.map (fun z=>if z=x0∨z=y then ("":Str) else z),s₀:=s₂,H₀:=H₂,env:=compEnvC scope (capt X.env scope.names []) C X.env,outer:=X.stack,ex:=fp,fn:=fun _=>false,pn:=pn,xe:=fun _ _=>False }
theorem y7r{X:Cx}{x0 y:Str}{scope:Scope}{C Dd:Addr}{fp:List Addr}{pins pl:List (Addr×Obj)}{σ σ':St}{H₂ H':Hp}{s₂ s1:Shared}{xs:List V}{its:List Value}{n:Nat}(I:Inv X pins σ H₂ s₂)
 (J:Inv (z1e X x0 y scope C s₂ H₂ fp (X.pn++pins)) pl σ' H' s1) (hD:s₂.heap.objs.size<=Dd) (hn:H' Dd=none) (hd:s1.heap.get? Dd=some { cls:=.type "list",data:=.seq its.toArray n }) (rv:Vals xs its) (hz:xs.length<=sizeLine) (hf:∀b∈fp,FpOk X pins H₂ b) :
 Inv X pins σ (upd H' Dd (.lst xs)) s1:=by
 have os:s1.os=s₂.os:=J.os
 have un:Un (frs X.stack) fp H₂ H' s₂.heap s1.heap:=J.base
 have hok:HOk X.prog X.w H' s1.heap:=J.hok
 have bare:AllBare s1.gens:=J.bare
 clear J
 obtain⟨hh,gg,dd,tt,os'⟩:=s1
 obtain rfl:os'=s₂.os:=os
 have neD:∀b o,s₂.heap.get? b=some o->b≠Dd:=fun b o e=>Nat.ne_of_lt (Nat.lt_of_lt_of_le (Heap.lt_size e) hD)
 refine I.call (h':=hh) (g':=gg) (d':=dd) (t':=tt) (ch:=fp) ⟨un.keep,un.slot,fun b o e n' hx=>?_,un.there,fun b ys e=>?_,fun b o u e=>?_,fun b ps e=>?_⟩ (y6c hok hn ⟨hz,its,n,rv,hd⟩) bare fun b hb=>?_
 ·rw[z0k (neD b o e)];exact un.free b o e n' hx
 ·have q:=un.tups b ys e
  rw[z0k (z0p q hn)];exact q
 ·have q:=un.frzs b o u e
  rw[z0k (z0p q hn)];exact q
 ·obtain⟨more,q⟩:=un.tbls b ps e
  exact⟨more,by rw[z0k (z0p q hn)];exact q⟩
 ·obtain⟨f0,f1,f2,f3,f4,f5⟩:=hf b hb
  exact⟨f3.imp_right fun z=>Heap.get?_none_of_le z,f1,f4,f5⟩
theorem x2j{X:Cx}{x0 y:Str}{scope:Scope}{C:Addr}{fp:List Addr}{pins:List (Addr×Obj)}{σ:St}{H₂:Hp}{s₂:Shared}(I:Inv X pins σ H₂ s₂)(c:CompOk2 X.N X.env x0 y scope)(hC:s₂.heap.objs.size<=C)(hf:∀b∈fp,FpOk X pins H₂ b)(ho:∀b∈fp,b<s₂.heap.objs.size) :
 (z1e X x0 y scope C s₂ H₂ fp (X.pn++pins)).Ok:=by
 have cells:∀x k,(capt X.env scope.names []).lookup x=some k->X.env.cells.lookup x=some k:=fun x k e=>by
  rcases z3k scope.names [] (PySem.mem_of_lookup e) with q | q
  ·simp at q
  ·exact q
 refine⟨I.ok.mod,c.kind,I.ok.glob,I.ok.blt,hC,fun x z k h1 h2=>I.ok.inj x z k (cells x k h1) (cells z k h2),fun x hx=>?_,fun x k h _=>absurd h (by simp[z1e]),I.ok.hd,I.ok.frames,.inl rfl,fun b hb=>?_,I.bs,Nat.le_trans I.ok.bsz I.sz,fun b o e hb=>?_,fun b hb z=>?_,I.stack,I.stkFree⟩
 ·have hx':(relabel scope X.env).names.lookup x=some .cell∨(relabel scope X.env).names.lookup x=some .free:=hx
  have hm:∃k,(x,k)∈scope.names/\(k = .free∨k = .cell):=by
   rcases hx' with q | q <;>
   ·have m:=PySem.mem_of_lookup q
    unfold relabel at m
    simp only[List.mem_map] at m
    obtain⟨⟨n,k⟩,hm,e⟩:=m
    by_cases hc:(k==NameKind.free&&X.env.scope.kind == .function&&X.env.kindOf n==some .cell)=true
    ·rw[if_pos hc] at e
     have e1:n=x:=congrArg Prod.fst e
     subst e1
     rw[Bool.and_eq_true,Bool.and_eq_true] at hc
     exact⟨k,hm,.inl (x1x hc.1.1)⟩
    ·rw[if_neg hc] at e
     have e1:n=x:=congrArg Prod.fst e
     have e2:=congrArg Prod.snd e
     dsimp only at e2
     subst e1 e2
     exact⟨_,hm,by first | exact .inr rfl | exact .inl rfl⟩
  obtain⟨k,hm,hk⟩:=hm
  rcases hk with rfl | rfl
  ·obtain⟨⟨a,ea⟩,_⟩:=c.free _ hm rfl
   obtain⟨c',h1,_⟩:=z1y (z5y ea scope.names [] hm)
   exact⟨c',h1⟩
  ·exact absurd rfl (c.nocell _ hm)
 ·refine⟨Nat.ne_of_lt (Nat.lt_of_lt_of_le (ho b hb) hC),fun x k e=>(hf b hb).2.2.2.2.1 x k (cells x k e)⟩
 ·rcases(hf b hb).2.2.2.1 with z | z
  ·exact I.ok.noex b o e z
  ·exact absurd (Nat.lt_of_lt_of_le (Nat.lt_of_lt_of_le (Heap.lt_size e) I.ok.bsz) z) (Nat.lt_irrefl _)
 ·rcases List.mem_cons.mp (I.stkSub b z) with q | q
  ·exact(hf b hb).2.1 q
  ·exact(hf b hb).2.2.1 q
section
variable {X:Cx}{x0 y:Str}{scope:Scope}
theorem y5f{C Dd:Addr}{fp:List Addr}{pins:List (Addr×Obj)}{σ:St}{H₂:Hp}{s₂:Shared}{h₁:Heap}{tk:Nat}{oD:Obj}{m:Str->Option Value}(I:Inv X pins σ H₂ s₂)(c:CompOk2 X.N X.env x0 y scope)(hC:s₂.heap.objs.size<=C)(hD:s₂.heap.objs.size<=Dd)(hDC:Dd≠C)(hf:∀b∈fp,FpOk X pins H₂ b)(ho:∀b∈fp,b<s₂.heap.objs.size)
 (old:∀b o,s₂.heap.get? b=some o->h₁.get? b=some o) (hns:h₁.Ns C m) (hd:h₁.get? Dd=some oD) (hdd:∀v,oD.data ≠ .cell v) :
 Inv (z1e X x0 y scope C s₂ H₂ fp (X.pn++pins)) [(Dd,oD)] (none::none::σ) H₂ { s₂ with heap:=h₁,toks:=tk }:=by
 have cells:∀x k,(capt X.env scope.names []).lookup x=some k->X.env.cells.lookup x=some k:=fun x k e=>by
  rcases z3k scope.names [] (PySem.mem_of_lookup e) with q | q
  ·simp at q
  ·exact q
 have nstk:∀b,s₂.heap.objs.size<=b->b ∉ frs X.stack:=fun b hb z=>by
  rcases List.mem_cons.mp (I.stkSub b z) with q | q
  ·exact absurd (Nat.lt_of_lt_of_le I.lt (by rw[<-q];exact hb)) (Nat.lt_irrefl _)
  ·exact I.nofs hb q
 refine⟨x2j I c hC hf ho,rfl,I.bare,Un.kept old,⟨m,hns,fun i x v e1 e2 e3=>?_⟩,fun x k e=>?_,I.hok.fresh hC,fun x k e=>I.freeC x k (cells x k e),fun p hp=>?_,I.hok.kept old,?_⟩
 ·cases i with
  | zero=>simp at e2
  | succ i =>
  cases i with
  | zero=>simp at e2
  | succ i =>
    have e2':σ[i]? = some (some v):=by simpa using e2
    have e1':(X.N.map (fun z=>if z=x0∨z=y then ("":Str) else z))[i]? = some x:=by simpa [z1e] using e1
    rw[List.getElem?_map] at e1'
    cases hz:X.N[i]? with
    | none=>rw[hz] at e1';cases e1'
    | some z =>
      rw[hz] at e1'
      simp only[Option.map_some,Option.some.injEq] at e1'
      have e3':Vis (relabel scope X.env) x:=e3
      have look0:∀{k:NameKind},(relabel scope X.env).names.lookup x=some k->∃k',(x,k')∈scope.names/\(k'=k∨(k' = .free/\k = .cell)):=fun {k} q=>by
       have m':=PySem.mem_of_lookup q
       unfold relabel at m'
       simp only[List.mem_map] at m'
       obtain⟨⟨n,k0⟩,hm,e⟩:=m'
       by_cases hc:(k0==NameKind.free&&X.env.scope.kind == .function&&X.env.kindOf n==some .cell)=true
       ·rw[if_pos hc] at e
        have e1:n=x:=congrArg Prod.fst e
        have e2:=congrArg Prod.snd e
        dsimp only at e2
        subst e1 e2
        rw[Bool.and_eq_true,Bool.and_eq_true] at hc
        exact⟨k0,hm,.inr ⟨x1x hc.1.1,rfl⟩⟩
       ·rw[if_neg hc] at e
        have e1:n=x:=congrArg Prod.fst e
        have e2:=congrArg Prod.snd e
        dsimp only at e2
        subst e1 e2
        exact⟨_,hm,.inl rfl⟩
      have inames:∀k',(x,k')∈scope.names->x≠("":Str):=fun k' hm z=>by
       subst z
       obtain⟨c',h1,_⟩:=z1y hm
       rw[c.nil] at h1;cases h1
      have ne:x≠("":Str):=by
       rcases e3' with q | q | q<;>(obtain⟨k',hm,_⟩:=look0 q;exact inames k' hm)
      by_cases hzy:z=x0∨z=y
      ·rw[if_pos hzy] at e1';exact absurd e1'.symm ne
      ·rw[if_neg hzy] at e1'
       subst e1'
       have fr:(z,NameKind.free)∈scope.names:=by
        rcases e3' with q | q | q
        ·obtain⟨k',hm,hk⟩:=look0 q
         rcases hk with rfl | ⟨_,hk⟩
         ·exact absurd (c.only z (List.mem_of_getElem? hz) (c.names _ hm rfl)) hzy
         ·cases hk
        ·obtain⟨k',hm,hk⟩:=look0 q
         rcases hk with rfl | ⟨rfl,_⟩
         ·exact absurd rfl (c.nocell _ hm)
         ·exact hm
        ·obtain⟨k',hm,hk⟩:=look0 q
         rcases hk with rfl | ⟨_,hk⟩
         ·exact hm
         ·cases hk
       obtain⟨⟨ca,eca⟩,hv⟩:=c.free _ fr rfl
       obtain⟨m0,hn0,hl0⟩:=I.loc
       obtain⟨u,ru,lk⟩:=hl0 i z v hz e2' (.inr hv)
       refine⟨u,ru,?_⟩
       rcases lk with ⟨q,_⟩ | ⟨_,k,ek,hk⟩
       ·exfalso
        have q':X.env.scope.names.lookup z=some .local:=q
        rcases hv with w | w<;>(rw[q'] at w;cases w)
       ·obtain⟨c',h1,_⟩:=z1y (z5y ek scope.names [] fr)
        have h2:=cells z c' h1
        rw[ek] at h2;cases h2
        refine .inr ⟨?_,k,h1,?_⟩
        ·rcases e3' with q | q | q
         ·exfalso
          obtain⟨k',hm,hk'⟩:=look0 q
          rcases hk' with rfl | ⟨_,hk'⟩
          ·exact hzy (c.only z (List.mem_of_getElem? hz) (c.names _ hm rfl))
          ·cases hk'
         ·exact .inl q
         ·exact .inr q
        ·obtain⟨o,ho',hd'⟩:=hk
         exact⟨o,old _ _ ho',hd'⟩
 ·obtain⟨v,o,ho',hd'⟩:=I.cell x k (cells x k e)
  exact⟨v,o,old _ _ ho',hd'⟩
 ·rcases List.mem_append.mp hp with q | q
  ·obtain⟨h1,h2,h3,h4,h5⟩:=I.pin p q
   refine⟨old _ _ h1,h2,Nat.ne_of_lt (Nat.lt_of_lt_of_le (Heap.lt_size h1) hC),fun z=>?_,h5⟩
   rcases List.mem_cons.mp (I.stkSub p.1 z) with q' | q'
   ·exact h3 q'
   ·exact h4 q'
  ·have e:p=(Dd,oD):=by simpa using q
   subst e
   exact⟨hd,I.hok.fresh hD,hDC,nstk Dd hD,hdd⟩
 ·show σ.length+1+1=(x0::y::X.N.map _).length
  rw[List.length_cons,List.length_cons,List.length_map,I.len]
structure PC2 (X:Cx) (x0 y:Str) (scope:Scope) (ifs:List Expr) (elt:Expr) (f:D->D->G->R (Option D)):Prop where
 run:∀(C:Addr) (s₂:Shared) (H₂:Hp) (fp:List Addr) (pn:List (Addr×Obj)) (pins:List (Addr×Obj)) (s:Shared) (σ:St) (H:Hp) (F:List Addr) (Γ:G) (d d2:D),Inv (z1e X x0 y scope C s₂ H₂ fp pn) pins σ H s->FOk H F->Rel X.K H F (.ro d :: .ro d2::Γ) σ->(∃o,f d d2 Γ = .ok o) ->
  wpAny (model X.prog X.w) X.A (forIn ifs true fun c r=>if r=true then do let ok <-isTrue c (compEnvC scope (capt X.env scope.names []) C X.env) (eval c (compEnvC scope (capt X.env scope.names []) C X.env));pure (ForInStep.yield ok) else pure (ForInStep.yield r)) (fun ok s₃ =>
   if ok=true then wpAny (model X.prog X.w) X.A (eval elt (compEnvC scope (capt X.env scope.names []) C X.env)) (fun u s₄=>∃e v H',f d d2 Γ = .ok (some e)/\Inv (z1e X x0 y scope C s₂ H₂ fp pn) pins σ H' s₄/\RelV v u/\Same H H'/\Is X.K (hid F H') e v) (fun _ _=>False) s₃
   else f d d2 Γ = .ok none/\∃H',Inv (z1e X x0 y scope C s₂ H₂ fp pn) pins σ H' s₃/\Same H H') (fun _ _=>False) s
theorem y9c{elt:Expr}{ge:G->R D}(he:∀C s₂ H₂ fp pn,PDr (z1e X x0 y scope C s₂ H₂ fp pn) elt ge):PC2 X x0 y scope [] elt (y5c ge):=by
 refine⟨fun C s₂ H₂ fp pn pins s σ H F Γ d d2 I fo rl ⟨o,eo⟩=>?_⟩
 refine wpAny_tests_nil ?_
 rw[if_pos rfl]
 have hne:ge (.ro d :: .ro d2::Γ) ≠ .no:=fun z=>by unfold y5c at eo;rw[z] at eo;cases eo
 refine wpAny_mono ((he C s₂ H₂ fp pn).run pins s σ H F (.ro d :: .ro d2::Γ) I fo rl hne) (fun u s4 ⟨e,v,H',e1,I',rv,S,iv⟩=>⟨e,v,H',R.step e1 _,I',rv,S,iv⟩) fun x s' ⟨c,H',e1,_⟩=>?_
 unfold y5c at eo;rw[e1] at eo;cases eo
theorem x1k{elt c:Expr}{gc:G->R Bool}{ge:G->R D}(hc:∀C s₂ H₂ fp pn,PTD (z1e X x0 y scope C s₂ H₂ fp pn) c gc)(he:∀C s₂ H₂ fp pn,PDr (z1e X x0 y scope C s₂ H₂ fp pn) elt ge):PC2 X x0 y scope [c] elt (y1n gc ge):=by
 refine⟨fun C s₂ H₂ fp pn pins s σ H F Γ d d2 I fo rl ⟨o,eo⟩=>?_⟩
 have hne:gc (.ro d :: .ro d2::Γ) ≠ .no:=fun z=>by unfold y1n at eo;rw[z] at eo;cases eo
 refine wpAny_tests_one (wpAny_mono ((hc C s₂ H₂ fp pn).run pins s σ H F (.ro d :: .ro d2::Γ) I fo rl hne) (fun k s3 ⟨H1,e1,I1,S1⟩=>?_) fun x s' ⟨c',H',e1,_⟩=>?_)
 ·have eo':(if k=true then ge (.ro d :: .ro d2::Γ)>>=fun e=>R.ok (some e) else .ok none) = .ok o:=by
   unfold y1n at eo;rw[e1] at eo;exact eo
  cases k with
  | false =>
    rw[if_neg Bool.false_ne_true]
    exact⟨R.step e1 _,H1,I1,S1⟩
  | true =>
    rw[if_pos rfl] at eo' ⊢
    have hne2:ge (.ro d :: .ro d2::Γ) ≠ .no:=fun z=>by rw[z] at eo';cases eo'
    refine wpAny_mono ((he C s₂ H₂ fp pn).run pins s3 σ H1 F (.ro d :: .ro d2::Γ) I1 (fo.same S1) (rl.same S1) hne2) (fun u s4 ⟨e,v,H',e2,I',rv,S,iv⟩=>⟨e,v,H',(R.step e1 _).trans (R.step e2 _),I',rv,S1.trans S,iv⟩) fun x s' ⟨c',H',e2,_⟩=>?_
    rw[e2] at eo';cases eo'
 ·unfold y1n at eo;rw[e1] at eo;cases eo
noncomputable def JC2(K:PySem.W.Frag)(H:Hp)(F:List Addr)(J:It)(ds:List D):Prop:=∀H1,Same H H1 ->
 (∀i:Nat,i<ds.length->J.go i H1/\∀v H2,J.yld i H1 v H2->Same H1 H2/\∃d1 d2 q v1 v2,ds[i]? = some (.tup [d1,d2])/\v = .ref q/\SqT K H2 q [v1,v2]/\Is K (hid F H2) d1 v1/\Is K (hid F H2) d2 v2)/\J.stop ds.length H1
theorem x1l{prog:Program}{w:World}{A:Around}{Z:Result->Shared->Prop}{s0:Shared}{elt iter:Expr}{es ifs:List Expr}{kt}{pt pos:Pos}{scope:Scope}{it acc:Value}{env:Env}(K:Nat->Shared->Prop)
 (one:∀n s,K n s->wpAny (model prog w) A (pyNext it) (fun r s1=>match r with
   | some v=>wpAny (model prog w) A (letOwnedTupleGo (.Tuple es kt pt) it v) (fun _ s2=>wpAny (model prog w) A (assign (.Tuple es kt pt) env v) (fun _ s3 =>
      wpAny (model prog w) A (forIn ifs true fun c r=>if r=true then do let ok <-isTrue c env (eval c env);pure (ForInStep.yield ok) else pure (ForInStep.yield r)) (fun ok s4 =>
       if ok=true then wpAny (model prog w) A (eval elt env) (fun x s5 =>
        wpAny (model prog w) A (call (.builtin "list.append") [acc,x]) (fun _ s6=>∃m,m<n/\K m s6) (notedBy (model prog w) A env fun e s'=>Z (.error e) s') s5) (notedBy (model prog w) A env fun e s'=>Z (.error e) s') s4
       else ∃m,m<n/\K m s4) (notedBy (model prog w) A env fun e s'=>Z (.error e) s') s3) (notedBy (model prog w) A env fun e s'=>Z (.error e) s') s2) (notedBy (model prog w) A env fun e s'=>Z (.error e) s') s1
   | none=>Z (.ok .next) s1) (notedBy (model prog w) A env fun e s'=>Z (.error e) s') s)
 (n:Nat) (h0:K n s0):codeAny (model prog w) A (.compLoop (.ListComp elt [⟨.Tuple es kt pt,iter,ifs,0⟩] scope pos) 0 it acc env) Z s0:=by
 refine codeAny_loop rfl K (fun n s hK=>?_) n h0
 show wpAny _ A ((compTurn (.ListComp elt [⟨.Tuple es kt pt,iter,ifs,0⟩] scope pos) 0 it acc env).onRaise (fun x=>do noteFrame x env;theTreesLotGoes x)) _ _ s
 refine wpAny_noted ?_
 rw[compTurn_list]
 refine wpAny_bind (wpAny_standAt (wpAny_bind (wpAny_mono (one n s hK) (fun r s1 q1=>?_) fun _ _ q=>q)))
 cases r with
 | some v =>
   refine wpAny_bind (wpAny_mono q1 (fun _ s2 q2=>?_) fun _ _ q=>q)
   refine wpAny_bind (wpAny_mono q2 (fun _ s3 q3=>wpAny_bind (wpAny_mono q3 (fun ok s4 q4=>?_) fun _ _ q=>q)) fun _ _ q=>q)
   cases ok with
   | true=>exact wpAny_bind (wpAny_bind (wpAny_mono q4 (fun x s5 q5=>wpAny_bind (wpAny_mono q5 (fun _ s6 q6=>wpAny_pure (wpAny_pure ⟨rfl,q6⟩)) fun _ _ q=>q)) fun _ _ q=>q))
   | false=>exact wpAny_pure ⟨rfl,q4⟩
 | none=>exact wpAny_pure q1
theorem y1q{elt iter:Expr}{p0 px pt pos:Pos}{kt}{ifs:List Expr}{f:D->D->G->R (Option D)}{pins:List (Addr×Obj)}{σ:St}{H₂:Hp}{s₂:Shared}{F:List Addr}{Γ:G}{items:List D}{it:Addr}{fp:List Addr}{tn:Nat->Heap->Prop}{J:It}{E:Value->Shared->Prop}{total:List D}
 (hp:PC2 X x0 y scope ifs elt f) (c:CompOk2 X.N X.env x0 y scope) (hN:X.N.Nodup) (hcalm:X.calm=true) (I:Inv X pins σ H₂ s₂) (fo:FOk H₂ F) (rl:Rel X.K H₂ F Γ σ) (T:Turn X.prog X.w X.K (.Tuple [.Name x0 p0,.Name y px] kt pt) J fp it tn) (t0:tn 0 s₂.heap) (hf:∀b∈fp,FpOk X pins H₂ b) (hj:JC2 X.K H₂ F J items)
 (ht:z0y (z8h f Γ) items [] = .ok total) (hl:items.length<=100000) {RR:Value->Addr->Result->Shared->Prop}
 (hR:∀(Dd C:Addr) (xs:List V) (H':Hp) (m:Str->Option Value) (s':Shared),s₂.heap.objs.size<=C->Dd≠C->H₂ Dd=none->H' Dd=none->H' C=none->s₂.heap.objs.size<=Dd->Same H₂ H'->IsAll X.K (hid F H') total xs->Inv X pins σ (upd H' Dd (.lst xs)) s'->s'.heap.Ns C m->RR (.ref Dd) C (.ok .next) s') :
 wpAny (model X.prog X.w) X.A (newList []) (fun acc s₃=>wpAny (model X.prog X.w) X.A (newFunctionEnv scope X.env.globals (capt X.env scope.names []) [] X.env.qual none .none (some X.env)) (fun cenv s₄ =>
  codeAny (model X.prog X.w) X.A (.compStart (.ListComp elt [⟨.Tuple [.Name x0 p0,.Name y px] kt pt,iter,ifs,0⟩] scope pos) 0 (.ref it) acc { cenv with scope:=relabel scope X.env }) (RR acc cenv.locals) s₄) E s₃) E s₂:=by
 have ho:∀b∈fp,b<s₂.heap.objs.size:=fun b hb=>by obtain⟨o,e,_⟩:=T.obj _ _ t0 b hb;exact Heap.lt_size e
 refine wpAny_newObj_type (wpAny_newFunctionEnv c.nocell (by intro y hy;simp at hy) (fun h₁ hns₁ hsb₁=>?_) c.kind)
 dsimp only at hns₁ hsb₁ ⊢
 generalize hH2:s₂.heap.push { cls:=.type "list",dict:=none,data:=.seq ([]:List Value).toArray }=H2 at hns₁ hsb₁ ⊢
 have hCs:H2.objs.size=s₂.heap.objs.size+1:=by rw[<-hH2,Heap.size_push]
 generalize hCC:H2.objs.size=C at hns₁ hsb₁ hCs ⊢
 generalize hDD:s₂.heap.objs.size=Dd at hCs ⊢
 obtain⟨⟨hDC,hC,hD⟩,below⟩:=sb2 hCs hDD
 have old:∀b o,s₂.heap.get? b=some o->h₁.get? b=some o:=fun b o e=>by
  refine hsb₁.extBut b o (below b (Heap.lt_size e)).1 ?_
  exact Heap.get?_push_of_some _ (hH2 ▸ Heap.get?_push_of_some _ e)
 have hacc:h₁.get? Dd=some { cls:=.type "list",dict:=none,data:=.seq ([]:List Value).toArray }:=by
  refine hsb₁.extBut _ _ hDC ?_
  refine Heap.get?_push_of_some _ ?_
  rw[<-hH2,<-hDD]
  exact Heap.get?_push_size _ rfl
 have J0:∀tk,Inv (z1e X x0 y scope C s₂ H₂ fp (X.pn++pins)) [(Dd,{ cls:=.type "list",dict:=none,data:=.seq ([]:List Value).toArray })] (none::none::σ) H₂ { s₂ with heap:=h₁,toks:=tk }:=fun tk =>
  y5f I c hC hD hDC hf ho old hns₁ hacc (fun v z=>nomatch z)
 have t1:tn 0 h₁:=T.keep _ _ _ t0 fun b hb o e=>old b o e
 have fpY:∀{H':Hp} {o:Obj},(∀b∈fp,H' b=none)->∀b∈fp,FpOk (z1e X x0 y scope C s₂ H₂ fp (X.pn++pins)) [(Dd,o)] H' b:=fun {H' o} hn b hb=>by
  obtain⟨f0,f1,f2,f3,f4,f5⟩:=hf b hb
  have lt:=ho b hb
  refine⟨hn b hb,(below b lt).1,fun z=>?_,.inl hb,fun x k e=>?_,fun p hp'=>?_⟩
  ·rcases List.mem_cons.mp (I.stkSub b z) with q | q
   ·exact f1 q
   ·exact f2 q
  ·rcases z3k scope.names [] (PySem.mem_of_lookup e) with q | q
   ·simp at q
   ·exact f4 x k q
  ·rcases List.mem_append.mp hp' with q | q
   ·exact f5 p q
   ·have e:p=(Dd,o):=by simpa using q
    subst e
    exact Ne.symm (below b lt).2
 have NdY:(z1e X x0 y scope C s₂ H₂ fp (X.pn++pins)).N.Nodup:=by
  show(x0::y::X.N.map (fun z=>if z=x0∨z=y then ("":Str) else z)).Nodup
  have ne0:∀q:Str,scope.names.lookup q=some .local->q ∉ X.N.map (fun z=>if z=x0∨z=y then ("":Str) else z)∨True:=fun _ _=>.inr trivial
  have out:∀q:Str,scope.names.lookup q=some .local->(q=x0∨q=y)->q ∉ X.N.map (fun z=>if z=x0∨z=y then ("":Str) else z):=fun q hq hqq z=>by
   obtain⟨z',hz,e⟩:=List.mem_map.mp z
   by_cases w':z'=x0∨z'=y
   ·rw[if_pos w'] at e
    subst e
    rw[c.nil] at hq;cases hq
   ·rw[if_neg w'] at e
    subst e
    exact w' hqq
  refine List.nodup_cons.mpr ⟨fun z=>?_,List.nodup_cons.mpr ⟨out y c.loc.2.1 (.inr rfl),?_⟩⟩
  ·rcases List.mem_cons.mp z with e | e
   ·exact c.loc.2.2.1 e
   ·exact out x0 c.loc.1 (.inl rfl) e
  ·have inj:∀a∈X.N,∀b∈X.N,(if a=x0∨a=y then ("":Str) else a)=(if b=x0∨b=y then ("":Str) else b)->a=b∨((a=x0∨a=y)/\(b=x0∨b=y)):=fun a ha b hb e=>by
    by_cases qa:a=x0∨a=y
    ·by_cases qb:b=x0∨b=y
     ·exact .inr ⟨qa,qb⟩
     ·rw[if_pos qa,if_neg qb] at e;exact absurd e.symm ((c.none.resolve_right fun z=>qa.elim (fun e=>z.1 (e ▸ ha)) fun e=>z.2 (e ▸ ha)) b hb)
    ·by_cases qb:b=x0∨b=y
     ·rw[if_neg qa,if_pos qb] at e;exact absurd e ((c.none.resolve_right fun z=>qb.elim (fun e=>z.1 (e ▸ hb)) fun e=>z.2 (e ▸ hb)) a ha)
     ·rw[if_neg qa,if_neg qb] at e;exact .inl e
   have gen:∀l:List Str,(∀a∈l,a∈X.N)->l.Nodup->(l.map (fun z=>if z=x0∨z=y then ("":Str) else z)).Nodup:=by
    intro l
    induction l with
    | nil=>intro _ _;exact List.nodup_nil
    | cons a l ih =>
      intro hs nd
      obtain⟨n1,n2⟩:=List.nodup_cons.mp nd
      rw[List.map_cons]
      refine List.nodup_cons.mpr ⟨fun z=>?_,ih (fun b hb=>hs b (List.mem_cons_of_mem _ hb)) n2⟩
      obtain⟨b,hb,e⟩:=List.mem_map.mp z
      rcases inj b (hs b (List.mem_cons_of_mem _ hb)) a (hs a List.mem_cons_self) e with q | q
      ·exact n1 (q ▸ hb)
      ·have ha:=hs a List.mem_cons_self
       have hb':=hs b (List.mem_cons_of_mem _ hb)
       have hab:b≠a:=fun z=>n1 (z ▸ hb)
       have both:x0∈X.N/\y∈X.N:=by
        rcases q.1 with rfl | rfl<;>rcases q.2 with rfl | rfl
        ·exact absurd rfl hab
        ·exact⟨hb',ha⟩
        ·exact⟨ha,hb'⟩
        ·exact absurd rfl hab
       rcases c.loc.2.2.2 with z | z
       ·exact z both.1
       ·exact z both.2
   exact gen X.N (fun _ h=>h) hN
 let L:Nat->Shared->Prop:=fun n s'=>∃(i:Nat) (H':Hp) (o o2:Option V) (xs:List V) (its:List Value) (acc:List D) (k:Nat),n=items.length-i/\i<=items.length/\Inv (z1e X x0 y scope C s₂ H₂ fp (X.pn++pins)) [(Dd,{ cls:=.type "list",dict:=none,data:=.seq its.toArray k })] (o::o2::σ) H' s' /\
  Same H₂ H'/\(∀b∈fp,H' b=none)/\tn i s'.heap/\Vals xs its/\acc.length<=i/\IsAll X.K (hid F H') acc xs/\z0y (z8h f Γ) (items.drop i) acc = .ok total
 have loop:∀s₄:Shared,L items.length s₄->codeAny (model X.prog X.w) X.A (.compLoop (.ListComp elt [⟨.Tuple [.Name x0 p0,.Name y px] kt pt,iter,ifs,0⟩] scope pos) 0 (.ref it) (.ref Dd) (compEnvC scope (capt X.env scope.names []) C X.env)) (RR (.ref Dd) C) s₄:=fun s₄ h4=>by
  refine x1l L (fun n s' hL=>wpAny_mono (E:=fun _ _=>False) ?_ (fun _ _ q=>q) fun _ _ z=>z.elim) items.length h4
  obtain⟨i,H',o,o2,xs,its,acc,k,en,hi,J',S',fr',tn',rv,hal,ia,eg⟩:=hL
  obtain⟨jgo,jstop⟩:=hj H' S'
  have hpD:=J'.pin (Dd,{ cls:=.type "list",dict:=none,data:=.seq its.toArray k }) (List.mem_append_right _ (by simp))
  have hxl:xs.length<=100000:=by rw[<-ia.length];exact Nat.le_trans hal (Nat.le_trans hi hl)
  have hsl:(100000:Nat)<=sizeLine:=by rw[sizeLine_eq];decide
  by_cases hlt:i<items.length
  ·obtain⟨go,yl⟩:=jgo i hlt
   refine thn (T.item (z1e X x0 y scope C s₂ H₂ fp (X.pn++pins)) rfl rfl rfl hcalm i _ s' _ H' (fun _ _=>False) J' (fpY fr') tn' go) fun r s2 ⟨u,hr,h1⟩=>?_
   subst hr
   refine wpAny_mono h1 (fun _ s2 ⟨x,H5,J5,r5,y5,st5,fr5⟩=>?_) fun _ _ z=>z.elim
   obtain⟨S5,d1,d2,q,v1,v2,ed,rfl,sq5,iv1,iv2⟩:=yl x H5 y5
   have J5':=J5.pinned (fpY fr5) (T.obj _ _ st5)
   have S6:=S'.trans S5
   have hdrop:items.drop i = .tup [d1,d2]::items.drop (i+1):=by
    rw[List.drop_eq_getElem_cons hlt]
    have:items[i] = .tup [d1,d2]:=by
     have:=List.getElem?_eq_getElem hlt
     rw[ed] at this;exact(Option.some.inj this).symm
    rw[this]
   rw[hdrop] at eg
   have hfo:∃od,f d1 d2 Γ = .ok od/\(match od with | some e=>z0y (z8h f Γ) (items.drop (i+1)) (acc++[e]) | none=>z0y (z8h f Γ) (items.drop (i+1)) acc) = .ok total:=by
    unfold z0y at eg
    have ep:z8h f Γ (.tup [d1,d2])=f d1 d2 Γ:=rfl
    rw[ep] at eg
    cases q:f d1 d2 Γ with
    | no=>rw[q] at eg;cases eg
    | er c'=>rw[q] at eg;cases eg
    | ok od =>
      refine⟨od,rfl,?_⟩
      rw[q] at eg
      cases od with
      | none=>exact eg
      | some e=>exact eg
   obtain⟨od,eod,etot⟩:=hfo
   have hpg:PG (z1e X x0 y scope C s₂ H₂ fp (X.pn++pins)).nox (.Tuple [.Name x0 p0,.Name y px] kt pt) (L2.gTup X.K 2 (L2.gCons (y7i 0) (L2.gCons (y7i 1) L2.gNil))) :=
    x6h (X:=(z1e X x0 y scope C s₂ H₂ fp (X.pn++pins)).nox) hcalm (z9f (z7f (X:=(z1e X x0 y scope C s₂ H₂ fp (X.pn++pins)).nox) NdY rfl (.inl (lookup_relabel_local c.loc.1)) (.inr (lookup_relabel_local c.loc.1))) (z9f (z7f (X:=(z1e X x0 y scope C s₂ H₂ fp (X.pn++pins)).nox) NdY rfl (.inl (lookup_relabel_local c.loc.2.1)) (.inr (lookup_relabel_local c.loc.2.1))) y8z rfl) rfl) rfl rfl
   refine wpAny_mono (hpg _ s2 (o::o2::σ) H5 (.ref q) u (fun σ' H'=>σ'=some v1::some v2::σ/\H'=H5) (J5'.wish _) r5 ⟨q,[v1,v2],rfl,sq5,rfl,v1,[v2],rfl,v2,[],rfl,rfl,rfl,rfl⟩) (fun _ s3 ⟨σ6,H6,J6,e6,e6'⟩=>?_) fun _ _ z=>z.elim
   subst e6 e6'
   have J6':=J6.unwish
   have fo6:=fo.same S6
   have back:∀{s5:Shared} {H7:Hp} {σ7:St},Inv (z1e X x0 y scope C s₂ H₂ fp (X.pn++pins)) ([(Dd,{ cls:=.type "list",dict:=none,data:=.seq its.toArray k })]++y1j fp s2.heap) σ7 H7 s5->tn (i+1) s5.heap/\(∀b∈fp,H7 b=none):=fun {s5 H7 σ7} J7=>by
    refine⟨T.keep _ _ _ st5 fun b hb o' e=>(J7.pin (b,o') (List.mem_append_right _ (List.mem_append_right _ (z3a hb e)))).1,fun b hb=>?_⟩
    obtain⟨o',e,dd⟩:=T.obj _ _ st5 b hb
    exact(J7.pin (b,o') (List.mem_append_right _ (List.mem_append_right _ (z3a hb e)))).2.1
   refine wpAny_mono (hp.run C s₂ H₂ fp (X.pn++pins) _ s3 _ H6 F Γ d1 d2 J6' fo6 (y1w (y1w (rl.same S6) iv2) iv1) ⟨od,eod⟩) (fun ok s4 h4=>?_) fun _ _ z=>z.elim
   cases ok with
   | false =>
     rw[if_neg Bool.false_ne_true] at h4 ⊢
     obtain⟨ef,H7,J7,S7⟩:=h4
     rw[eod] at ef;cases ef
     obtain⟨tn7,fr7⟩:=back J7
     exact⟨items.length-(i+1),sb1 en hlt,i+1,H7,some v1,some v2,xs,its,acc,k,rfl,hlt,J7.unpinned,S6.trans S7,fr7,tn7,rv,Nat.le_succ_of_le hal,ia.same (z2c (S5.trans S7)),etot⟩
   | true =>
     rw[if_pos rfl] at h4 ⊢
     refine wpAny_mono h4 (fun u7 s5 ⟨e,v7,H7,ef,J7,r7,S7,iv7⟩=>?_) fun _ _ z=>z.elim
     rw[eod] at ef;cases ef
     obtain⟨tn7,fr7⟩:=back J7
     have J8:=J7.unpinned
     have hpD7:=J8.pin (Dd,{ cls:=.type "list",dict:=none,data:=.seq its.toArray k }) (List.mem_append_right _ (by simp))
     have hlen:its.length=acc.length:=by rw[<-rv.length,<-ia.length]
     refine wpAny_list_append_plain (l:=Dd) (items:=its.toArray) (x:=u7) ⟨k,hpD7.1⟩ (fun h' hl' hs'=>?_) (by rw[List.size_toArray,<-rv.length];exact Nat.le_trans hxl hsl)
     obtain⟨k',hk'⟩:=hl'
     have epush:its.toArray.push u7=(its++[u7]).toArray:=by simp
     rw[epush] at hk'
     have J9:Inv (z1e X x0 y scope C s₂ H₂ fp (X.pn++pins)) [] (some v1::some v2::σ) H7 s5:=J8.pins_of fun p hp'=>by simp at hp'
     have J10:Inv (z1e X x0 y scope C s₂ H₂ fp (X.pn++pins)) [] (some v1::some v2::σ) H7 { s5 with heap:=h' }:=J9.turned (t':=s5.toks) (it:=Dd) (fun b o' hb e'=>(hs'.2 b hb).trans e') hpD7.2.1 hDC (.inr hD) (fun x' k'' e' z=>by
      rcases z3k scope.names [] (PySem.mem_of_lookup e') with q | q
      ·simp at q
      ·obtain⟨v',o',ho',_⟩:=I.cell x' k'' q
       exact(below k'' (Heap.lt_size ho')).2 z) (fun p hp' z=>by
      rcases List.mem_append.mp hp' with q | q
      ·obtain⟨h1',_⟩:=I.pin p q
       exact(below p.1 (Heap.lt_size h1')).2 z
      ·simp at q)
     have J11:Inv (z1e X x0 y scope C s₂ H₂ fp (X.pn++pins)) [(Dd,{ cls:=.type "list",dict:=none,data:=.seq (its++[u7]).toArray k' })] (some v1::some v2::σ) H7 { s5 with heap:=h' }:=J10.pins_of fun p hp'=>by
      have e':p=(Dd,{ cls:=.type "list",dict:=none,data:=.seq (its++[u7]).toArray k' }):=by simpa using hp'
      subst e'
      exact⟨hk',hpD7.2.1,hDC,hpD7.2.2.2.1,fun v z=>nomatch z⟩
     refine⟨items.length-(i+1),sb1 en hlt,i+1,H7,some v1,some v2,xs++[v7],its++[u7],acc++[e],k',rfl,hlt,J11,S6.trans S7,fr7,T.keep _ _ _ tn7 fun b hb o' e'=>(hs'.2 b (below b (ho b hb)).2).trans e',rv.append (.cons r7 .nil),by rw[List.length_append,List.length_singleton];exact Nat.succ_le_succ hal,(ia.same (z2c (S5.trans S7))).append (IsAll.cons iv7 IsAll.nil),etot⟩
  ·have hi':i=items.length:=Nat.le_antisymm hi (Nat.le_of_not_lt hlt)
   subst hi'
   refine thn (T.done (z1e X x0 y scope C s₂ H₂ fp (X.pn++pins)) rfl rfl rfl hcalm _ _ s' _ H' (fun _ _=>False) J' (fpY fr') tn' jstop) fun r s1 ⟨hr,J1⟩=>?_
   subst hr
   have hpD1:=J1.pin (Dd,{ cls:=.type "list",dict:=none,data:=.seq its.toArray k }) (List.mem_append_right _ (by simp))
   rw[List.drop_length] at eg
   have:acc=total:=by unfold z0y at eg;cases eg;rfl
   subst this
   obtain⟨mC,hnC,_⟩:=J1.loc
   exact hR Dd C xs H' mC s1 hC hDC (I.hok.fresh hD) hpD1.2.1 J1.free hD S' ia (y7r I J1 hD hpD1.2.1 hpD1.1 rv (Nat.le_trans hxl hsl) hf) hnC
 have L0:∀tk,L items.length { s₂ with heap:=h₁,toks:=tk }:=fun tk=>⟨0,H₂,none,none,[],[],[],_,rfl,Nat.zero_le _,J0 tk,.refl _,fun b hb=>(hf b hb).1,t1,.nil,Nat.le_refl _,IsAll.nil,by rw[List.drop_zero];exact ht⟩
 exact codeAny_compStart_list (loop _ (L0 _)) (T.self _ 0 _ _ _ t1 (loop _ (L0 _)))
theorem y5u{elt iter:Expr}{p0 px pt pos:Pos}{kt}{ifs:List Expr}{f:D->D->G->R (Option D)}{gi:G->R (List D)}(hi:PIx JC2 X (.Tuple [.Name x0 p0,.Name y px] kt pt) iter gi)(hp:PC2 X x0 y scope ifs elt f)(hN:X.N.Nodup)(hcalm:X.calm=true)
 (chk:z9h X.N X.env x0 y scope=true:=by rfl) (hclos:closureFor scope X.env=pure (capt X.env scope.names []):=by rfl) (hs:∀x,foldedSetIterable iter X.env x=pure x:=by intro _;rfl) :
 PF X (.ListComp elt [⟨.Tuple [.Name x0 p0,.Name y px] kt pt,iter,ifs,0⟩] scope pos) (z8a gi f):=by
 refine⟨fun pins s σ H F Γ I fo rl hg=>?_⟩
 have c:=y1o chk
 rw[eval_ListComp]
 refine wpAny_comprehension_free (use:=none) rfl hs hclos c.kind c.names (wpAny_mono (hi.run pins s σ H F Γ I fo rl (R.left hg)) (fun xv s₁ h₁=>wpAny_mono h₁ (fun itv s₂ h₂=>?_) fun _ _ x=>x.bind _) fun _ _ x=>x.bind _)
 obtain⟨items,it,fp,tn,J,H₂,e1,rfl,I2,S2,T,t0,fk,jc⟩:=h₂
 have hgx:=R.next hg e1
 obtain⟨hl,e2⟩:=R.guard_ne hgx
 have hne:z0y (z8h f Γ) items [] ≠ .no:=by
  have:=R.next hg e1
  rw[e2] at this;exact this
 obtain⟨total,et⟩:=z5h hne
 refine y1q (RR:=fun acc C=>compPost (model X.prog X.w) X.A _ none _ acc C) hp c hN hcalm I2 (fo.same S2) (rl.same S2) T t0 fk jc et hl ?_
 intro Dd C xs H' m s' hC hDC hn hn' hnC hD S' ia I' hnsC
 refine⟨m,hnsC,fun h'' hs''=>?_⟩
 have nlt:∀{b:Addr} {o:Obj},s₂.heap.get? b=some o->b≠C:=fun e=>Nat.ne_of_lt (Nat.lt_of_lt_of_le (Heap.lt_size e) hC)
 have I'':Inv X pins σ (upd H' Dd (.lst xs)) { s' with heap:=h'' }:=I'.turned (t':=s'.toks) (it:=C) (fun b o hb e=>hs''.extBut b o hb e) (by rw[z0k (Ne.symm hDC)];exact hnC) (Nat.ne_of_gt (Nat.lt_of_lt_of_le I2.lt hC)) (.inr (Nat.le_trans I2.sz hC))
  (fun x k e=>by obtain⟨v,o,ho,_⟩:=I2.cell x k e;exact nlt ho) (fun p hp'=>nlt (I2.pin p hp').1)
 have S3:=z1k hn' (.lst xs)
 refine⟨total,Dd,xs,_,(R.step e1 _).trans (e2.trans et),I'',rfl,(S2.trans S').trans S3,S2.free hn,z0m,ia.same fun b o hb=>?_⟩
 obtain⟨z1,z2⟩:=z2a hb
 have hbl:b≠Dd:=z0p z2 hn'
 rw[z1d fun z=>(List.mem_cons.mp z).elim hbl z1,z0k hbl]
 exact z2
end
section
variable {prog:Program}{w:World}{A:Around}{E:Value->Shared->Prop}{s:Shared}
theorem x4l{it t:Addr}{i:Nat}{items:Array Value}{x:Value}{Q:Value->Shared->Prop}(hit:s.heap.IsTupleIter it t i)(ht:s.heap.IsTuple t items)(hx:items[i]? = some x)(hQ:∀h',h'.IsTupleIter it t (i+1)->Heap.SameBut it s.heap h'->Q x { s with heap:=h' }) :
 wpAny (model prog w) A (Builtin.SmallTypes.nextOf (.ref it)) Q E s:=by
 obtain⟨⟨o,ho,hc,hd⟩,⟨ol,hol,_,nl,hdl⟩⟩:=And.intro hit ht
 refine wpAny_bind (wpAny_callSpecial?_slot (name:=Str.ofString "__next__") hit.typeIs F.slot_tuple_iterator_next (wpAny_call_entry F.slot_tuple_iterator_next hit.typeIs F.entry_tuple_iterator_next (show wpAny _ _ (field (.ref it) 0>>=_) _ _ s from wpAny_bind (wpAny_field ho hd (x:=.ref t) rfl (show wpAny _ _ (if (Value.ref t==Value.none)=true then _ else _) _ _ s from ?_))) (F.args_tuple_iterator_next_1 _)))
 rw[if_neg (by exact fun z=>Bool.false_ne_true z)]
 refine(show wpAny _ _ (field (.ref it) 1>>=_) _ _ s from wpAny_bind (wpAny_field ho hd (x:=.int i 0) rfl (show wpAny _ _ (seqItems? (.ref t)>>=_) _ _ s from wpAny_bind (wpAny_seqItems hol hdl ?_))))
 simp only[Int.toNat_natCast,hx]
 refine wpAny_bind (wpAny_setField ho hd (by simp) (wpAny_pure ⟨x,rfl,wpAny_pure (hQ _ ⟨_,Heap.get?_update_self _ ho (Obj.isFreed_of_fields (Obj.data_mapFields hd _)),(Obj.cls_mapFields ..).trans hc,by rw[Obj.data_mapFields hd];simp[rawInt]⟩ (Heap.SameBut.update ..))⟩))
theorem y4r{it t:Addr}{i:Nat}{items:Array Value}{Q:Value->Shared->Prop}(hh:A.handled=none)(hit:s.heap.IsTupleIter it t i)(ht:s.heap.IsTuple t items)(hx:items[i]? = none)
 (hE:∀h' e,Heap.ExtBut it s.heap h'->(∃o,h'.get? e=some o/\o.cls = .type "StopIteration")->E (.ref e) { s with heap:=h' }):wpAny (model prog w) A (Builtin.SmallTypes.nextOf (.ref it)) Q E s:=by
 obtain⟨⟨o,ho,hc,hd⟩,⟨ol,hol,_,nl,hdl⟩⟩:=And.intro hit ht
 refine wpAny_bind (wpAny_callSpecial?_slot (name:=Str.ofString "__next__") hit.typeIs F.slot_tuple_iterator_next (wpAny_call_entry F.slot_tuple_iterator_next hit.typeIs F.entry_tuple_iterator_next (show wpAny _ _ (field (.ref it) 0>>=_) _ _ s from wpAny_bind (wpAny_field ho hd (x:=.ref t) rfl (show wpAny _ _ (if (Value.ref t==Value.none)=true then _ else _) _ _ s from ?_))) (F.args_tuple_iterator_next_1 _)))
 rw[if_neg (by exact fun z=>Bool.false_ne_true z)]
 refine(show wpAny _ _ (field (.ref it) 1>>=_) _ _ s from wpAny_bind (wpAny_field ho hd (x:=.int i 0) rfl (show wpAny _ _ (seqItems? (.ref t)>>=_) _ _ s from wpAny_bind (wpAny_seqItems hol hdl ?_))))
 simp only[Int.toNat_natCast,hx]
 refine wpAny_bind (wpAny_rule (wpAny_bind (wpAny_setField ho hd (by simp) (show wpAny _ _ (newExc (.type "StopIteration") []>>=_) _ _ _ from wpAny_bind ?_))))
 simp only[newExc,newTuple]
 refine wpAny_bind (wpAny_newObj_type (wpAny_bind (m:=firstArgMember _ _) (wpAny_of_eq (a:=Value.none) (by first | rfl | (simp only[firstArgMember];rfl)) (wpAny_newObj_type ?_ (by size_fits)))) (by size_fits))
 simp only[raiseNew]
 refine wpAny_bind (wpAny_handled ?_)
 first | rw[show A.in1.handled=none from hh] | rw[hh]
 exact wpAny_bind (wpAny_pure (wpAny_throw (hE _ _ (((Heap.SameBut.update ..).extBut.push _).push _) ⟨_,Heap.get?_push_size _ rfl,rfl⟩)))
noncomputable def SIt(b:Bool)(h:Heap)(it l:Addr)(i:Nat):Prop:=if b=true then h.IsListIter it l i else h.IsTupleIter it l i
noncomputable def SOb(b:Bool)(h:Heap)(l:Addr)(xs:Array Value):Prop:=if b=true then h.IsList l xs else h.IsTuple l xs
theorem SIt.mv{b:Bool}{h h':Heap}{it l:Addr}{i:Nat}(st:SIt b h it l i)(k:∀o,h.get? it=some o->h'.get? it=some o):SIt b h' it l i:=by
 cases b
 ·exact Heap.IsTupleIter.at (h:=h) st k
 ·exact Heap.IsListIter.at (h:=h) st k
theorem SOb.mv{b:Bool}{h h':Heap}{l:Addr}{xs:Array Value}(st:SOb b h l xs)(k:∀o,h.get? l=some o->h'.get? l=some o):SOb b h' l xs:=by
 cases b
 ·obtain⟨o,e,r⟩:=(show h.IsTuple l xs from st);exact⟨o,k o e,r⟩
 ·exact Heap.IsList.at (h:=h) st k
theorem SIt.obj{b:Bool}{h:Heap}{it l:Addr}{i:Nat}(st:SIt b h it l i):∃o vs,h.get? it=some o/\o.data = .fields vs:=by
 cases b
 ·obtain⟨o,e,c,d⟩:=(show h.IsTupleIter it l i from st);exact⟨o,_,e,d⟩
 ·obtain⟨o,e,c,d⟩:=(show h.IsListIter it l i from st);exact⟨o,_,e,d⟩
theorem y4s{b:Bool}{it t:Addr}{i:Nat}{items:Array Value}{x:Value}{Q:Value->Shared->Prop}(hit:SIt b s.heap it t i)(ht:SOb b s.heap t items)(hx:items[i]? = some x)(hQ:∀h',SIt b h' it t (i+1)->Heap.SameBut it s.heap h'->Q x { s with heap:=h' }) :
 wpAny (model prog w) A (Builtin.SmallTypes.nextOf (.ref it)) Q E s:=by
 cases b
 ·exact x4l hit ht hx hQ
 ·exact wpAny_nextOf_list_item hit ht hx hQ
theorem y0a{b:Bool}{it t:Addr}{i:Nat}{items:Array Value}{Q:Value->Shared->Prop}(hh:A.handled=none)(hit:SIt b s.heap it t i)(ht:SOb b s.heap t items)(hx:items[i]? = none)
 (hE:∀h' e,Heap.ExtBut it s.heap h'->(∃o,h'.get? e=some o/\o.cls = .type "StopIteration")->E (.ref e) { s with heap:=h' }):wpAny (model prog w) A (Builtin.SmallTypes.nextOf (.ref it)) Q E s:=by
 cases b
 ·exact y4r hh hit ht hx hE
 ·exact wpAny_nextOf_list_end hh hit ht hx hE
end
section
variable {prog:Program}{w:World}{A:Around}{E:Value->Shared->Prop}{s:Shared}{b1 b2:Bool}
theorem x3i{z TI TO i1 i2 l1 l2:Addr}{k1 k2:Nat}{xs ys:Array Value}{x y a b:Value}{Q:Value->Shared->Prop}(D:ZipApart z TI TO i1 i2 l1 l2)(hz:IsZip s.heap z TI TO .none)(hTI:IsPair s.heap TI (.ref i1) (.ref i2))(hTO:IsPair s.heap TO a b)
 (h1:SIt b1 s.heap i1 l1 k1) (h2:SIt b2 s.heap i2 l2 k2) (hl1:SOb b1 s.heap l1 xs) (hl2:SOb b2 s.heap l2 ys) (hx:xs[k1]? = some x) (hy:ys[k2]? = some y)
 (hQ:∀h',IsZip h' z TI TO (rawInt s.heap.objs.size)->IsPair h' TO x y->SIt b1 h' i1 l1 (k1+1)->SIt b2 h' i2 l2 (k2+1)->IsPair h' s.heap.objs.size x y->h'.objs.size=s.heap.objs.size+1->(∀c o,c≠z->c≠TO->c≠i1->c≠i2->s.heap.get? c=some o->h'.get? c=some o)->Q (.ref s.heap.objs.size) { s with heap:=h' }) :
 wpAny (model prog w) A (Builtin.«zip.__next__» ⟨[.ref z],[]⟩) (fun fin s'=>∃v,fin = .done (.ret v)/\Q v s') E s:=by
 refine(show wpAny _ _ (field (.ref z) 2>>=_) _ _ _ from wpAny_bind (wpAny_field hz rfl (x:=.bool false) rfl (show wpAny _ _ (field (.ref z) 3>>=_) _ _ _ from wpAny_bind (wpAny_field hz rfl (x:=.ref TI) rfl (wpAny_bind (wpAny_seqItems hTI rfl (show wpAny _ _ (Builtin.SmallTypes.ownedTupleIsFree (.ref z)>>=_) _ _ _ from wpAny_bind ?_)))))))
 unfold Builtin.SmallTypes.ownedTupleIsFree
 refine wpAny_bind (wpAny_field hz rfl (x:=.none) rfl (wpAny_pure ?_));simp only[if_true]
 refine wpAny_bind (wpAny_rule (wpAny_bind (wpAny_field hz rfl (x:=.ref TO) rfl (wpAny_bind (wpAny_setField_rec hz (by simp) fun g1 (hz1:IsZip g1 z TI TO .ellipsis) n1=>wpAny_bind ?_)))))
 simp only[List.zipIdx_cons,List.zipIdx_nil,List.forIn_cons,List.forIn_nil]
 refine wpAny_bind (wpAny_bind (wpAny_onRaise (show wpAny _ _ (Builtin.SmallTypes.nextOf (.ref i1)>>=_) _ _ _ from wpAny_bind (y4s (h1.mv fun o e=>n1.extBut _ _ D.i1z e) (hl1.mv fun o e=>n1.extBut _ _ D.l1z e) hx fun g2 f1 n2=>wpAny_pure ?_))))
 have pT2:IsPair g2 TO a b:=n2.extBut _ _ D.TOi1 (n1.extBut _ _ D.TOz hTO)
 refine wpAny_bind (wpAny_seqItems pT2 rfl (wpAny_bind (wpAny_updateSeq_pair pT2 fun g3 (pT3:IsPair g3 TO x b) n3=>wpAny_bind (wpAny_letGo (wpAny_pure ?_)))))
 refine wpAny_bind (wpAny_bind (wpAny_onRaise (show wpAny _ _ (Builtin.SmallTypes.nextOf (.ref i2)>>=_) _ _ _ from wpAny_bind (y4s (h2.mv fun o e=>n3.extBut _ _ D.TOi2.symm (n2.extBut _ _ D.i12.symm (n1.extBut _ _ D.i2z e))) (hl2.mv fun o e=>n3.extBut _ _ D.l2TO (n2.extBut _ _ D.l2i1 (n1.extBut _ _ D.l2z e))) hy fun g4 f2 n4=>wpAny_pure ?_))))
 have pT4:IsPair g4 TO x b:=n4.extBut _ _ D.TOi2 pT3
 refine wpAny_bind (wpAny_seqItems pT4 rfl (wpAny_bind (wpAny_updateSeq_pair pT4 fun g5 (pT5:IsPair g5 TO x y) n5=>wpAny_bind (wpAny_letGo (wpAny_pure (wpAny_pure (wpAny_bind (wpAny_seqItems pT5 rfl (wpAny_bind (wpAny_newTuple ?_))))))))))
 have sz:g5.objs.size=s.heap.objs.size:=by rw[n5.1,n4.1,n3.1,n2.1,n1.1]
 have hz5:IsZip g5 z TI TO .ellipsis:=n5.extBut _ _ D.TOz.symm (n4.extBut _ _ D.i2z.symm (n3.extBut _ _ D.TOz.symm (n2.extBut _ _ D.i1z.symm hz1)))
 have kp:∀c o,c≠z->c≠TO->c≠i1->c≠i2->s.heap.get? c=some o->g5.get? c=some o:=fun c o c1 c2 c3 c4 e=>n5.extBut _ _ c2 (n4.extBut _ _ c4 (n3.extBut _ _ c2 (n2.extBut _ _ c3 (n1.extBut _ _ c1 e))))
 have f15:SIt b1 g5 i1 l1 (k1+1):=f1.mv fun o e=>n5.extBut _ _ D.TOi1.symm (n4.extBut _ _ D.i12 (n3.extBut _ _ D.TOi1.symm e))
 have f25:SIt b2 g5 i2 l2 (k2+1):=f2.mv fun o e=>n5.extBut _ _ D.TOi2.symm e
 have zlt:z<g5.objs.size:=Heap.lt_size hz5
 refine(show wpAny _ _ (Builtin.SmallTypes.ownedTupleHandOut (.ref z) (.ref g5.objs.size)>>=_) _ _ _ from wpAny_bind ?_)
 unfold Builtin.SmallTypes.ownedTupleHandOut
 have hz6:IsZip (g5.push { cls:=.type "tuple",data:=.seq #[x,y] }) z TI TO .ellipsis:=Heap.get?_push_of_some _ hz5
 refine wpAny_bind (wpAny_setField_rec hz6 (by simp) fun g7 (hz7:IsZip g7 z TI TO (rawInt g5.objs.size)) n7=>wpAny_setField_rec hz7 (by simp) fun g8 (hz8:IsZip g8 z TI TO (rawInt g5.objs.size)) n8=>?_)
 have up:∀c o,c≠z->g5.get? c=some o->g8.get? c=some o:=fun c o c1 e=>n8.extBut _ _ c1 (n7.extBut _ _ c1 (Heap.get?_push_of_some _ e))
 have t8:IsPair g8 g5.objs.size x y:=n8.extBut _ _ (Nat.ne_of_gt zlt) (n7.extBut _ _ (Nat.ne_of_gt zlt) (Heap.get?_push_size _ rfl))
 have s8:g8.objs.size=g5.objs.size+1:=by rw[n8.1,n7.1,Heap.size_push]
 rw[sz] at hz8 t8 s8
 refine wpAny_pure ⟨_,rfl,(show Q (.ref g5.objs.size) _ from ?_)⟩
 rw[sz]
 exact hQ g8 hz8 (up _ _ D.TOz pT5) (f15.mv fun o e=>up _ o D.i1z e) (f25.mv fun o e=>up _ o D.i2z e) t8 s8 fun c o c1 c2 c3 c4 e=>up c o c1 (kp c o c1 c2 c3 c4 e)
theorem x5q{z TI TO i1 i2 l1 l2:Addr}{k1 k2:Nat}{xs ys:Array Value}{a b:Value}{Q:Fin->Shared->Prop}(hh:A.handled=none)(D:ZipApart z TI TO i1 i2 l1 l2)(hz:IsZip s.heap z TI TO .none)(hTI:IsPair s.heap TI (.ref i1) (.ref i2))(hTO:IsPair s.heap TO a b)
 (h1:SIt b1 s.heap i1 l1 k1) (h2:SIt b2 s.heap i2 l2 k2) (hl1:SOb b1 s.heap l1 xs) (hl2:SOb b2 s.heap l2 ys) (hend:xs[k1]? = none∨ys[k2]? = none)
 (hE:∀h' e,(∀c o,c≠z->c≠TO->c≠i1->c≠i2->s.heap.get? c=some o->h'.get? c=some o)->(∃o,h'.get? e=some o/\o.cls = .type "StopIteration")->E (.ref e) { s with heap:=h' }) :
 wpAny (model prog w) A (Builtin.«zip.__next__» ⟨[.ref z],[]⟩) Q E s:=by
 refine(show wpAny _ _ (field (.ref z) 2>>=_) _ _ _ from wpAny_bind (wpAny_field hz rfl (x:=.bool false) rfl (show wpAny _ _ (field (.ref z) 3>>=_) _ _ _ from wpAny_bind (wpAny_field hz rfl (x:=.ref TI) rfl (wpAny_bind (wpAny_seqItems hTI rfl (show wpAny _ _ (Builtin.SmallTypes.ownedTupleIsFree (.ref z)>>=_) _ _ _ from wpAny_bind ?_)))))))
 unfold Builtin.SmallTypes.ownedTupleIsFree
 refine wpAny_bind (wpAny_field hz rfl (x:=.none) rfl (wpAny_pure ?_));simp only[if_true]
 refine wpAny_bind (wpAny_rule (wpAny_bind (wpAny_field hz rfl (x:=.ref TO) rfl (wpAny_bind (wpAny_setField_rec hz (by simp) fun g1 (hz1:IsZip g1 z TI TO .ellipsis) n1=>wpAny_bind ?_)))))
 simp only[List.zipIdx_cons,List.zipIdx_nil,List.forIn_cons,List.forIn_nil]
 have apart:∀{g:Heap} {e:Addr} {oe:Obj},IsZip g z TI TO .ellipsis->g.get? e=some oe->oe.cls = .type "StopIteration"->e≠z:=fun q1 q2 q3 q4=>by subst q4;rw[q1] at q2;cases q2;simp at q3
 refine wpAny_bind (wpAny_bind (wpAny_onRaise (show wpAny _ _ (Builtin.SmallTypes.nextOf (.ref i1)>>=_) _ _ _ from wpAny_bind ?_)))
 cases hx:xs[k1]? with
 | none =>
   refine y0a hh (h1.mv fun o e=>n1.extBut _ _ D.i1z e) (hl1.mv fun o e=>n1.extBut _ _ D.l1z e) hx fun g2 e n2 ⟨oe,hoe,hce⟩=>?_
   have hz2:IsZip g2 z TI TO .ellipsis:=n2 _ _ D.i1z.symm hz1
   exact wpAny_setField_rec hz2 (by simp) fun g3 _ n3=>hE g3 e (fun c o c1 _ c3 _ q=>n3.extBut _ _ c1 (n2 _ _ c3 (n1.extBut _ _ c1 q))) ⟨oe,n3.extBut _ _ (apart hz2 hoe hce) hoe,hce⟩
 | some x =>
   have hy:ys[k2]? = none:=hend.resolve_left fun q=>by rw[hx] at q;cases q
   refine y4s (h1.mv fun o e=>n1.extBut _ _ D.i1z e) (hl1.mv fun o e=>n1.extBut _ _ D.l1z e) hx fun g2 f1 n2=>wpAny_pure ?_
   have pT2:IsPair g2 TO a b:=n2.extBut _ _ D.TOi1 (n1.extBut _ _ D.TOz hTO)
   refine wpAny_bind (wpAny_seqItems pT2 rfl (wpAny_bind (wpAny_updateSeq_pair pT2 fun g3 pT3 n3=>wpAny_bind (wpAny_letGo (wpAny_pure ?_)))))
   refine wpAny_bind (wpAny_bind (wpAny_onRaise (show wpAny _ _ (Builtin.SmallTypes.nextOf (.ref i2)>>=_) _ _ _ from wpAny_bind (y0a hh (h2.mv fun o e=>n3.extBut _ _ D.TOi2.symm (n2.extBut _ _ D.i12.symm (n1.extBut _ _ D.i2z e))) (hl2.mv fun o e=>n3.extBut _ _ D.l2TO (n2.extBut _ _ D.l2i1 (n1.extBut _ _ D.l2z e))) hy fun g4 e n4 ⟨oe,hoe,hce⟩=>?_))))
   have hz4:IsZip g4 z TI TO .ellipsis:=n4 _ _ D.i2z.symm (n3.extBut _ _ D.TOz.symm (n2.extBut _ _ D.i1z.symm hz1))
   exact wpAny_setField_rec hz4 (by simp) fun g5 _ n5=>hE g5 e (fun c o c1 c2 c3 c4 q=>n5.extBut _ _ c1 (n4 _ _ c4 (n3.extBut _ _ c2 (n2.extBut _ _ c3 (n1.extBut _ _ c1 q))))) ⟨oe,n5.extBut _ _ (apart hz4 hoe hce) hoe,hce⟩
theorem x3h{z TI TO i1 i2 l1 l2:Addr}{k1 k2:Nat}{xs ys:Array Value}{x y a b:Value}{Q:Option Value->Shared->Prop}(D:ZipApart z TI TO i1 i2 l1 l2)(hz:IsZip s.heap z TI TO .none)(hTI:IsPair s.heap TI (.ref i1) (.ref i2))(hTO:IsPair s.heap TO a b)
 (h1:SIt b1 s.heap i1 l1 k1) (h2:SIt b2 s.heap i2 l2 k2) (hl1:SOb b1 s.heap l1 xs) (hl2:SOb b2 s.heap l2 ys) (hx:xs[k1]? = some x) (hy:ys[k2]? = some y)
 (hQ:∀h',IsZip h' z TI TO (rawInt s.heap.objs.size)->IsPair h' TO x y->SIt b1 h' i1 l1 (k1+1)->SIt b2 h' i2 l2 (k2+1)->IsPair h' s.heap.objs.size x y->h'.objs.size=s.heap.objs.size+1->(∀c o,c≠z->c≠TO->c≠i1->c≠i2->s.heap.get? c=some o->h'.get? c=some o)->Q (some (.ref s.heap.objs.size)) { s with heap:=h' }) :
 wpAny (model prog w) A (pyNext (.ref z)) Q E s:=by
 have hT:s.TypeIs (.ref z) "zip":=⟨_,hz,rfl⟩
 unfold pyNext
 exact wpAny_bind (wpAny_attempt (wpAny_callSpecial?_slot (name:=Str.ofString "__next__") hT F.slot_zip_next (wpAny_call_entry F.slot_zip_next hT F.entry_zip_next (x3i D hz hTI hTO h1 h2 hl1 hl2 hx hy fun h' a1 a2 a3 a4 a5 a6 a7=>wpAny_pure (hQ h' a1 a2 a3 a4 a5 a6 a7)) (F.args_zip_next_1 _))))
theorem x3g{z TI TO i1 i2 l1 l2:Addr}{k1 k2:Nat}{xs ys:Array Value}{a b:Value}{Q:Option Value->Shared->Prop}(hh:A.handled=none)(D:ZipApart z TI TO i1 i2 l1 l2)(hz:IsZip s.heap z TI TO .none)(hTI:IsPair s.heap TI (.ref i1) (.ref i2))(hTO:IsPair s.heap TO a b)
 (h1:SIt b1 s.heap i1 l1 k1) (h2:SIt b2 s.heap i2 l2 k2) (hl1:SOb b1 s.heap l1 xs) (hl2:SOb b2 s.heap l2 ys) (hend:xs[k1]? = none∨ys[k2]? = none)
 (hQ:∀h',(∀c o,c≠z->c≠TO->c≠i1->c≠i2->s.heap.get? c=some o->h'.get? c=some o)->Q none { s with heap:=h' }):wpAny (model prog w) A (pyNext (.ref z)) Q E s:=by
 have hT:s.TypeIs (.ref z) "zip":=⟨_,hz,rfl⟩
 unfold pyNext
 refine wpAny_bind (wpAny_attempt (wpAny_callSpecial?_slot (name:=Str.ofString "__next__") hT F.slot_zip_next (wpAny_call_entry F.slot_zip_next hT F.entry_zip_next (x5q hh D hz hTI hTO h1 h2 hl1 hl2 hend fun h' e hk ⟨o,ho,hc⟩=>?_) (F.args_zip_next_1 _))))
 exact wpAny_bind (wpAny_isInstance (T:="StopIteration") (b:=true) ⟨o,ho,hc⟩ isSubtype_stop (wpAny_pure (hQ _ hk)))
end
noncomputable def itn(b:Bool):String:=if b=true then "list_iterator" else "tuple_iterator"
noncomputable abbrev zA (b:Bool) (h:Heap) (l:Addr):Heap:=h.push { cls:=.type (itn b),data:=.fields #[.ref l,.int 0 0] }
noncomputable abbrev zB (b1 b2:Bool) (h:Heap) (l1 l2:Addr):Heap:=zA b2 (zA b1 h l1) l2
noncomputable abbrev zC (b1 b2:Bool) (h:Heap) (l1 l2:Addr):Heap:=(zB b1 b2 h l1 l2).push { cls:=.type "tuple",data:=.seq #[.ref h.objs.size,.ref (zA b1 h l1).objs.size] }
noncomputable abbrev zE (b1 b2:Bool) (h:Heap) (l1 l2:Addr):Heap:=(zC b1 b2 h l1 l2).push { cls:=.type "tuple",data:=.seq #[.none,.none] }
noncomputable abbrev zF (b1 b2:Bool) (h:Heap) (l1 l2:Addr):Heap:=(zE b1 b2 h l1 l2).push { cls:=.type "zip",data:=.fields #[.none,.bool false,.bool false,.ref (zB b1 b2 h l1 l2).objs.size,.ref (zC b1 b2 h l1 l2).objs.size] }
theorem x1r(b1 b2:Bool)(l1 l2:Addr)(xs ys:Array Value) :
 Meets (Builtin.«zip.__new__» ⟨[.type "zip",.ref l1,.ref l2],[]⟩) (fun _ R s=>SOb b1 s.heap l1 xs/\SOb b2 s.heap l2 ys/\R (.ok (.ret (.ref (zE b1 b2 s.heap l1 l2).objs.size))) { s with heap:=zF b1 b2 s.heap l1 l2 }) :=
 .of_wp fun prog w A R s h=>by
  obtain⟨hp,g,d,tk,os⟩:=s
  obtain⟨q1,q2,h⟩:=h
  have hsub:=sub_zip
  cases b1<;>cases b2
  ·have e1:Heap.IsTuple (Shared.heap ⟨hp,g,d,tk,os⟩) l1 xs:=q1
   have e2:Heap.IsTuple (Shared.heap ⟨hp.push { cls:=.type "tuple_iterator",data:=.fields #[.ref l1,.int 0 0] },g,d,tk,os⟩) l2 ys:=(show SOb false _ l2 ys from SOb.mv q2 fun o e=>Heap.get?_push_of_some _ e)
   wp_walk using wpAny_pyIter_tuple e1,wpAny_pyIter_tuple e2
   exact⟨_,rfl,h⟩
  ·have e1:Heap.IsTuple (Shared.heap ⟨hp,g,d,tk,os⟩) l1 xs:=q1
   have e2:Heap.IsList (Shared.heap ⟨hp.push { cls:=.type "tuple_iterator",data:=.fields #[.ref l1,.int 0 0] },g,d,tk,os⟩) l2 ys:=(show SOb true _ l2 ys from SOb.mv q2 fun o e=>Heap.get?_push_of_some _ e)
   wp_walk using wpAny_pyIter_tuple e1,wpAny_pyIter_list e2
   exact⟨_,rfl,h⟩
  ·have e1:Heap.IsList (Shared.heap ⟨hp,g,d,tk,os⟩) l1 xs:=q1
   have e2:Heap.IsTuple (Shared.heap ⟨hp.push { cls:=.type "list_iterator",data:=.fields #[.ref l1,.int 0 0] },g,d,tk,os⟩) l2 ys:=(show SOb false _ l2 ys from SOb.mv q2 fun o e=>Heap.get?_push_of_some _ e)
   wp_walk using wpAny_pyIter_list e1,wpAny_pyIter_tuple e2
   exact⟨_,rfl,h⟩
  ·have e1:Heap.IsList (Shared.heap ⟨hp,g,d,tk,os⟩) l1 xs:=q1
   have e2:Heap.IsList (Shared.heap ⟨hp.push { cls:=.type "list_iterator",data:=.fields #[.ref l1,.int 0 0] },g,d,tk,os⟩) l2 ys:=(show SOb true _ l2 ys from SOb.mv q2 fun o e=>Heap.get?_push_of_some _ e)
   wp_walk using wpAny_pyIter_list e1,wpAny_pyIter_list e2
   exact⟨_,rfl,h⟩
section
variable {prog:Program}{w:World}{A:Around}{E:Value->Shared->Prop}{s:Shared}{b1 b2:Bool}
theorem x5m{l1 l2:Addr}{xs ys:Array Value}{Q:Value->Shared->Prop}(q1:SOb b1 s.heap l1 xs)(q2:SOb b2 s.heap l2 ys)
 (h:∀h',IsZip h' (s.heap.objs.size+4) (s.heap.objs.size+2) (s.heap.objs.size+3) .none->IsPair h' (s.heap.objs.size+2) (.ref s.heap.objs.size) (.ref (s.heap.objs.size+1))->IsPair h' (s.heap.objs.size+3) .none .none->SIt b1 h' s.heap.objs.size l1 0->SIt b2 h' (s.heap.objs.size+1) l2 0->h'.objs.size=s.heap.objs.size+5 ->
   (∀c o,s.heap.get? c=some o->h'.get? c=some o)->Q (.ref (s.heap.objs.size+4)) { s with heap:=h' }):wpAny (model prog w) A (call (.type "zip") [.ref l1,.ref l2]) Q E s:=by
 refine callType_new F.called_zip (by decide) (F.typeCall_zip_2 _ _) (F.newCall_zip_2 _ _) (fun obj=>F.args_object_init_3 obj _ _) F.entry_zip_new (x1r b1 b2 l1 l2 xs ys) ⟨q1,q2,?_⟩
 have y1:(zA b1 s.heap l1).objs.size=s.heap.objs.size+1:=Heap.size_push ..
 have y2:(zB b1 b2 s.heap l1 l2).objs.size=s.heap.objs.size+2:=by rw[Heap.size_push,y1]
 have y3:(zC b1 b2 s.heap l1 l2).objs.size=s.heap.objs.size+3:=by rw[Heap.size_push,y2]
 have y4:(zE b1 b2 s.heap l1 l2).objs.size=s.heap.objs.size+4:=by rw[Heap.size_push,y3]
 have y5:(zF b1 b2 s.heap l1 l2).objs.size=s.heap.objs.size+5:=by rw[Heap.size_push,y4]
 have u5:(zF b1 b2 s.heap l1 l2).get? (zE b1 b2 s.heap l1 l2).objs.size=some _:=Heap.get?_push_size _ rfl
 have u4:(zF b1 b2 s.heap l1 l2).get? (zC b1 b2 s.heap l1 l2).objs.size=some _:=Heap.get?_push_of_some _ (Heap.get?_push_size _ rfl)
 have u3:(zF b1 b2 s.heap l1 l2).get? (zB b1 b2 s.heap l1 l2).objs.size=some _:=Heap.get?_push_of_some _ (Heap.get?_push_of_some _ (Heap.get?_push_size _ rfl))
 have u2:(zF b1 b2 s.heap l1 l2).get? (zA b1 s.heap l1).objs.size=some { cls:=.type (itn b2),data:=.fields #[.ref l2,.int 0 0] }:=Heap.get?_push_of_some _ (Heap.get?_push_of_some _ (Heap.get?_push_of_some _ (Heap.get?_push_size _ rfl)))
 have u1:(zF b1 b2 s.heap l1 l2).get? s.heap.objs.size=some { cls:=.type (itn b1),data:=.fields #[.ref l1,.int 0 0] }:=Heap.get?_push_of_some _ (Heap.get?_push_of_some _ (Heap.get?_push_of_some _ (Heap.get?_push_of_some _ (Heap.get?_push_size _ rfl))))
 show _/\_
 rw[y2,y3,y4] at u5
 rw[y1,y2] at u3
 rw[y3] at u4
 rw[y1] at u2
 rw[y4]
 have i1:SIt b1 (zF b1 b2 s.heap l1 l2) s.heap.objs.size l1 0:=by
  cases b1
  ·exact⟨_,u1,rfl,rfl⟩
  ·exact⟨_,u1,rfl,rfl⟩
 have i2:SIt b2 (zF b1 b2 s.heap l1 l2) (s.heap.objs.size+1) l2 0:=by
  cases b2
  ·exact⟨_,u2,rfl,rfl⟩
  ·exact⟨_,u2,rfl,rfl⟩
 exact⟨⟨_,u5,rfl⟩,h _ u5 u3 u4 i1 i2 y5 fun c o x=>Heap.get?_push_of_some _ (Heap.get?_push_of_some _ (Heap.get?_push_of_some _ (Heap.get?_push_of_some _ (Heap.get?_push_of_some _ x))))⟩
end
section
variable {X:Cx}{pins:List (Addr×Obj)}{σ:St}{H:Hp}{s:Shared}{h':Heap}
theorem x5t{ch:List Addr}{t':Nat}(I:Inv X pins σ H s)(hf:∀b∈ch,FpOk X pins H b)(k:∀b o,b ∉ ch->s.heap.get? b=some o->h'.get? b=some o):Inv X pins σ H { s with heap:=h',toks:=t' }:=by
 have nit:∀b u,H b=some u->b ∉ ch:=fun b u e z=>by rw[(hf b z).1] at e;cases e
 have nL:X.env.locals ∉ ch:=fun z=>(hf _ z).2.1 rfl
 refine I.step (g':=s.gens) (d':=s.drawn) (ch:=ch) (fun b hb=>?_) (fun b o _ _ hc e _=>k b o hc e) (fun b o _ _ hc e _=>⟨o.slots,k b o hc e⟩) (fun _ _ _ _ n=>n) (fun b o hc e=>⟨o,k b o hc e⟩) (fun _ _ e=>e) (fun _ _ _ e=>e) (fun b ps e=>⟨#[],by rw[e];simp⟩) (fun m hm=>?_) (fun b u e=>?_) I.bare
 ·obtain⟨f0,f1,f2,f3,f4,f5⟩:=hf b hb
  exact⟨f3.imp_right fun z=>Heap.get?_none_of_le z,f1,f4,f5⟩
 ·obtain⟨o,es,ep,ho,r⟩:=hm
  exact⟨o,es,ep,k _ o nL ho,r⟩
 ·refine(I.hok b u e).stay (fun c v hc q=>k c v ?_ q) (fun _ q=>q) fun _ _ q=>q
  rcases hc with z | z
  ·rw[z];exact nit b u e
  ·exact nit c _ z
theorem x5s{ch:List Addr}{t':Nat}{T:Addr}{xs:List V}{its:List Value}(I:Inv X pins σ H s)(hf:∀b∈ch,FpOk X pins H b)(k:∀b o,b ∉ ch->s.heap.get? b=some o->h'.get? b=some o)(hT:s.heap.objs.size<=T)(hz:xs.length<=sizeLine)(rv:Vals xs its)(ht:IsTup h' T its.toArray):Inv X pins σ (upd H T (.tup xs)) { s with heap:=h',toks:=t' }:=by
 have nit:∀b u,H b=some u->b ∉ ch:=fun b u e z=>by rw[(hf b z).1] at e;cases e
 have nL:X.env.locals ∉ ch:=fun z=>(hf _ z).2.1 rfl
 have hn:H T=none:=I.hok.fresh hT
 have neT:∀b o,s.heap.get? b=some o->b≠T:=fun b o e=>Nat.ne_of_lt (Nat.lt_of_lt_of_le (Heap.lt_size e) hT)
 have nT:∀b u,H b=some u->b≠T:=fun b u e=>z0p e hn
 refine I.step (g':=s.gens) (d':=s.drawn) (ch:=ch) (fun b hb=>?_) (fun b o _ _ hc e _=>k b o hc e) (fun b o _ _ hc e _=>⟨o.slots,k b o hc e⟩) (fun b o _ e n=>by rw[z0k (neT b o e)];exact n) (fun b o hc e=>⟨o,k b o hc e⟩)
  (fun b u e=>by rw[z0k (nT b _ e)];exact e) (fun b o u e=>by rw[z0k (nT b _ e)];exact e) (fun b ps e=>⟨#[],by rw[z0k (nT b _ e),e];simp⟩) (fun m hm=>?_) (fun b u e=>?_) I.bare
 ·obtain⟨f0,f1,f2,f3,f4,f5⟩:=hf b hb
  exact⟨f3.imp_right fun z=>Heap.get?_none_of_le z,f1,f4,f5⟩
 ·obtain⟨o,es,ep,ho,r⟩:=hm
  exact⟨o,es,ep,k _ o nL ho,r⟩
 ·by_cases hb:b=T
  ·subst hb
   rw[z0m] at e
   cases e
   exact⟨hz,its,rv,ht⟩
  ·rw[z0k hb] at e
   refine(I.hok b u e).stay (fun c v hc q=>k c v ?_ q) (fun c q=>by rw[z0k (nT c _ q)];exact q) fun c u' q=>by rw[z0k (nT c _ q)];exact q
   rcases hc with z | z
   ·rw[z];exact nit b u e
   ·exact nit c _ z
noncomputable def Sq(b:Bool)(K:PySem.W.Frag)(H:Hp)(l:Addr)(xs:List V):Prop:=if b=true then SqL K H l xs else SqT K H l xs
theorem y1g{b:Bool}{l:Addr}{xs:List V}(I:Inv X pins σ H s)(h:Sq b X.K H l xs):∃its:List Value,Vals xs its/\SOb b s.heap l its.toArray/\xs.length<=sizeLine:=by
 cases b
 ·obtain⟨its,rv,p,hz⟩:=I.tuple h
  exact⟨its,rv,(show s.heap.IsTuple l its.toArray from p),hz⟩
 ·obtain⟨its,rv,p,hz⟩:=I.list h
  exact⟨its,rv,p.isList,hz⟩
theorem y8k{b:Bool}{l:Addr}{xs ys:List V}(I:Inv X pins σ H s)(h:Sq b X.K H l xs)(h':Sq b X.K H l ys):xs=ys:=by
 cases b
 ·exact I.tuple_inj h h'
 ·exact I.list_inj h h'
theorem Sq.same{b:Bool}{K:PySem.W.Frag}{H H':Hp}{l:Addr}{xs:List V}(h:Sq b K H l xs)(S:Same H H'):Sq b K H' l xs:=by
 cases b
 ·exact z6h S h
 ·exact S.seq h
end
noncomputable def Itz(b1 b2:Bool)(K:PySem.W.Frag)(l1 l2:Addr):It :=
 ⟨fun i H=>∃xs x ys y,Sq b1 K H l1 xs/\xs[i]? = some x/\Sq b2 K H l2 ys/\ys[i]? = some y,
  fun i H v H'=>∃T x y,v = .ref T/\H T=none/\H'=upd H T (.tup [x,y])/\(∀xs,Sq b1 K H l1 xs->xs[i]? = some x)/\∀ys,Sq b2 K H l2 ys->ys[i]? = some y,
  fun i H=>∃xs ys,Sq b1 K H l1 xs/\Sq b2 K H l2 ys/\(xs.length<=i∨ys.length<=i)⟩
theorem x0y{P:Program}{w:World}{K:PySem.W.Frag}{b1 b2:Bool}{elts:List Expr}{kt}{pt:Pos}{z TI TO i1 i2 l1 l2:Addr}(D:ZipApart z TI TO i1 i2 l1 l2):Turn P w K (.Tuple elts kt pt) (Itz b1 b2 K l1 l2) [z,TI,TO,i1,i2] z
 (fun i h=>IsZip h z TI TO .none/\IsPair h TI (.ref i1) (.ref i2)/\(∃a b,IsPair h TO a b)/\SIt b1 h i1 l1 i/\SIt b2 h i2 l2 i) where
 mem:=by simp
 obj:=fun i h ⟨q1,q2,⟨a,b,q3⟩,q4,q5⟩ c hc=>by
  simp only[List.mem_cons,List.not_mem_nil,or_false] at hc
  rcases hc with rfl | rfl | rfl | rfl | rfl
  ·exact⟨_,q1,fun v z=>nomatch z⟩
  ·exact⟨_,q2,fun v z=>nomatch z⟩
  ·exact⟨_,q3,fun v z=>nomatch z⟩
  ·obtain⟨o,vs,e,d⟩:=q4.obj;exact⟨o,e,fun v z=>by rw[d] at z;cases z⟩
  ·obtain⟨o,vs,e,d⟩:=q5.obj;exact⟨o,e,fun v z=>by rw[d] at z;cases z⟩
 keep:=fun i h h' ⟨q1,q2,⟨a,b,q3⟩,q4,q5⟩ k=>⟨k z (by simp) _ q1,k TI (by simp) _ q2,⟨a,b,k TO (by simp) _ q3⟩,q4.mv fun o e=>k i1 (by simp) o e,q5.mv fun o e=>k i2 (by simp) o e⟩
 item:=by
  intro X hP hw hK hc i pins s σ H E I hf ⟨q1,q2,⟨a,b,q3⟩,q4,q5⟩ ⟨xs,x,ys,y,s1,ex,s2,ey⟩
  subst hP hw hK
  obtain⟨its1,rv1,o1,z1⟩:=y1g I s1
  obtain⟨its2,rv2,o2,z2⟩:=y1g I s2
  obtain⟨u,hu,ru⟩:=rv1.get ex
  obtain⟨v,hv,rv⟩:=rv2.get ey
  refine x3h D q1 q2 q3 q4 q5 o1 o2 (x:=u) (y:=v) (by simpa using hu) (by simpa using hv) fun h' a1 a2 a3 a4 a5 a6 a7=>⟨_,rfl,?_⟩
  refine wpAny_letOwnedTupleGo_zip (s:={ s with heap:=h' }) a1 fun h'' c1 c2=>?_
  have Tz:s.heap.objs.size≠z:=Nat.ne_of_gt (Heap.lt_size q1)
  have kk:∀c o,c ∉ [z,TI,TO,i1,i2]->s.heap.get? c=some o->h''.get? c=some o:=fun c o hc e=>by
   simp only[List.mem_cons,List.not_mem_nil,or_false,not_or] at hc
   exact c2.extBut _ _ hc.1 (a7 c o hc.1 hc.2.2.1 hc.2.2.2.1 hc.2.2.2.2 e)
  have tT:IsTup h'' s.heap.objs.size [u,v].toArray:=⟨_,c2.extBut _ _ Tz a5,rfl,_,rfl⟩
  have I1:=x5s (t':=s.toks) (xs:=[x,y]) I hf kk (Nat.le_refl _) (by rw[sizeLine_eq];exact(by decide:(2:Nat)<=16777216)) (.cons ru (.cons rv .nil)) tT
  refine⟨.ref s.heap.objs.size,_,I1,rfl,⟨_,x,y,rfl,I.hok.fresh (Nat.le_refl _),rfl,fun xs' q=>by rw[y8k I q s1];exact ex,fun ys' q=>by rw[y8k I q s2];exact ey⟩,?_,fun c hc=>?_⟩
  ·exact⟨c1,c2.extBut _ _ D.TIz (a7 _ _ D.TIz D.TITO D.TIi1 D.TIi2 q2),⟨_,_,c2.extBut _ _ D.TOz a2⟩,a3.mv fun o e=>c2.extBut _ _ D.i1z e,a4.mv fun o e=>c2.extBut _ _ D.i2z e⟩
  ·rw[z0k]
   ·exact(hf c hc).1
   ·intro e
    have ex:∃o,s.heap.get? c=some o:=by
     simp only[List.mem_cons,List.not_mem_nil,or_false] at hc
     rcases hc with rfl | rfl | rfl | rfl | rfl
     ·exact⟨_,q1⟩
     ·exact⟨_,q2⟩
     ·exact⟨_,q3⟩
     ·obtain⟨o,_,e,_⟩:=q4.obj;exact⟨o,e⟩
     ·obtain⟨o,_,e,_⟩:=q5.obj;exact⟨o,e⟩
    obtain⟨o,eo⟩:=ex
    exact absurd (Heap.lt_size eo) (by rw[e];exact Nat.lt_irrefl _)
 done:=by
  intro X hP hw hK hc i pins s σ H E I hf ⟨q1,q2,⟨a,b,q3⟩,q4,q5⟩ ⟨xs,ys,s1,s2,hend⟩
  subst hP hw hK
  obtain⟨its1,rv1,o1,z1⟩:=y1g I s1
  obtain⟨its2,rv2,o2,z2⟩:=y1g I s2
  have n1:=rv1.length
  have n2:=rv2.length
  refine x3g (I.ok.hd hc) D q1 q2 q3 q4 q5 o1 o2 (hend.imp (fun z=>by simp;lia) fun z=>by simp;lia) fun h' kk=>⟨rfl,x5t (t':=s.toks) I hf fun c o hc e=>?_⟩
  simp only[List.mem_cons,List.not_mem_nil,or_false,not_or] at hc
  exact kk c o hc.1 hc.2.2.1 hc.2.2.2.1 hc.2.2.2.2 e
 self:=fun _ _ _ _ _ st h=>wpAny_pyIter_zip st.1 h
theorem y5h:∀{xs ys:List D} {i:Nat} {x y:D},xs[i]? = some x->ys[i]? = some y->(zipD xs ys)[i]? = some (.tup [x,y])
 | [],_,_,_,_,h,_=>by simp at h
 | _::_,[],_,_,_,_,h=>by simp at h
 | a::xs,b::ys,0,x,y,h1,h2=>by simp at h1 h2;subst h1 h2;simp[zipD]
 | a::xs,b::ys,i+1,x,y,h1,h2=>by simp only[zipD,List.getElem?_cons_succ] at *;exact y5h h1 h2
theorem y5g:∀xs ys:List D,(zipD xs ys).length=min xs.length ys.length
 | [],_=>by simp[zipD]
 | _::_,[]=>by simp[zipD]
 | a::xs,b::ys=>by simp[zipD,y5g xs ys]
theorem x4y{b1 b2:Bool}{K:PySem.W.Frag}{H:Hp}{F:List Addr}{l1 l2:Addr}{xs ys:List V}{ds es:List D}(fo:FOk H F)(h1:Sq b1 K H l1 xs)(h2:Sq b2 K H l2 ys)(i1:IsAll K (hid F H) ds xs)(i2:IsAll K (hid F H) es ys):JC2 K H F (Itz b1 b2 K l1 l2) (zipD ds es):=fun H1 S=>by
 have q1:=h1.same S
 have q2:=h2.same S
 have n1:=i1.length
 have n2:=i2.length
 have nz:=y5g ds es
 refine⟨fun i hi=>⟨⟨xs,xs[i]'(by lia),ys,ys[i]'(by lia),q1,List.getElem?_eq_getElem (by lia),q2,List.getElem?_eq_getElem (by lia)⟩,fun v H2 y=>?_⟩,⟨xs,ys,q1,q2,by lia⟩⟩
 obtain⟨T,x,y',rfl,hT,rfl,e1,e2⟩:=y
 obtain⟨d,ed,iv⟩:=i1.getX (e1 xs q1)
 obtain⟨d',ed',iv'⟩:=i2.getX (e2 ys q2)
 have S2:=z1k hT (.tup [x,y'])
 exact⟨S2,d,d',T,x,y',y5h ed ed',rfl,SqT.of z0m,iv.same (z2c (S.trans S2)),iv'.same (z2c (S.trans S2))⟩
theorem x0v{n l1 l2:Nat}(h1:l1<n)(h2:l2<n):ZipApart (n+4) (n+2) (n+3) n (n+1) l1 l2:=by
 constructor<;>(show @Ne Nat _ _;lia)
theorem x2m:bootBuiltins ("zip":Str)=some (.type "zip"):=by decide +kernel
section
variable {X:Cx}{a b:Expr}{ga gb:G->R D}
theorem y5k{F:List Addr}{H:Hp}{d:D}{v:V}{ds:List D}(fo:FOk H F)(i:Is X.K H d v)(e:dSeq d = .ok ds)(n:D.noLs ds=true):∃b l xs,v = .ref l/\Sq b X.K H l xs/\IsAll X.K (hid F H) ds xs:=by
 cases d with
 | tup es =>
   cases e
   obtain⟨l,xs,rfl,h1,h2⟩:=Is.tup_iff.mp i
   exact⟨false,l,xs,rfl,h1,IsAll.hid fo _ xs n h2⟩
 | lst es =>
   cases e
   obtain⟨l,xs,rfl,h1,h2⟩:=Is.lst_iff.mp i
   exact⟨true,l,xs,rfl,h1,IsAll.hid fo _ xs n h2⟩
 | _=>cases e
theorem y5t{elts:List Expr}{kt}{pt p pos:Pos}(ha:PD X a ga)(hb:PD X b gb)(hm:X.mg "zip"=none)(hg:Gl X "zip":=by rfl)(hs:starEach [a,b] X.env=[(false,eval a X.env),(false,eval b X.env)]:=by rfl)(hs2:starEach [b] X.env=[(false,eval b X.env)]:=by rfl) :
 PIx JC2 X (.Tuple elts kt pt) (.Call (.Name "zip" p) [a,b] [] pos) (gZip ga gb):=by
 refine⟨fun pins s σ H F Γ I fo rl hgg=>?_⟩
 refine Call_ (z6c I hg hm x2m (PyProof.Rows.callWith_type1 ?_ (by rw[hs,hs2]) (by rw[hs2];rfl)))
 rw[hs]
 show wpAny _ _ (spliced ((false,eval a X.env)::backTo pos [(false,eval b X.env)])) _ _ s
 refine Calls.spliced_cons (wpAny_mono (ha.run pins s σ H F Γ I fo rl (R.left hgg)) (fun u s1 ⟨d,v,H1,e1,I1,r1,S1,i1⟩=>?_) fun _ _ x=>x.bind _)
 have hg1:=R.next hgg e1
 show wpAny _ _ (spliced ((false,eval b X.env)::backTo pos [])) _ _ s1
 refine Calls.spliced_cons (wpAny_mono (hb.run pins s1 σ H1 F Γ I1 (fo.same S1) (rl.same S1) (R.left hg1)) (fun u2 s2 ⟨d2,v2,H2,e2,I2,r2,S2,i2⟩=>Calls.spliced_nil ?_) fun _ _ x=>z1m.later e1 S1 (x.bind _))
 have hg2:=R.next hg1 e2
 obtain⟨ds,ed⟩:∃ds,dSeq d = .ok ds:=by
  cases q:dSeq d with
  | ok ds=>exact⟨ds,rfl⟩
  | no=>exact absurd (by show(dSeq d>>=_)=R.no;rw[q];rfl) hg2
  | er c=>cases d<;>cases q
 have hg3:=R.next hg2 ed
 obtain⟨es,ee⟩:∃es,dSeq d2 = .ok es:=by
  cases q:dSeq d2 with
  | ok ds=>exact⟨ds,rfl⟩
  | no=>exact absurd (by show(dSeq d2>>=_)=R.no;rw[q];rfl) hg3
  | er c=>cases d2<;>cases q
 have hg4:=R.next hg3 ee
 obtain⟨⟨n1,n2⟩,e5⟩:=R.guard_ne hg4
 have fo2:=(fo.same S1).same S2
 obtain⟨b1,l1,xs,rfl,q1,j1⟩:=y5k (X:=X) fo2 (i1.same S2) ed n1
 obtain⟨b2,l2,ys,rfl,q2,j2⟩:=y5k (X:=X) fo2 i2 ee n2
 cases (show u=Value.ref l1 from r1)
 cases (show u2=Value.ref l2 from r2)
 obtain⟨its1,rv1,o1,z1⟩:=y1g I2 q1
 obtain⟨its2,rv2,o2,z2⟩:=y1g I2 q2
 have lt:∀{b:Bool} {l:Addr} {its:Array Value},SOb b s2.heap l its->l<s2.heap.objs.size:=fun {b l its} o=>by
  cases b
  ·obtain⟨o',e,_⟩:=(show s2.heap.IsTuple l its from o);exact Heap.lt_size e
  ·obtain⟨o',e,_⟩:=(show s2.heap.IsList l its from o);exact Heap.lt_size e
 have m1:=lt o1
 have m2:=lt o2
 refine x5m o1 o2 fun h' a1 a2 a3 a4 a5 a6 a7=>?_
 refine wpAny_pyIter_zip (s:={ s2 with heap:=h' }) a1 ?_
 have I3:Inv X pins σ H2 { s2 with heap:=h' }:=I2.kept (t':=s2.toks) a7
 have D:ZipApart (s2.heap.objs.size+4) (s2.heap.objs.size+2) (s2.heap.objs.size+3) s2.heap.objs.size (s2.heap.objs.size+1) l1 l2:=x0v m1 m2
 refine⟨zipD ds es,s2.heap.objs.size+4,_,_,Itz b1 b2 X.K l1 l2,H2,(R.step e1 _).trans ((R.step e2 _).trans ((R.step ed _).trans ((R.step ee _).trans e5))),rfl,I3,S1.trans S2,x0y D,⟨a1,a2,⟨_,_,a3⟩,a4,a5⟩,fun c hc=>?_,x4y fo2 q1 q2 j1 j2⟩
 simp only[List.mem_cons,List.not_mem_nil,or_false] at hc
 have hge:s2.heap.objs.size<=c:=by rcases hc with rfl | rfl | rfl | rfl | rfl<;>lia
 exact I2.fpOk hge (I2.hok.fresh hge)
end
section
variable {X:Cx}{e a b c:Expr}{g ga gb gc:G->R D}{pos:Pos}
end
noncomputable def Ite(K:PySem.W.Frag)(l:Addr):It :=
 ⟨fun i H=>∃xs x,SqL K H l xs/\xs[i]? = some x,
  fun i H v H'=>∃T x,v = .ref T/\H T=none/\H'=upd H T (.tup [.int (i:Int),x])/\∀xs,SqL K H l xs->xs[i]? = some x,
  fun i H=>∃xs,SqL K H l xs/\xs.length<=i⟩
theorem y7z{P:Program}{w:World}{K:PySem.W.Frag}{elts:List Expr}{kt}{pt:Pos}{e it l:Addr}(hei:e≠it):Turn P w K (.Tuple elts kt pt) (Ite K l) [e,it] e (fun i h=>(∃old,IsEnum h e it (i:Nat) old)/\h.IsListIter it l i) where
 mem:=by simp
 obj:=fun i h ⟨⟨old,q1⟩,q2⟩ c hc=>by
  simp only[List.mem_cons,List.not_mem_nil,or_false] at hc
  rcases hc with rfl | rfl
  ·exact⟨_,q1,fun v z=>nomatch z⟩
  ·obtain⟨o,e,c,d⟩:=q2;exact⟨o,e,fun v z=>by rw[d] at z;cases z⟩
 keep:=fun i h h' ⟨⟨old,q1⟩,q2⟩ k=>⟨⟨old,k e (by simp) _ q1⟩,q2.at fun o z=>k it (by simp) o z⟩
 item:=by
  intro X hP hw hK hc i pins s σ H E I hf ⟨⟨old,q1⟩,q2⟩ ⟨xs,x,s1,ex⟩
  subst hP hw hK
  obtain⟨its,rv,p,hz⟩:=I.list s1
  obtain⟨u,hu,ru⟩:=rv.get ex
  refine wpAny_pyNext_enum_item q1 q2 p.isList (x:=u) (by simpa using hu) hei fun h' a1 a2 a3 a4 a5=>⟨_,rfl,?_⟩
  refine wpAny_letOwnedTupleGo_enum (s:={ s with heap:=h',toks:=s.toks+1 }) a1 fun h'' c1 c2=>?_
  have Te:s.heap.objs.size≠e:=Nat.ne_of_gt (Heap.lt_size q1)
  have kk:∀c o,c ∉ [e,it]->s.heap.get? c=some o->h''.get? c=some o:=fun c o hc z=>by
   simp only[List.mem_cons,List.not_mem_nil,or_false,not_or] at hc
   exact c2.extBut _ _ hc.1 (a5 c o hc.1 hc.2 z)
  have tT:IsTup h'' s.heap.objs.size [Value.int i s.toks,u].toArray:=⟨_,c2.extBut _ _ Te a3,rfl,_,rfl⟩
  have I1:=x5s (t':=s.toks+1) (xs:=[.int (i:Int),x]) I hf kk (Nat.le_refl _) (by rw[sizeLine_eq];exact(by decide:(2:Nat)<=16777216)) (.cons ⟨_,rfl⟩ (.cons ru .nil)) tT
  refine⟨.ref s.heap.objs.size,_,I1,rfl,⟨_,x,rfl,I.hok.fresh (Nat.le_refl _),rfl,fun xs' q=>by rw[I.list_inj q s1];exact ex⟩,⟨⟨u,c1⟩,a2.extBut c2.extBut (Ne.symm hei)⟩,fun c hc=>?_⟩
  rw[z0k]
  ·exact(hf c hc).1
  ·intro z
   have ex:∃o,s.heap.get? c=some o:=by
    simp only[List.mem_cons,List.not_mem_nil,or_false] at hc
    rcases hc with rfl | rfl
    ·exact⟨_,q1⟩
    ·obtain⟨o,e,_⟩:=q2;exact⟨o,e⟩
   obtain⟨o,eo⟩:=ex
   exact absurd (Heap.lt_size eo) (by rw[z];exact Nat.lt_irrefl _)
 done:=by
  intro X hP hw hK hc i pins s σ H E I hf ⟨⟨old,q1⟩,q2⟩ ⟨xs,s1,hend⟩
  subst hP hw hK
  obtain⟨its,rv,p,hz⟩:=I.list s1
  have n1:=rv.length
  refine wpAny_pyNext_enum_end (I.ok.hd hc) q1 q2 p.isList (by simp;lia) fun h' kk=>⟨rfl,x5t (t':=s.toks) I hf fun c o hc z=>?_⟩
  simp only[List.mem_cons,List.not_mem_nil,or_false,not_or] at hc
  exact kk c o hc.2 z
 self:=fun _ _ _ _ _ st h=>by obtain⟨⟨old,q1⟩,_⟩:=st;exact wpAny_pyIter_enum q1 h
theorem y3m:∀{k:Nat} {xs:List D} {i:Nat} {x:D},xs[i]? = some x->(z6s k xs)[i]? = some (.tup [.int ((k+i:Nat):Int),x])
 | _,[],_,_,h=>by simp at h
 | k,a::xs,0,x,h=>by simp at h;subst h;simp[z6s]
 | k,a::xs,i+1,x,h=>by
   simp only[z6s,List.getElem?_cons_succ] at *
   rw[y3m h,show k+1+i=k+(i+1) by lia]
theorem y3l:∀(k:Nat) (xs:List D),(z6s k xs).length=xs.length
 | _,[]=>rfl
 | k,a::xs=>by simp[z6s,y3l (k+1) xs]
theorem x1y{K:PySem.W.Frag}{H:Hp}{F:List Addr}{l:Addr}{xs:List V}{ds:List D}(h1:SqL K H l xs)(i1:IsAll K (hid F H) ds xs):JC2 K H F (Ite K l) (z6s 0 ds):=fun H1 S=>by
 have q1:=S.seq h1
 have n1:=i1.length
 have nz:=y3l 0 ds
 refine⟨fun i hi=>⟨⟨xs,xs[i]'(by lia),q1,List.getElem?_eq_getElem (by lia)⟩,fun v H2 y=>?_⟩,⟨xs,q1,by lia⟩⟩
 obtain⟨T,x,rfl,hT,rfl,e1⟩:=y
 obtain⟨d,ed,iv⟩:=i1.getX (e1 xs q1)
 have S2:=z1k hT (.tup [.int (i:Int),x])
 have eg:=y3m (k:=0) ed
 rw[Nat.zero_add] at eg
 exact⟨S2,.int (i:Int),d,T,.int (i:Int),x,eg,rfl,SqT.of z0m,Is.int_iff.mpr rfl,iv.same (z2c (S.trans S2))⟩
theorem x0p:bootBuiltins ("enumerate":Str)=some (.type "enumerate"):=by decide +kernel
section
variable {X:Cx}{a b:Expr}{ga gb:G->R D}
theorem y8y{elts:List Expr}{kt}{pt p pos:Pos}(ha:PD X a ga)(hm:X.mg "enumerate"=none)(hg:Gl X "enumerate":=by rfl)(hs:starEach [a] X.env=[(false,eval a X.env)]:=by rfl) :
 PIx JC2 X (.Tuple elts kt pt) (.Call (.Name "enumerate" p) [a] [] pos) (y7j ga):=by
 refine⟨fun pins s σ H F Γ I fo rl hgg=>?_⟩
 refine Call_ (z6c I hg hm x0p (PyProof.Rows.callWith_type1 ?_ hs rfl))
 rw[hs]
 show wpAny _ _ (spliced ((false,eval a X.env)::backTo pos [])) _ _ s
 refine Calls.spliced_cons (wpAny_mono (ha.run pins s σ H F Γ I fo rl (R.left hgg)) (fun u s1 ⟨d,v,H1,e1,I1,r1,S1,i1⟩=>Calls.spliced_nil ?_) fun _ _ x=>x.bind _)
 have hg1:=R.next hgg e1
 cases d with
 | lst ds =>
   obtain⟨n1,e5⟩:=R.guard_ne (show R.guard (D.noLs ds=true) (.ok (z6s 0 ds)) ≠ .no from hg1)
   obtain⟨l,xs,rfl,q1,j1⟩:=Is.lst_iff.mp i1
   have j1':=IsAll.hid (fo.same S1) _ xs n1 j1
   cases (show u=Value.ref l from r1)
   obtain⟨its,rv,pl,hz⟩:=I1.list q1
   refine call_enumerate_list pl.isList fun h' a1 a2 a3 a4=>?_
   refine wpAny_pyIter_enum (s:={ s1 with heap:=h' }) a1 ?_
   have I3:Inv X pins σ H1 { s1 with heap:=h' }:=I1.kept (t':=s1.toks) a4
   refine⟨z6s 0 ds,s1.heap.objs.size+1,_,_,Ite X.K l,H1,(R.step e1 _).trans e5,rfl,I3,S1,y7z (it:=s1.heap.objs.size) (by show @Ne Nat _ _;lia),⟨⟨_,a1⟩,a2⟩,fun c hc=>?_,x1y q1 j1'⟩
   simp only[List.mem_cons,List.not_mem_nil,or_false] at hc
   have hge:s1.heap.objs.size<=c:=by rcases hc with rfl | rfl<;>lia
   exact I1.fpOk hge (I1.hok.fresh hge)
 | _=>exact absurd rfl hg1
end
section
variable {X:Cx}{e a b c:Expr}{g ga gb gc:G->R D}{pos pos' p:Pos}
theorem y4n(i:Nat){x x0 y:Str}{elt iter:Expr}{p0 px pt:Pos}{kt}{scope:Scope}{ifs:List Expr}{f:D->D->G->R (Option D)}{gi:G->R (List D)}(hi':PIx JC2 X (.Tuple [.Name x0 p0,.Name y px] kt pt) iter gi)(hp:PC2 X x0 y scope ifs elt f)(hN:X.N.Nodup)(hcalm:X.calm=true)(hi:X.N[i]? = some x:=by rfl)(hx:Loc X.env.scope x:=by first | exact Or.inl rfl | exact Or.inr rfl)
 (hsw:swapsWith (.ListComp elt [⟨.Tuple [.Name x0 p0,.Name y px] kt pt,iter,ifs,0⟩] scope p) (some (.Name x pos')) pos.line X.env=pure true:=by rfl) (hf:X.fn x=true∨X.env.scope.names.lookup x=some .local:=by first | exact .inl rfl | exact .inr rfl | assumption)
 (chk:z9h X.N X.env x0 y scope=true:=by rfl) (hclos:closureFor scope X.env=pure (capt X.env scope.names []):=by rfl) (hs:∀x,foldedSetIterable iter X.env x=pure x:=by intro _;rfl) :
 PQ X (.Assign [.Name x pos'] (.ListComp elt [⟨.Tuple [.Name x0 p0,.Name y px] kt pt,iter,ifs,0⟩] scope p) pos) (z3b i (z8a gi f)):=by
 refine⟨fun pins s σ H F Γ I fo rl hg=>?_⟩
 have c:=y1o chk
 rw[exec_Assign_Name_used _ _ _ _ hsw]
 refine wpAny_bind (wpAny_standAt (wpAny_bind ?_))
 show wpAny _ X.A (do let _ <-comprehension (.ListComp elt [⟨.Tuple [.Name x0 p0,.Name y px] kt pt,iter,ifs,0⟩] scope p) scope X.env _ (newList []) false (eval iter X.env) (some (assign (.Name x pos') X.env))) _ _ s
 have hg0:=z0v hg
 refine wpAny_bind (wpAny_mono (wpAny_comprehension_free (use:=some (assign (.Name x pos') X.env)) (Q:=fun _ s'=>FlP X pins H F (z3b i (z8a gi f) Γ) .next s') rfl hs hclos c.kind c.names
  (wpAny_mono (hi'.run pins s σ H F Γ I fo rl (R.left hg0)) (fun xv s₁ h₁=>wpAny_mono h₁ (fun itv s₂ h₂=>?_) fun _ _ x=>(x.bind _).lift fo rl _) fun _ _ x=>(x.bind _).lift fo rl _)) (fun _ s' hq=>wpAny_pure (wpAny_pure hq)) fun _ _ e=>e)
 obtain⟨items,it,fp,tn,J,H₂,e1,rfl,I2,S2,T,t0,fk,jc⟩:=h₂
 have hgx:=R.next hg0 e1
 obtain⟨hl,e2⟩:=R.guard_ne hgx
 have hne:z0y (z8h f Γ) items [] ≠ .no:=by
  have:=R.next hg0 e1
  rw[e2] at this;exact this
 obtain⟨total,et⟩:=z5h hne
 have eT:z8a gi f Γ = .ok total:=(R.step e1 _).trans (e2.trans et)
 refine y1q (RR:=fun acc C=>compPost (model X.prog X.w) X.A _ (some (assign (.Name x pos') X.env)) _ acc C) hp c hN hcalm I2 (fo.same S2) (rl.same S2) T t0 fk jc et hl ?_
 intro Dd C xs H' m s' hC hDC hn hn' hnC hD S' ia I' hnsC
 have nlt:∀{b:Addr} {o:Obj},s₂.heap.get? b=some o->b≠C:=fun e=>Nat.ne_of_lt (Nat.lt_of_lt_of_le (Heap.lt_size e) hC)
 have S3:=z1k hn' (.lst xs)
 have hall:Same H (upd H' Dd (.lst xs)):=(S2.trans S').trans S3
 have hH:H Dd=none:=S2.free hn
 have ia':IsAll X.K (hid (Dd::F) (upd H' Dd (.lst xs))) total xs:=ia.same fun b o hb=>by
  obtain⟨z1,z2⟩:=z2a hb
  have hbl:b≠Dd:=z0p z2 hn'
  rw[z1d fun z=>(List.mem_cons.mp z).elim hbl z1,z0k hbl]
  exact z2
 show wpAny _ X.A (assign (.Name x pos') X.env (.ref Dd)) _ _ s'
 refine wpAny_assign_Name (z9n (v:=.ref Dd) I' hN hi hx rfl (fun s3 I3 hsb=>?_) hf)
 obtain⟨aa,hsb,haa⟩:=hsb
 have haC:aa≠C:=by
  rcases haa with z | z
  ·subst z;exact Nat.ne_of_lt (Nat.lt_of_lt_of_le I2.lt hC)
  ·obtain⟨v,o,ho,_⟩:=I2.cell x aa z;exact nlt ho
 refine⟨m,hnsC.sameBut hsb (Ne.symm haC),fun h'' hs''=>?_⟩
 have I4:Inv X pins (σ.set i (some (.ref Dd))) (upd H' Dd (.lst xs)) { s3 with heap:=h'' }:=I3.turned (t':=s3.toks) (it:=C) (fun b o hb e=>hs''.extBut b o hb e) (by rw[z0k (Ne.symm hDC)];exact hnC) (Nat.ne_of_gt (Nat.lt_of_lt_of_le I2.lt hC)) (.inr (Nat.le_trans I2.sz hC))
  (fun x k e=>by obtain⟨v,o,ho,_⟩:=I2.cell x k e;exact nlt ho) (fun p hp'=>nlt (I2.pin p hp').1)
 exact⟨_,z1v eT,_,_,Dd::F,I4,(fo.same hall).cons z0m,rl.set_own fo hall hH z0m ia',⟨fun b o _ h=>hall _ _ h,fun b hb=>(List.mem_cons.mp hb).elim (fun z=>.inr (z ▸ hH)) .inl⟩⟩
end
section
variable {X:Cx}{e a b c:Expr}{g ga gb gc:G->R D}{pos pos' p:Pos}{gs:G->R (List D)}
end
theorem Rel.frzAt{K:PySem.W.Frag}{H:Hp}{F:List Addr}{Γ:G}{σ:St}(fo:FOk H F)(r:Rel K H F Γ σ)(i:Nat):∃F',(∀b∈F',b∈F)/\FOk H F'/\Rel K H F' (L3.frzAt i Γ) σ:=by
 unfold L3.frzAt
 split
 ·rename_i ds e
  obtain⟨a,xs,h1,h2,h3,h4⟩:=r.own i ds e
  have sub:∀b∈F.filter (fun b=>decide (b≠a)),b∈F:=fun b hb=>(List.mem_filter.mp hb).1
  have out:a ∉ F.filter (fun b=>decide (b≠a)):=fun z=>(of_decide_eq_true (List.mem_filter.mp z).2) rfl
  have S:Same (hid F H) (hid (F.filter (fun b=>decide (b≠a))) H):=fun b o h=>by
   obtain⟨z1,z2⟩:=z2a h
   rw[z1d fun z=>z1 (sub b z)]
   exact z2
  have hi:i<Γ.length:=by
   rcases Nat.lt_or_ge i Γ.length with z | z
   ·exact z
   ·rw[List.getElem?_eq_none z] at e;cases e
  refine⟨F.filter (fun b=>decide (b≠a)),sub,fun b hb=>fo b (sub b hb),⟨by rw[List.length_set];exact r.len,fun j d h=>?_,fun j es h=>?_,fun j k es fs c g1 g2 g3 g4=>?_⟩⟩
  ·by_cases hj:i=j
   ·subst hj
    rw[List.getElem?_set_self hi] at h
    cases h
    exact⟨.ref a,h1,Is.lst_iff.mpr ⟨a,xs,rfl,SqL.of (by rw[z1d out];exact h3),h4.same S⟩⟩
   ·rw[List.getElem?_set_ne hj] at h
    obtain⟨v,q1,q2⟩:=r.ro j d h
    exact⟨v,q1,q2.same S⟩
  ·by_cases hj:i=j
   ·subst hj
    rw[List.getElem?_set_self hi] at h
    cases h
   ·rw[List.getElem?_set_ne hj] at h
    obtain⟨c,ys,q1,q2,q3,q4⟩:=r.own j es h
    refine⟨c,ys,q1,List.mem_filter.mpr ⟨q2,decide_eq_true fun z=>?_⟩,q3,q4.same S⟩
    subst z
    exact hj (r.inj i j ds es c e h h1 q1)
  ·have back:∀(m:Nat) (es:List D),(Γ.set i (.ro (.lst ds)))[m]? = some (.own es)->Γ[m]? = some (.own es):=fun m es h=>by
    by_cases hm:i=m
    ·subst hm
     rw[List.getElem?_set_self hi] at h
     cases h
    ·rw[List.getElem?_set_ne hm] at h;exact h
   exact r.inj j k es fs c (back j es g1) (back k fs g2) g3 g4
 ·exact⟨F,fun _ h=>h,fo,r⟩
theorem x6b{X:Cx}(i:Nat){st:Stmt}{g:G->R Fl}(h:PQ X st g):PQ X st (gFrz i g):=by
 refine⟨fun pins s σ H F Γ I fo rl hg=>?_⟩
 obtain⟨F',sub,fo',rl'⟩:=rl.frzAt fo i
 have E:Ext H F H F':=⟨fun b o _ q=>q,fun b hb=>.inl (sub b hb)⟩
 exact wpAny_mono (h.run pins s σ H F' _ I fo' rl' hg) (fun _ _ q=>FlP.later E q) fun _ _ q=>FlX.later E q
noncomputable def x4h(y:Str)(names:List (Str×NameKind)):Bool:=decide (names.filter (fun p=>p.2 == .cell)=[(y,.cell)])
structure CompOkC (N:List Str) (env:Env) (y:Str) (scope:Scope):Prop where
 kind:scope.kind = .function
 nocell:∀p∈scope.names,p.2 ≠ .cell∨p.1=y
 names:∀p∈scope.names,p.2 = .local->scope.names.lookup p.1=some .local
 free:∀p∈scope.names,p.2 = .free->(∃c,env.cells.lookup p.1=some c)/\(env.scope.names.lookup p.1=some .cell∨env.scope.names.lookup p.1=some .free)
 loc:x4h y scope.names=true/\scope.names.lookup y=some .cell
 nil:scope.names.lookup (("":Str))=none
 only:∀z∈N,scope.names.lookup z≠some .local
 none:∀z∈N,z≠("":Str)
noncomputable def y5e(X:Cx)(y:Str)(scope:Scope)(C cc:Addr)(s₂:Shared)(H₂:Hp)(fp:List Addr)(pn:List (Addr×Obj)):Cx :=
 { X with N:=y::X.N.map (fun z=>if z=y then ("":Str) else z),s₀:=s₂,H₀:=H₂,env:=compEnvC scope ((y,cc)::capt X.env scope.names []) C X.env,outer:=X.stack,ex:=fp,fn:=fun z=>z==y,pn:=pn,xe:=fun _ _=>False }
section
variable {X:Cx}{y:Str}{scope:Scope}
structure PC1C (X:Cx) (y:Str) (scope:Scope) (ifs:List Expr) (elt:Expr) (f:D->G->R (Option D)):Prop where
 run:∀(C cc:Addr) (s₂:Shared) (H₂:Hp) (fp:List Addr) (pn:List (Addr×Obj)) (pins:List (Addr×Obj)) (s:Shared) (σ:St) (H:Hp) (F:List Addr) (Γ:G) (d:D),Inv (y5e X y scope C cc s₂ H₂ fp pn) pins σ H s->FOk H F->Rel X.K H F (.ro d::Γ) σ->(∃o,f d Γ = .ok o) ->
  wpAny (model X.prog X.w) X.A (forIn ifs true fun c r=>if r=true then do let ok <-isTrue c (compEnvC scope ((y,cc)::capt X.env scope.names []) C X.env) (eval c (compEnvC scope ((y,cc)::capt X.env scope.names []) C X.env));pure (ForInStep.yield ok) else pure (ForInStep.yield r)) (fun ok s₃ =>
   if ok=true then wpAny (model X.prog X.w) X.A (eval elt (compEnvC scope ((y,cc)::capt X.env scope.names []) C X.env)) (fun u s₄=>∃e v H',f d Γ = .ok (some e)/\Inv (y5e X y scope C cc s₂ H₂ fp pn) pins σ H' s₄/\RelV v u/\Same H H'/\Is X.K (hid F H') e v) (fun _ _=>False) s₃
   else f d Γ = .ok none/\∃H',Inv (y5e X y scope C cc s₂ H₂ fp pn) pins σ H' s₃/\Same H H') (fun _ _=>False) s
end
section
variable {X:Cx}{e:Expr}{pos p:Pos}{x:Str}{es:List Expr}{gs:G->R (List D)}
end
section
variable {M:Model}{A:Around}{E:Value->Shared->Prop}{env:Env}{s:Shared}
end
section
variable {X:Cx}{y:Str}{scope:Scope}
structure PC1X (X:Cx) (y:Str) (scope:Scope) (ifs:List Expr) (elt:Expr) (f:D->G->R (Option D)):Prop where
 run:∀(C:Addr) (s₂:Shared) (H₂:Hp) (fp:List Addr) (pn:List (Addr×Obj)),(∀b∈fp,∃o,(b,o)∈pn)->∀(pins:List (Addr×Obj)) (s:Shared) (σ:St) (H:Hp) (F:List Addr) (Γ:G) (d:D),Inv (z1q X y scope C s₂ H₂ fp pn) pins σ H s->FOk H F->Rel X.K H F (.ro d::Γ) σ->f d Γ ≠ .no ->
  wpAny (model X.prog X.w) X.A (forIn ifs true fun c r=>if r=true then do let ok <-isTrue c (compEnvC scope (capt X.env scope.names []) C X.env) (eval c (compEnvC scope (capt X.env scope.names []) C X.env));pure (ForInStep.yield ok) else pure (ForInStep.yield r)) (fun ok s₃ =>
   if ok=true then wpAny (model X.prog X.w) X.A (eval elt (compEnvC scope (capt X.env scope.names []) C X.env)) (fun u s₄=>∃e v H',f d Γ = .ok (some e)/\Inv (z1q X y scope C s₂ H₂ fp pn) pins σ H' s₄/\RelV v u/\Same H H'/\Is X.K (hid F H') e v) (fun x s'=>∃c H',f d Γ = .er c/\Same H H'/\y4d (z1q X y scope C s₂ H₂ fp pn) pins σ H' c x s') s₃
   else f d Γ = .ok none/\∃H',Inv (z1q X y scope C s₂ H₂ fp pn) pins σ H' s₃/\Same H H') (fun x s'=>∃c H',f d Γ = .er c/\Same H H'/\y4d (z1q X y scope C s₂ H₂ fp pn) pins σ H' c x s') s
end
section
variable {X:Cx}{e a b c:Expr}{g ga gb gc:G->R D}{pos p:Pos}{x:Str}{es:List Expr}{gs:G->R (List D)}
end
theorem IsAll.eraseIdx{K:PySem.W.Frag}{H:Hp}:∀{ds:List D} {xs:List V} (k:Nat),IsAll K H ds xs->IsAll K H (ds.eraseIdx k) (xs.eraseIdx k)
 | [],[],_,h=>h
 | [],_::_,_,h=>by have:=h.length;simp at this
 | _::_,[],_,h=>by have:=h.length;simp at this
 | d::ds,x::xs,0,h=>by
   obtain⟨_,_,e,_,h2⟩:=IsAll.cons_iff.mp h
   cases e;exact h2
 | d::ds,x::xs,k+1,h=>by
   obtain⟨_,_,e,h1,h2⟩:=IsAll.cons_iff.mp h
   cases e;exact IsAll.cons h1 (IsAll.eraseIdx k h2)
section
variable {X:Cx}{e:Expr}{g:G->R D}{pos p pos':Pos}
end
section
variable {X:Cx}{e a b c:Expr}{g ga gb gc:G->R D}{pos:Pos}
end
namespace Rv
end Rv
section
variable {prog:Program}{w:World}{A:Around}{E:Value->Shared->Prop}{s:Shared}
end
theorem x2n:bootBuiltins ("reversed":Str)=some (.type "reversed"):=by decide +kernel
section
variable {X:Cx}{a:Expr}{ga:G->R D}
end
section
variable {X:Cx}{e:Expr}{pos p:Pos}{x:Str}{es:List Expr}{gs:G->R (List D)}
end
section
variable {X:Cx}{e:Expr}{g:G->R D}{pos pt:Pos}
end
section
variable {prog:Program}{w:World}{A:Around}{E:Value->Shared->Prop}{s:Shared}
end
section
variable {X:Cx}{a:Expr}{ga:G->R D}{st:Expr}{gt:G->R (Option Int)}{pos p2:Pos}
end
section
variable {X:Cx}{e a b c:Expr}{g ga gb gc:G->R D}{pos:Pos}
end
theorem vals_ints:∀{ns:List Int} {us:List Value},IntsAre us ns->Vals (ns.map V.int) us
 | _,_,.nil=>.nil
 | _,_,.cons n t h=>.cons ⟨t,rfl⟩ (vals_ints h)
section
variable {X:Cx}{e a b c:Expr}{g ga gb gc:G->R D}{pos:Pos}
end
section
variable {X:Cx}
end
section
variable {prog:Program}{w:World}{A:Around}{E:Value->Shared->Prop}{s:Shared}
end
section
variable {X:Cx}{a b:Expr}{ga gb:G->R D}
end
section
variable {X:Cx}{e a b c:Expr}{g ga gb gc:G->R D}{gs:G->R (List D)}{pos pos' p:Pos}
end
structure TabK (led:Bool) (t:SetTable):Prop where
 led:t.led=led
 dum:t.dummies=#[]
 up:t.plain=true->t.place.toList.Pairwise (·<·)
section
variable {prog:Program}{w:World}{A:Around}{E:Value->Shared->Prop}{s:Shared}
end
section
variable {prog:Program}{w:World}{A:Around}{E:Value->Shared->Prop}{s:Shared}
end
section
variable {prog:Program}{w:World}{A:Around}{E:Value->Shared->Prop}{s:Shared}
end
section
variable {prog:Program}{w:World}{A:Around}{E:Value->Shared->Prop}{s:Shared}
end
section
variable {prog:Program}{w:World}{A:Around}{E:Value->Shared->Prop}{s:Shared}
end
section
variable {prog:Program}{w:World}{A:Around}{E:Value->Shared->Prop}{s:Shared}
end
section
variable {prog:Program}{w:World}{A:Around}{E:Value->Shared->Prop}{s:Shared}
end
section
variable {prog:Program}{w:World}{A:Around}{E:Value->Shared->Prop}{s:Shared}
end
section
variable {X:Cx}{e a b c:Expr}{g ga gb gc:G->R D}{gs:G->R (List D)}{pos pos' p p2:Pos}
end
section
variable {X:Cx}
end
section
variable {prog:Program}{w:World}{A:Around}{E:Value->Shared->Prop}{s:Shared}
end
section
variable {prog:Program}{w:World}{A:Around}{E:Value->Shared->Prop}{s:Shared}
end
section
variable {X:Cx}{a b:Expr}{ga gb:G->R D}
end
noncomputable def spT(K:PySem.W.Frag)(mg:Str->Option Value)(φ:List D->R D):Sp:=fun vs H Q E=>∃ds,IsAll K H ds vs/\φ ds ≠ .no /\
 (∀d1 d2 es p x y a xs H',φ ds = .ok (.tup [d1,d2,.lst es])->Same H H'->H a=none->H' a=some (.lst xs)->SqT K H' p [x,y,.ref a]->Is K H' d1 x->Is K H' d2 y->IsAll K H' es xs->Q (.ref p) H') /\
 (∀c C H',φ ds = .er c->mg c.nm=some (.ref C)->Same H H'->E (.ref C) none H')
structure FnT (P:Program) (w:World) (K:PySem.W.Frag) (mg:Str->Option Value) (base:Heap) (k:Nat) (f:Addr) (fd:FuncData) (ps:List Str) (φ:List D->R D):Prop where
 ok:FnOk P w K mg base (CXE P w) k f fd ps (spT K mg φ)
 binds:z1j K fd ps []
 kp:PySem.W.keepIn K (.ref f)=true
theorem FnT.mono{P:Program}{w:World}{K:PySem.W.Frag}{mg:Str->Option Value}{base:Heap}{j k:Nat}{f:Addr}{fd:FuncData}{ps:List Str}{φ:List D->R D}(F:FnT P w K mg base j f fd ps φ)(h:j<=k):FnT P w K mg base k f fd ps φ:=⟨F.ok.mono h,F.binds,F.kp⟩
theorem FnT.d{P:Program}{w:World}{K:PySem.W.Frag}{mg:Str->Option Value}{base:Heap}{k:Nat}{f:Addr}{fd:FuncData}{ps:List Str}{φ:List D->R D}(F:FnT P w K mg base k f fd ps φ):FnD P w K mg base k f fd ps φ :=
 ⟨F.ok.imp (fun vs H Q E h=>by
   obtain⟨ds,i,hne,hok,her⟩:=h
   refine⟨ds,i,hne,fun d1 d2 es p x y a xs H' e S hn ha hT i1 i2 ia=>?_,her⟩
   exact hok _ (.ref p) H' e S (Is.tup_iff.mpr ⟨p,_,rfl,hT,IsAll.cons i1 (IsAll.cons i2 (IsAll.cons (Is.lst_iff.mpr ⟨a,xs,rfl,SqL.of ha,ia⟩) IsAll.nil))⟩)),F.binds,F.kp⟩
section
variable {X:Cx}{e e1 e2 e3:Expr}{es:List Expr}{gs:G->R (List D)}{g g1 g2:G->R D}{g3:G->R (List D)}{pos p:Pos}{x:Str}{st:Stmt}{rest:List Stmt}{t u g':G->R Fl}
noncomputable def RtT(X:Cx)(pins:List (Addr×Obj))(H:Hp)(F:List Addr)(r:R Fl)(u:Value)(s':Shared):Prop:=∃σ' H' F' p x y a xs d1 d2 es,Inv X pins σ' H' s'/\u = .ref p/\Ext H F H' F'/\r = .ok (.rt (.tup [d1,d2,.lst es])) /\
 (a∈F∨H a=none)/\H' a=some (.lst xs)/\SqT X.K H' p [x,y,.ref a]/\Is X.K H' d1 x/\Is X.K H' d2 y/\IsAll X.K H' es xs
noncomputable def FlT(X:Cx)(pins:List (Addr×Obj))(H:Hp)(F:List Addr)(r:R Fl)(fl:Flow)(s':Shared):Prop:=match fl with
 | .ret u=>RtT X pins H F r u s'
 | _=>False
structure PT (X:Cx) (st:List Stmt) (g:G->R Fl):Prop where
 run:∀(pins:List (Addr×Obj)) (s:Shared) (σ:St) (H:Hp) (F:List Addr) (Γ:G),Inv X pins σ H s->FOk H F->Rel X.K H F Γ σ->g Γ ≠ .no ->
  wpAny (model X.prog X.w) X.A (execs st X.env) (FlT X pins H F (g Γ)) (FlX X pins H F (g Γ)) s
theorem FlT.later{pins:List (Addr×Obj)}{H H1:Hp}{F F1:List Addr}{r:R Fl}{fl:Flow}{s':Shared}(E:Ext H F H1 F1)(h:FlT X pins H1 F1 r fl s'):FlT X pins H F r fl s':=by
 cases fl with
 | ret u =>
   obtain⟨σ',H',F',p,x,y,a,xs,d1,d2,es,I,eu,E',er,hn,q⟩:=h
   refine⟨σ',H',F',p,x,y,a,xs,d1,d2,es,I,eu,E.trans E',er,?_,q⟩
   rcases hn with z | z
   ·exact E.old a z
   ·by_cases c:a∈F
    ·exact .inl c
    ·refine .inr ?_
     cases q:H a with
     | none=>rfl
     | some o=>rw[E.keep a o c q] at z;cases z
 | next=>exact h
 | brk=>exact h
 | cont=>exact h
structure PAL (X:Cx) (n:Nat) (es:List Expr) (g:G->R (List D)):Prop where
 run:∀(pos:Pos) (pins:List (Addr×Obj)) (s:Shared) (σ:St) (H:Hp) (F:List Addr) (Γ:G),Inv X pins σ H s->FOk H F->Rel X.K H F Γ σ->g Γ ≠ .no ->
  wpAny (model X.prog X.w) X.A (spliced (backTo pos (starEach es X.env))) (fun us s'=>∃ds es' vs a xs H',g Γ = .ok (ds++[.lst es'])/\ds.length=n/\Inv X pins σ H' s'/\Vals (vs++[.ref a]) us/\Same H H'/\H a=none/\H' a=some (.lst xs)/\IsAll X.K H' ds vs/\IsAll X.K H' es' xs) (z1m X pins σ H (g Γ)) s
end
section
variable {P:Program}{w:World}{K:PySem.W.Frag}{mg:Str->Option Value}{base:Heap}
end
noncomputable def NxK(X:Cx)(pins:List (Addr×Obj))(H:Hp)(F:List Addr)(Γ:G)(P:St->Prop)(s':Shared):Prop:=∃σ' H' F',Inv X pins σ' H' s'/\FOk H' F'/\Rel X.K H' F' Γ σ'/\Ext H F H' F'/\P σ'
noncomputable def FlK(X:Cx)(pins:List (Addr×Obj))(H:Hp)(F:List Addr)(r:R Fl)(P:St->Prop)(fl:Flow)(s':Shared):Prop:=match fl with
 | .next=>∃Γ',r = .ok (.nx Γ')/\NxK X pins H F Γ' P s'
 | .brk=>∃Γ',r = .ok (.bk Γ')/\NxK X pins H F Γ' P s'
 | .cont=>∃Γ',r = .ok (.ct Γ')/\NxK X pins H F Γ' P s'
 | .ret u=>RtP X pins H F r u s'
structure PK (X:Cx) (i:Nat) (st:Stmt) (g:G->R Fl):Prop where
 run:∀(pins:List (Addr×Obj)) (s:Shared) (σ:St) (H:Hp) (F:List Addr) (Γ:G),Inv X pins σ H s->FOk H F->Rel X.K H F Γ σ->g Γ ≠ .no ->
  wpAny (model X.prog X.w) X.A (exec st X.env) (FlK X pins H F (g Γ) fun σ'=>σ'[i]? = σ[i]?) (FlX X pins H F (g Γ)) s
structure PKs (X:Cx) (i:Nat) (st:List Stmt) (g:G->R Fl):Prop where
 run:∀(pins:List (Addr×Obj)) (s:Shared) (σ:St) (H:Hp) (F:List Addr) (Γ:G),Inv X pins σ H s->FOk H F->Rel X.K H F Γ σ->g Γ ≠ .no ->
  wpAny (model X.prog X.w) X.A (execs st X.env) (FlK X pins H F (g Γ) fun σ'=>σ'[i]? = σ[i]?) (FlX X pins H F (g Γ)) s
section
variable {X:Cx}{e c:Expr}{g:G->R D}{pos pos':Pos}{st:Stmt}{rest:List Stmt}{t u:G->R Fl}{i:Nat}
theorem FlK.later{pins:List (Addr×Obj)}{H H1:Hp}{F F1:List Addr}{r:R Fl}{P P':St->Prop}{fl:Flow}{s':Shared}(E:Ext H F H1 F1)(hP:∀σ,P σ->P' σ)(h:FlK X pins H1 F1 r P fl s'):FlK X pins H F r P' fl s':=by
 cases fl with
 | next=>obtain⟨Γ',e,σ',H',F',h1,h2,h3,h4,h5⟩:=h;exact⟨Γ',e,σ',H',F',h1,h2,h3,E.trans h4,hP _ h5⟩
 | brk=>obtain⟨Γ',e,σ',H',F',h1,h2,h3,h4,h5⟩:=h;exact⟨Γ',e,σ',H',F',h1,h2,h3,E.trans h4,hP _ h5⟩
 | cont=>obtain⟨Γ',e,σ',H',F',h1,h2,h3,h4,h5⟩:=h;exact⟨Γ',e,σ',H',F',h1,h2,h3,E.trans h4,hP _ h5⟩
 | ret u=>exact RtP.map h E (fun _ _ I=>I) (fun _ e=>e) fun _ e=>e
theorem z7a(j:Nat){x:Str}(he:PDr X e g)(hN:X.N.Nodup)(hij:j≠i:=by decide)(hi:X.N[j]? = some x:=by rfl)(hx:Loc X.env.scope x:=by first | exact Or.inl rfl | exact Or.inr rfl)(hs:swapsWith e (some (.Name x pos')) pos.line X.env=pure false:=by rfl)(hf:X.fn x=true∨X.env.scope.names.lookup x=some .local:=by first | exact .inl rfl | exact .inr rfl | assumption) :
 PK X i (.Assign [.Name x pos'] e pos) (gSet j g):=by
 refine⟨fun pins s σ H F Γ I fo rl hg=>?_⟩
 refine wpAny_Assign_Name (wpAny_mono (he.run pins s σ H F Γ I fo rl (z0v hg)) (fun v s1 q=>?_) fun _ _ x=>x.lift fo rl _) hs
 obtain⟨d,y,H1,e1,I1,r1,S1,i1⟩:=q
 exact z5l I1 hN hi hx r1 (fun s2 I2=>⟨_,z1v e1,_,H1,F,I2,fo.same S1,(rl.same S1).set_ro i1,.of_same S1,List.getElem?_set_ne hij⟩) hf
theorem Rel.frz1{K:PySem.W.Frag}{H:Hp}{F:List Addr}{Γ:G}{σ:St}{i:Nat}{ds:List D}{a:Addr}{xs:List V}(r:Rel K H F Γ σ)(e:Γ[i]? = some (.own ds))(h1:σ[i]? = some (some (.ref a)))(h3:H a=some (.lst xs))(h4:IsAll K (hid F H) ds xs):Rel K H (F.filter (fun b=>decide (b≠a))) (Γ.set i (.ro (.lst ds))) σ:=by
 have sub:∀b∈F.filter (fun b=>decide (b≠a)),b∈F:=fun b hb=>(List.mem_filter.mp hb).1
 have out:a ∉ F.filter (fun b=>decide (b≠a)):=fun z=>(of_decide_eq_true (List.mem_filter.mp z).2) rfl
 have S:Same (hid F H) (hid (F.filter (fun b=>decide (b≠a))) H):=fun b o h=>by
  obtain⟨z1,z2⟩:=z2a h
  rw[z1d fun z=>z1 (sub b z)]
  exact z2
 have hi:i<Γ.length:=by
  rcases Nat.lt_or_ge i Γ.length with z | z
  ·exact z
  ·rw[List.getElem?_eq_none z] at e;cases e
 refine⟨by rw[List.length_set];exact r.len,fun j d h=>?_,fun j es h=>?_,fun j k es fs c g1 g2 g3 g4=>?_⟩
 ·by_cases hj:i=j
  ·subst hj
   rw[List.getElem?_set_self hi] at h
   cases h
   exact⟨.ref a,h1,Is.lst_iff.mpr ⟨a,xs,rfl,SqL.of (by rw[z1d out];exact h3),h4.same S⟩⟩
  ·rw[List.getElem?_set_ne hj] at h
   obtain⟨v,q1,q2⟩:=r.ro j d h
   exact⟨v,q1,q2.same S⟩
 ·by_cases hj:i=j
  ·subst hj
   rw[List.getElem?_set_self hi] at h
   cases h
  ·rw[List.getElem?_set_ne hj] at h
   obtain⟨c,ys,q1,q2,q3,q4⟩:=r.own j es h
   refine⟨c,ys,q1,List.mem_filter.mpr ⟨q2,decide_eq_true fun z=>?_⟩,q3,q4.same S⟩
   subst z
   exact hj (r.inj i j ds es c e h h1 q1)
 ·have back:∀(m:Nat) (es:List D),(Γ.set i (.ro (.lst ds)))[m]? = some (.own es)->Γ[m]? = some (.own es):=fun m es h=>by
   by_cases hm:i=m
   ·subst hm
    rw[List.getElem?_set_self hi] at h
    cases h
   ·rw[List.getElem?_set_ne hm] at h;exact h
  exact r.inj j k es fs c (back j es g1) (back k fs g2) g3 g4
end
structure Pile (K:PySem.W.Frag) (H:Hp) (F:List Addr) (p:Nat) (σ:St) (dss:List (List D)) (a:Addr) (as:List Addr):Prop where
 loc:σ[p]? = some (some (.ref a))
 top:H a=some (.lst (as.map V.ref))
 len:as.length=dss.length
 each:∀(j:Nat) (b:Addr) (ds:List D),as[j]? = some b->dss[j]? = some ds->D.noLs ds=true/\∃xs,H b=some (.lst xs)/\IsAll K H ds xs
 nodup:(a::as).Nodup
 out:∀b∈a::as,b ∉ F
theorem Pile.at{K:PySem.W.Frag}{H:Hp}{F:List Addr}{p:Nat}{σ:St}{dss:List (List D)}{a:Addr}{as:List Addr}(h:Pile K H F p σ dss a as){b:Addr}(hb:b∈as):∃xs,H b=some (.lst xs):=by
 obtain⟨j,hj,rfl⟩:=List.mem_iff_getElem.mp hb
 have hl:=h.len
 obtain⟨_,xs,e,_⟩:=h.each j as[j] (dss[j]'(by lia)) (List.getElem?_eq_getElem hj) (List.getElem?_eq_getElem (by lia))
 exact⟨xs,e⟩
theorem Pile.has{K:PySem.W.Frag}{H:Hp}{F:List Addr}{p:Nat}{σ:St}{dss:List (List D)}{a:Addr}{as:List Addr}(h:Pile K H F p σ dss a as){b:Addr}(hb:b∈a::as):∃o,H b=some o:=by
 rcases List.mem_cons.mp hb with z | z
 ·exact⟨_,z ▸ h.top⟩
 ·obtain⟨xs,e⟩:=h.at z;exact⟨_,e⟩
theorem Pile.keep{K:PySem.W.Frag}{H H':Hp}{F F':List Addr}{p:Nat}{σ σ':St}{dss:List (List D)}{a:Addr}{as:List Addr}(h:Pile K H F p σ dss a as)(fo:FOk H F)(E:Ext H F H' F')(k:σ'[p]? = σ[p]?):Pile K H' F' p σ' dss a as where
 loc:=k.trans h.loc
 top:=E.keep a _ (h.out a List.mem_cons_self) h.top
 len:=h.len
 each:=fun j b ds hb hd=>by
  obtain⟨n,xs,e,i⟩:=h.each j b ds hb hd
  refine⟨n,xs,E.keep b _ (h.out b (List.mem_cons_of_mem _ (List.mem_of_getElem? hb))) e,?_⟩
  exact((IsAll.hid fo ds xs n i).same E.hid).same z0u
 nodup:=h.nodup
 out:=fun b hb z=>by
  obtain⟨o,e⟩:=h.has hb
  rcases E.old b z with w | w
  ·exact h.out b hb w
  ·rw[e] at w;cases w
noncomputable def NxP'(X:Cx)(p:Nat)(pins:List (Addr×Obj))(H:Hp)(A:List Addr)(Γ':G)(s':Shared):Prop:=∃σ' H' F' dss a as,Inv X pins σ' H' s'/\FOk H' F'/\Rel X.K H' F' Γ' σ'/\Γ'[p]? = some (.ro (.lst (dss.map D.lst)))/\Pile X.K H' F' p σ' dss a as/\Ext H A H' (F'++a::as)
structure PP (X:Cx) (p:Nat) (st:Stmt) (g:G->R Fl):Prop where
 run:∀(pins:List (Addr×Obj)) (s:Shared) (σ:St) (H:Hp) (F:List Addr) (Γ Γ':G) (dss:List (List D)) (a:Addr) (as:List Addr),Inv X pins σ H s->FOk H F->Rel X.K H F Γ σ->Γ[p]? = some (.ro (.lst (dss.map D.lst)))->Pile X.K H F p σ dss a as->g Γ = .ok (.nx Γ') ->
  wpAny (model X.prog X.w) X.A (exec st X.env) (fun fl s'=>fl = .next/\NxP' X p pins H (F++a::as) Γ' s') (fun _ _=>False) s
structure PPs (X:Cx) (p:Nat) (st:List Stmt) (g:G->R Fl):Prop where
 run:∀(pins:List (Addr×Obj)) (s:Shared) (σ:St) (H:Hp) (F:List Addr) (Γ Γ':G) (dss:List (List D)) (a:Addr) (as:List Addr),Inv X pins σ H s->FOk H F->Rel X.K H F Γ σ->Γ[p]? = some (.ro (.lst (dss.map D.lst)))->Pile X.K H F p σ dss a as->g Γ = .ok (.nx Γ') ->
  wpAny (model X.prog X.w) X.A (execs st X.env) (fun fl s'=>fl = .next/\NxP' X p pins H (F++a::as) Γ' s') (fun _ _=>False) s
section
variable {X:Cx}{p:Nat}{st:Stmt}{rest:List Stmt}{t u:G->R Fl}{c:Expr}{pos:Pos}
theorem NxP'.later{pins:List (Addr×Obj)}{H H1:Hp}{A A1:List Addr}{Γ':G}{s':Shared}(E:Ext H A H1 A1)(h:NxP' X p pins H1 A1 Γ' s'):NxP' X p pins H A Γ' s':=by
 obtain⟨σ',H',F',dss,a,as,h1,h2,h3,h4,h5,h6⟩:=h
 exact⟨σ',H',F',dss,a,as,h1,h2,h3,h4,h5,E.trans h6⟩
theorem x5b{Γ Γ':G}(h:gStP t u Γ = .ok (.nx Γ')):∃Γ1,t Γ = .ok (.nx Γ1)/\u Γ1 = .ok (.nx Γ'):=by
 unfold gStP at h
 split at h
 ·rename_i Γ1 e;exact⟨Γ1,e,h⟩
 ·cases h
theorem pp_k(h:PK X p st t)(hp:∀Γ Γ',t Γ = .ok (.nx Γ')->Γ'[p]? = Γ[p]?):PP X p st t:=by
 refine⟨fun pins s σ H F Γ Γ' dss a as I fo rl gp pl hg=>?_⟩
 refine wpAny_mono (h.run pins s σ H F Γ I fo rl (by rw[hg];exact fun z=>nomatch z)) (fun fl s1 q=>?_) fun x s1 q=>?_
 ·cases fl with
  | next =>
    obtain⟨Γ1,e,σ',H',F',I',fo',rl',E,k⟩:=q
    rw[hg] at e
    cases e
    refine⟨rfl,σ',H',F',dss,a,as,I',fo',rl',(hp _ _ hg).trans gp,pl.keep fo E k,⟨fun b o hb e=>E.keep b o (fun z=>hb (List.mem_append_left _ z)) e,fun b hb=>?_⟩⟩
    rcases List.mem_append.mp hb with z | z
    ·exact(E.old b z).imp_left (List.mem_append_left _)
    ·exact .inl (List.mem_append_right _ z)
  | ret v =>
    obtain⟨v,σ',H',F',I',rv,E',⟨d,e,i⟩ | ⟨ds,a,xs,e,q⟩⟩:=q
    ·rw[hg] at e;cases e
    ·rw[hg] at e;cases e
  | brk=>obtain⟨Γ1,e,_⟩:=q;rw[hg] at e;cases e
  | cont=>obtain⟨Γ1,e,_⟩:=q;rw[hg] at e;cases e
 ·obtain⟨c,Γ1,σ',H',F',e,_⟩:=q
  rw[hg] at e;cases e
theorem x3s:PPs X p [] z2q:=⟨fun pins s σ H F Γ Γ' dss a as I fo rl gp pl hg=>by
 have e:Γ=Γ':=by have:(R.ok (Fl.nx Γ))=R.ok (Fl.nx Γ'):=hg;cases this;rfl
 subst e
 exact wpAny_execs_nil ⟨rfl,σ,H,F,dss,a,as,I,fo,rl,gp,pl,.refl⟩⟩
theorem z3c(h1:PP X p st t)(h2:PPs X p rest u):PPs X p (st::rest) (gStP t u):=by
 refine⟨fun pins s σ H F Γ Γ' dss a as I fo rl gp pl hg=>?_⟩
 obtain⟨Γ1,e1,e2⟩:=x5b hg
 refine wpAny_execs_cons (wpAny_mono (h1.run pins s σ H F Γ Γ1 dss a as I fo rl gp pl e1) (fun fl s1 q=>?_) fun _ _ z=>z)
 obtain⟨rfl,σ',H',F',dss',a',as',I',fo',rl',gp',pl',E⟩:=q
 exact wpAny_mono (h2.run pins s1 σ' H' F' Γ1 Γ' dss' a' as' I' fo' rl' gp' pl' e2) (fun fl s2 q=>⟨q.1,q.2.later E⟩) fun _ _ z=>z
theorem z8g(h1:PP X p st t):PPs X p [st] t:=by
 refine⟨fun pins s σ H F Γ Γ' dss a as I fo rl gp pl hg=>?_⟩
 refine wpAny_execs_cons (wpAny_mono (h1.run pins s σ H F Γ Γ' dss a as I fo rl gp pl hg) (fun fl s1 q=>?_) fun _ _ z=>z)
 obtain⟨rfl,q⟩:=q
 exact wpAny_execs_nil ⟨rfl,q⟩
theorem Ext.app{H H':Hp}{F:List Addr}(S:Same H H'):Ext H F H' F:=.of_same S
theorem Pile.same{K:PySem.W.Frag}{H H':Hp}{F:List Addr}{p:Nat}{σ:St}{dss:List (List D)}{a:Addr}{as:List Addr}(h:Pile K H F p σ dss a as)(fo:FOk H F)(S:Same H H'):Pile K H' F p σ dss a as:=h.keep fo (.of_same S) rfl
theorem x3v{cs ds:List Stmt}{gc:G->R Bool}(hc:PTD X c gc)(ha:PPs X p cs t)(hb:PPs X p ds u):PP X p (.If c cs ds pos) (gIfS gc t u):=by
 refine⟨fun pins s σ H F Γ Γ' dss a as I fo rl gp pl hg=>?_⟩
 have hne:gIfS gc t u Γ ≠ .no:=by rw[hg];exact fun z=>nomatch z
 refine wpAny_If (wpAny_mono (hc.run pins s σ H F Γ I fo rl (z0v hne)) (fun k s1 q=>?_) fun _ _ x=>?_)
 ·obtain⟨H1,e1,I1,S1⟩:=q
  have e2:gIfS gc t u Γ=if k=true then t Γ else u Γ:=z1v e1
  rw[e2] at hg
  cases k with
  | true=>exact wpAny_mono (ha.run pins s1 σ H1 F Γ Γ' dss a as I1 (fo.same S1) (rl.same S1) gp (pl.same fo S1) hg) (fun _ _ q=>⟨q.1,q.2.later (.of_same S1)⟩) fun _ _ z=>z
  | false=>exact wpAny_mono (hb.run pins s1 σ H1 F Γ Γ' dss a as I1 (fo.same S1) (rl.same S1) gp (pl.same fo S1) hg) (fun _ _ q=>⟨q.1,q.2.later (.of_same S1)⟩) fun _ _ z=>z
 ·obtain⟨c7,H',e,_⟩:=x
  have:gIfS gc t u Γ = .ok (.ex c7 Γ):=by unfold gIfS;rw[e];rfl
  rw[hg] at this;cases this
theorem Rel.hideP{K:PySem.W.Frag}{H:Hp}{F:List Addr}{Γ:G}{σ:St}{p:Nat}{ps:List Addr}(r:Rel K H F Γ σ)(fo:FOk H (F++ps))(h:z1t p Γ):Rel K H (F++ps) (Γ.set p .no) σ:=by
 have ne:∀{j:Nat} {e:En},(Γ.set p .no)[j]? = some e->e ≠ .no->j≠p/\Γ[j]? = some e:=fun {j e} q n=>by
  by_cases z:p=j
  ·subst z
   by_cases w:p<Γ.length
   ·rw[List.getElem?_set_self w] at q;cases q;exact absurd rfl n
   ·rw[List.getElem?_eq_none (by rw[List.length_set];lia)] at q;cases q
  ·rw[List.getElem?_set_ne z] at q;exact⟨fun w=>z w.symm,q⟩
 refine⟨by rw[List.length_set];exact r.len,fun j d q=>?_,fun j es q=>?_,fun j k es fs c g1 g2 g3 g4=>?_⟩
 ·obtain⟨n,q⟩:=ne q (fun z=>nomatch z)
  obtain⟨v,q1,q2⟩:=r.ro j d q
  exact⟨v,q1,Is.hid fo d v (h j _ n q) (q2.same z0u)⟩
 ·obtain⟨n,q⟩:=ne q (fun z=>nomatch z)
  obtain⟨c,ys,q1,q2,q3,q4⟩:=r.own j es q
  exact⟨c,ys,q1,List.mem_append_left _ q2,q3,IsAll.hid fo es ys (h j _ n q) (q4.same z0u)⟩
 ·exact r.inj j k es fs c (ne g1 (fun z=>nomatch z)).2 (ne g2 (fun z=>nomatch z)).2 g3 g4
theorem Pile.fok{K:PySem.W.Frag}{H:Hp}{F:List Addr}{p:Nat}{σ:St}{dss:List (List D)}{a:Addr}{as:List Addr}(h:Pile K H F p σ dss a as)(fo:FOk H F):FOk H (F++a::as):=fun b hb=>by
 rcases List.mem_append.mp hb with z | z
 ·exact fo b z
 ·rcases List.mem_cons.mp z with z | z
  ·exact⟨_,z ▸ h.top⟩
  ·exact h.at z
theorem x6d(i:Nat){x:Str}{px:Pos}{iter:Expr}{body:List Stmt}{gi:G->R (List D)}{gb:G->R Fl}(hcalm:X.calm=true)(hi:PIF X (.Name x px) iter gi)(hb:PPs X p body gb)(hN:X.N.Nodup)(hip:i≠p:=by decide)(hix:X.N[i]? = some x:=by rfl)(hx:Loc X.env.scope x:=by first | exact Or.inl rfl | exact Or.inr rfl)
 (hf:X.fn x=true∨X.env.scope.names.lookup x=some .local:=by first | exact .inl rfl | exact .inr rfl | assumption)
 (hs:∀x,foldedSetIterable iter X.env x=pure x:=by intro _;rfl):PP X p (.For (.Name x px) iter body [] pos) (x2e p i gi gb):=by
 refine⟨fun pins s σ H F Γ Γ' dss a as I fo rl gp pl hg=>?_⟩
 obtain⟨ro,eg0⟩:=R.guard_ne (show R.guard (z1t p Γ) (lift (gi (Γ.set p .no)) Γ fun ds=>z5f gb i ds Γ) ≠ .no by rw[show R.guard (z1t p Γ) (lift (gi (Γ.set p .no)) Γ fun ds=>z5f gb i ds Γ) = .ok (.nx Γ') from hg];exact fun z=>nomatch z)
 have hg0:lift (gi (Γ.set p .no)) Γ (fun ds=>z5f gb i ds Γ) = .ok (.nx Γ'):=eg0.symm.trans hg
 have fo1:=pl.fok fo
 have hne:lift (gi (Γ.set p .no)) Γ (fun ds=>z5f gb i ds Γ) ≠ .no:=by rw[hg0];exact fun z=>nomatch z
 have hx0:∀{x:Value} {s':Shared},z1m X pins σ H (gi (Γ.set p .no)) x s'->False:=fun {x s'} h=>by
  obtain⟨c7,H',e,_⟩:=h
  rw[e] at hg0;cases hg0
 refine wpAny_For (wpAny_mono (hi.run pins s σ H (F++a::as) (Γ.set p .no) I fo1 (rl.hideP fo1 ro) (z0v hne)) (fun v s1 h1=>wpAny_mono h1 (fun itv s2 h2=>?_) fun _ _ x=>hx0 x) fun _ _ x=>hx0 x) hs
 obtain⟨ds,it,fp,tn,J,H2,e1,rfl,I2,S2,T,t0,fk,jd⟩:=h2
 rw[z1v e1] at hg0
 have hp':PassesOwn (model X.prog X.w) X.A X.env (fun _ _=>False):=fun e s' h=>h.elim
 have stat:∀{H':Hp},(∀b∈fp,H' b=none)->∀b∈fp,FpOk X pins H' b:=fun hn b hb=>⟨hn b hb,(fk b hb).2⟩
 refine codeAny_forLoop_any (fun n s'=>∃(j:Nat) (σ':St) (H':Hp) (F':List Addr) (Γ1:G) (dss1:List (List D)) (a1:Addr) (as1:List Addr),n=ds.length-j/\j<=ds.length/\Inv X pins σ' H' s'/\tn j s'.heap/\(∀b∈fp,H' b=none)/\FOk H' F'/\Rel X.K H' F' Γ1 σ'/\Γ1[p]? = some (.ro (.lst (dss1.map D.lst)))/\Pile X.K H' F' p σ' dss1 a1 as1/\Ext H2 (F++a::as) H' (F'++a1::as1)/\z5f gb i (ds.drop j) Γ1 = .ok (.nx Γ')) ?_ ds.length
  ⟨0,σ,H2,F,Γ,dss,a,as,by lia,Nat.zero_le _,I2,t0,fun b hb=>(fk b hb).1,fo.same S2,rl.same S2,gp,pl.same fo S2,.refl,by rw[List.drop_zero];exact hg0⟩
 rintro n s3 ⟨j,σ3,H3,F3,Γ3,dss3,a3,as3,en,hj,I3,t3,fr3,fo3,rl3,gp3,pl3,E3,ev3⟩
 have E03:Ext H (F++a::as) H3 (F3++a3::as3):=(Ext.of_same S2).trans E3
 obtain⟨jgo,jstop⟩:=jd H3 fun b o hb h=>E3.keep b o hb h
 by_cases hlt:j<ds.length
 ·obtain⟨go,yl⟩:=jgo j hlt
  refine wpAny_passesOwn hp' (thn (T.item X rfl rfl rfl hcalm j pins s3 σ3 H3 _ I3 (stat fr3) t3 go) fun r s4 q4=>?_)
  obtain⟨u,hr,h4⟩:=q4
  subst hr
  refine wpAny_passesOwn hp' (thn h4 fun _ s5 q5=>?_)
  obtain⟨y,H5,I5,r5,y5,st5,fr5⟩:=q5
  obtain⟨e5,d,ed,iv⟩:=yl y H5 y5
  subst e5
  have iv':=iv F3 fun b hb=>E3.old b (List.mem_append_left _ hb)
  have hdrop:ds.drop j=d::ds.drop (j+1):=by
   rw[List.drop_eq_getElem_cons hlt]
   have:ds[j]=d:=by
    have:=List.getElem?_eq_getElem hlt
    rw[ed] at this;exact(Option.some.inj this).symm
   rw[this]
  have I5':=I5.pinned (stat fr5) (T.obj _ _ st5)
  have hpg:PG X.nox (.Name x px) (y7i i):=z7f (X:=X.nox) hN hix hx hf
  refine wpAny_passesOwn hp' (wpAny_mono (hpg _ s5 σ3 H5 y u (fun σ' H'=>σ'=σ3.set i (some y)/\H'=H5) (I5'.wish _) r5 ⟨rfl,rfl⟩) (fun _ s6 q6=>?_) fun _ _ z=>False.elim z)
  obtain⟨σ6,H6,I6,e6,e6'⟩:=q6
  subst e6 e6'
  have evd:z5f gb i (d::ds.drop (j+1)) Γ3 = .ok (.nx Γ'):=by rw[<-hdrop];exact ev3
  have gpi:(Γ3.set i (.ro d))[p]? = some (.ro (.lst (dss3.map D.lst))):=(List.getElem?_set_ne hip).trans gp3
  have pli:Pile X.K H6 F3 p (σ3.set i (some y)) dss3 a3 as3:=pl3.keep fo3 .refl (List.getElem?_set_ne hip)
  have hgb:∃Γ7,(gb (Γ3.set i (.ro d)) = .ok (.nx Γ7))/\z5f gb i (ds.drop (j+1)) Γ7 = .ok (.nx Γ'):=by
   rw[z5f] at evd
   split at evd
   ·rename_i Γ7 e7;exact⟨Γ7,e7,evd⟩
   ·cases evd
  obtain⟨Γ7,e7,ev7⟩:=hgb
  refine wpAny_passesOwn hp' (wpAny_mono (hb.run _ s6 _ H6 F3 _ Γ7 dss3 a3 as3 I6.unwish fo3 (rl3.set_ro iv') gpi pli e7) (fun f s7 q7=>?_) fun _ _ z=>z)
  obtain⟨rfl,σ7,H7,F7,dss7,a7,as7,I7,fo7,rl7,gp7,pl7,E7⟩:=q7
  have b1:Inv X pins σ7 H7 s7:=I7.unpinned
  have b2:tn (j+1) s7.heap:=T.keep _ _ _ st5 fun b hb o e=>(I7.pin (b,o) (List.mem_append_right _ (List.mem_append_right _ (z3a hb e)))).1
  have b3:∀b∈fp,H7 b=none:=fun b hb=>by
   obtain⟨o,e,dd⟩:=T.obj _ _ st5 b hb
   exact(I7.pin (b,o) (List.mem_append_right _ (List.mem_append_right _ (z3a hb e)))).2.1
  exact⟨ds.length-(j+1),by lia,j+1,σ7,H7,F7,Γ7,dss7,a7,as7,rfl,hlt,b1,b2,b3,fo7,rl7,gp7,pl7,E3.trans E7,ev7⟩
 ·have ej:j=ds.length:=by lia
  subst ej
  refine wpAny_passesOwn hp' (thn (T.done X rfl rfl rfl hcalm _ pins s3 σ3 H3 _ I3 (stat fr3) t3 jstop) fun r s4 q4=>?_)
  obtain⟨hr,I4⟩:=q4
  subst hr
  rw[List.drop_length] at ev3
  have:Γ3=Γ':=by rw[z5f] at ev3;cases ev3;rfl
  subst this
  exact wpAny_execs_nil ⟨rfl,σ3,H3,F3,dss3,a3,as3,I4,fo3,rl3,gp3,pl3,E03⟩
theorem y5l{H:Hp}{F:List Addr}{b:Addr}{ys:List V}:Same (hid (b::F) H) (hid F (upd H b (.lst ys))):=fun c o h=>by
 obtain⟨h1,h2⟩:=z2a h
 rw[z1d fun z=>h1 (List.mem_cons_of_mem _ z),z0k fun z=>h1 (by rw[z];exact List.mem_cons_self)]
 exact h2
theorem y6b{K:PySem.W.Frag}{H:Hp}{F:List Addr}{b:Addr}{xs ys:List V}{d:D}{v:V}(fo:FOk H F)(hb:H b=some (.lst xs))(n:d.noL=true)(h:Is K H d v):Is K (hid F (upd H b (.lst ys))) d v:=(Is.hid (fo.cons hb) d v n h).same y5l
theorem z6n{K:PySem.W.Frag}{H:Hp}{F:List Addr}{b:Addr}{xs ys:List V}{ds:List D}{vs:List V}(fo:FOk H F)(hb:H b=some (.lst xs))(n:D.noLs ds=true)(h:IsAll K H ds vs):IsAll K (hid F (upd H b (.lst ys))) ds vs:=(IsAll.hid (fo.cons hb) ds vs n h).same y5l
theorem IsAll.of_get{K:PySem.W.Frag}{H:Hp}:∀{ds:List D} {vs:List V},ds.length=vs.length->(∀(j:Nat) d v,ds[j]? = some d->vs[j]? = some v->Is K H d v)->IsAll K H ds vs
 | [],[],_,_=>IsAll.nil
 | [],_::_,h,_=>by simp at h
 | _::_,[],h,_=>by simp at h
 | d::ds,v::vs,h,q=>IsAll.cons (q 0 d v rfl rfl) (IsAll.of_get (by simpa using h) fun j d' v' a b=>q (j+1) d' v' a b)
theorem Pile.is{K:PySem.W.Frag}{H:Hp}{F:List Addr}{p:Nat}{σ:St}{dss:List (List D)}{a:Addr}{as:List Addr}(h:Pile K H F p σ dss a as)(fo:FOk H F):Is K (hid F H) (.lst (dss.map D.lst)) (.ref a):=by
 refine Is.lst_iff.mpr ⟨a,as.map V.ref,rfl,SqL.of (by rw[z1d (h.out a List.mem_cons_self)];exact h.top),IsAll.of_get (by rw[List.length_map,List.length_map,h.len]) fun j d v h1 h2=>?_⟩
 rw[List.getElem?_map] at h1 h2
 obtain⟨ds,e1,rfl⟩:=Option.map_eq_some_iff.mp h1
 obtain⟨b,e2,rfl⟩:=Option.map_eq_some_iff.mp h2
 obtain⟨n,xs,e,i⟩:=h.each j b ds e2 e1
 exact Is.lst_iff.mpr ⟨b,xs,rfl,SqL.of (by rw[z1d (h.out b (List.mem_cons_of_mem _ (List.mem_of_getElem? e2)))];exact e),IsAll.hid fo ds xs n i⟩
theorem Rel.putP{K:PySem.W.Frag}{H:Hp}{F:List Addr}{Γ:G}{σ:St}{p:Nat}{b:Addr}{xs ys:List V}{d:D}{v:V}(r:Rel K H F Γ σ)(fo:FOk H F)(ro:z1t p Γ)(hp:p<Γ.length)(hb:H b=some (.lst xs))(nb:b ∉ F)(hv:σ[p]? = some (some v))(i:Is K (hid F (upd H b (.lst ys))) d v):Rel K (upd H b (.lst ys)) F (Γ.set p (.ro d)) σ:=by
 have ne:∀{j:Nat} {e:En},p≠j->(Γ.set p (.ro d))[j]? = some e->Γ[j]? = some e:=fun {j e} n q=>by rw[List.getElem?_set_ne n] at q;exact q
 have own:∀{j:Nat} {es:List D},(Γ.set p (.ro d))[j]? = some (.own es)->p≠j/\Γ[j]? = some (.own es):=fun {j es} q=>by
  by_cases z:p=j
  ·subst z;rw[List.getElem?_set_self hp] at q;cases q
  ·exact⟨z,ne z q⟩
 refine⟨by rw[List.length_set];exact r.len,fun j d' q=>?_,fun j es q=>?_,fun j k es fs c g1 g2 g3 g4=>r.inj j k es fs c (own g1).2 (own g2).2 g3 g4⟩
 ·by_cases z:p=j
  ·subst z
   rw[List.getElem?_set_self hp] at q
   cases q
   exact⟨v,hv,i⟩
  ·obtain⟨w,q1,q2⟩:=r.ro j d' (ne z q)
   exact⟨w,q1,y6b fo hb (ro j _ (fun y=>z y.symm) (ne z q)) (q2.same z0u)⟩
 ·obtain⟨z,q⟩:=own q
  obtain⟨c,vs,q1,q2,q3,q4⟩:=r.own j es q
  exact⟨c,vs,q1,q2,by rw[z0k fun y=>nb (by rw[<-y];exact q2)];exact q3,z6n fo hb (ro j _ (fun y=>z y.symm) q) (q4.same z0u)⟩
theorem Pile.app{K:PySem.W.Frag}{H:Hp}{F:List Addr}{p:Nat}{σ:St}{dss:List (List D)}{ds:List D}{a b:Addr}{as:List Addr}{xs:List V}{d:D}{y:V}(h:Pile K H F p σ (dss++[ds]) a (as++[b]))(fo:FOk H F)(hb:H b=some (.lst xs))(n:d.noL=true)(i:Is K H d y):Pile K (upd H b (.lst (xs++[y]))) F p σ (dss++[ds++[d]]) a (as++[b]):=by
 have nd:=h.nodup
 have hl:as.length=dss.length:=by have:=h.len;simpa using this
 have hab:a≠b:=fun z=>by
  have:=(List.nodup_cons.mp nd).1
  exact this (by rw[z];simp)
 have hnb:b ∉ as:=by
  have:=(List.nodup_append.mp (List.nodup_cons.mp nd).2).2.2
  exact fun z=>this b z b (by simp) rfl
 refine⟨h.loc,by rw[z0k hab];exact h.top,by simp[hl],fun j c es hc he=>?_,nd,h.out⟩
 have up:∀{vs:List V} {es:List D},D.noLs es=true->IsAll K H es vs->IsAll K (upd H b (.lst (xs++[y]))) es vs:=fun n i=>(z6n fo hb n i).same z0u
 rcases Nat.lt_or_ge j as.length with z | z
 ·rw[List.getElem?_append_left z] at hc
  rw[List.getElem?_append_left (by lia)] at he
  obtain⟨n1,vs,e1,i1⟩:=h.each j c es (by rw[List.getElem?_append_left z];exact hc) (by rw[List.getElem?_append_left (by lia)];exact he)
  have hcb:c≠b:=fun w=>hnb (by rw[<-w];exact List.mem_of_getElem? hc)
  exact⟨n1,vs,by rw[z0k hcb];exact e1,up n1 i1⟩
 ·rw[List.getElem?_append_right z] at hc
  rw[List.getElem?_append_right (by lia)] at he
  have ej:j-as.length=0:=by
   rcases Nat.eq_zero_or_pos (j-as.length) with w | w
   ·exact w
   ·rw[List.getElem?_eq_none (by simp;lia)] at hc;cases hc
  rw[ej] at hc
  rw[show j-dss.length=0 by lia] at he
  cases hc
  cases he
  obtain⟨n1,vs,e1,i1⟩:=h.each as.length b ds (by simp) (by rw[hl];simp)
  rw[hb] at e1
  cases e1
  refine⟨by rw[y4t,n1,Bool.true_and];simp[D.noLs,n],xs++[y],z0m,(up n1 i1).append (IsAll.cons ?_ IsAll.nil)⟩
  exact(y6b fo hb n i).same z0u
theorem y1k{dss:List (List D)}{d:D}{dl:List D}(h:z4x (dss.map D.lst) d=some dl):∃init ds,dss=init++[ds]/\dl=(init++[ds++[d]]).map D.lst:=by
 rcases List.eq_nil_or_concat dss with z | ⟨init,ds,z⟩
 ·subst z;cases h
 ·rw[List.concat_eq_append] at z
  subst z
  refine⟨init,ds,rfl,?_⟩
  unfold z4x at h
  rw[List.map_append,List.map_cons,List.map_nil,List.getLast?_append] at h
  simp only[List.getLast?_singleton,Option.some_or,List.dropLast_concat] at h
  cases h
  rw[List.map_append]
  rfl
theorem x2d{g:G->R D}{Γ Γ':G}{dss:List (List D)}(gp:Γ[p]? = some (.ro (.lst (dss.map D.lst))))(h:y7h p g Γ = .ok (.nx Γ')):∃d init ds,g Γ = .ok d/\dss=init++[ds]/\Γ'=Γ.set p (.ro (.lst ((init++[ds++[d]]).map D.lst)))/\z1t p Γ/\d.noL=true/\ds.length<=100000:=by
 unfold y7h at h
 rw[gp] at h
 cases q:g Γ with
 | no=>rw[q] at h;cases h
 | er c=>rw[q] at h;cases h
 | ok d =>
   rw[q] at h
   have h':(match z4x (dss.map D.lst) d with
    | some dl'=>R.guard (z1t p Γ/\d.noL=true/\∀ds,D.lst ds∈dss.map D.lst->ds.length<=100000) (.ok (.nx (Γ.set p (.ro (.lst dl')))))
    | none=>R.no)=R.ok (Fl.nx Γ'):=h
   cases q2:z4x (dss.map D.lst) d with
   | none=>rw[q2] at h';cases h'
   | some dl' =>
     rw[q2] at h'
     obtain⟨init,ds,e1,e2⟩:=y1k q2
     obtain⟨⟨w1,w2,w3⟩,e3⟩:=R.guard_ne (show R.guard (z1t p Γ/\d.noL=true/\∀ds,D.lst ds∈dss.map D.lst->ds.length<=100000) (R.ok (Fl.nx (Γ.set p (.ro (.lst dl')))))≠R.no by rw[show R.guard _ _=R.ok (Fl.nx Γ') from h'];exact fun z=>nomatch z)
     have e4:=e3.symm.trans h'
     cases e4
     refine⟨d,init,ds,rfl,e1,by rw[e2],w1,w2,w3 ds ?_⟩
     rw[e1];simp
theorem y5y{as:List Addr}{b:Addr}:L2.atI ((as++[b]).map V.ref) (-1)=some (V.ref b):=by
 have e:=L3.atI_neg (ds:=(as++[b]).map V.ref) (i:=-1) (by decide) (by simp;lia)
 have e2:L2.atI ((as++[b]).map V.ref) (-1)=L3.atI ((as++[b]).map V.ref) (-1):=rfl
 rw[e2,e,show((-1:Int)+((as++[b]).map V.ref).length).toNat=as.length by simp;lia]
 simp
theorem x6e{x:Str}{px apos cpos spos c1 c2:Pos}{kc}{e:Expr}{g:G->R D}(he:PDr X e g)(hN:X.N[p]? = some x:=by rfl)(hv:Vis X.env.scope x:=by first | exact Or.inl rfl | exact Or.inr (Or.inl rfl) | exact Or.inr (Or.inr rfl))(hd:(x==("__debug__":Str))=false:=by decide)(hcd:(x==("__classdict__":Str))=false:=by decide)
 (hsw:swapsWith (.Call (.Attribute (.Subscript (.Name x px) (.UnaryOp .USub (.Constant (.int 1) kc c1) c2) spos) "append" apos) [e] [] cpos) none pos.line X.env=pure false:=by rfl)
 (hbase:attributeBase (.Subscript (.Name x px) (.UnaryOp .USub (.Constant (.int 1) kc c1) c2) spos) "append" X.env (eval (.Subscript (.Name x px) (.UnaryOp .USub (.Constant (.int 1) kc c1) c2) spos) X.env)=eval (.Subscript (.Name x px) (.UnaryOp .USub (.Constant (.int 1) kc c1) c2) spos) X.env:=by rfl)
 (hfew:((backTo cpos (starEach [e] X.env)).all (fun x=>!x.1)&&(backToKw cpos (keywordEach [] X.env)).all (fun x=>x.1.isSome)
   && decide ([e].length+([]:List Keyword).length+(if ([]:List Keyword).isEmpty then 0 else 1)<30))=true:=by rfl)
 (hline:(apos.endLine==cpos.line)=true:=by rfl) (hs:starEach [e] X.env=(false,eval e X.env)::starEach [] X.env:=by rfl) (hix:y2o (.UnaryOp .USub (.Constant (.int 1) kc c1) c2):=by intro _ _;rfl) :
 PP X p (.Expr (.Call (.Attribute (.Subscript (.Name x px) (.UnaryOp .USub (.Constant (.int 1) kc c1) c2) spos) "append" apos) [e] [] cpos) pos) (y7h p g):=by
 refine⟨fun pins s σ H F Γ Γ' dss a as I fo rl gp pl hg=>?_⟩
 obtain⟨d,init,ds,hd0,rfl,rfl,ro,nd,hlen⟩:=x2d gp hg
 obtain⟨as0,b,rfl⟩:∃as0 b,as=as0++[b]:=by
  rcases List.eq_nil_or_concat as with z | ⟨as0,b,z⟩
  ·have:=pl.len;rw[z] at this;simp at this
  ·exact⟨as0,b,by rw[z,List.concat_eq_append]⟩
 have hl0:as0.length=init.length:=by have:=pl.len;simpa using this
 obtain⟨n1,xs,hb,ib⟩:=pl.each as0.length b ds (by simp) (by rw[hl0];simp)
 refine wpAny_Expr_any ?_ I.quiet hsw
 refine wpAny_Call_method_late hbase hfew hline rfl (wpAny_mono ((x6l (X:=X.nox) y4x (z6a (X:=X.nox) hN hv hd hcd) (x6k (X:=X.nox) x2p y9b) hix) pins s σ H (fun v' H'=>v' = .ref b/\H'=H) (I.wish _) ⟨.ref a,pl.loc,1,rfl,a,(as0++[b]).map V.ref,-1,.ref b,rfl,rfl,SqL.of pl.top,y5y,rfl,rfl⟩) (fun v s1 q=>?_) fun _ _ z=>False.elim z)
 obtain⟨v',H',I1,r1,e1,e2⟩:=q
 subst e1 e2
 have I1':=I1.unwish
 obtain⟨t1,t2⟩:=z9k (T:="list") I1' r1 (.inl ⟨rfl,xs,SqL.of hb⟩)
 refine⟨"list",_,PySem.F.plainAttrs_list,PySem.F.slot_list_append,PySem.F.type_list_append,t1,t2,?_⟩
 rw[hs]
 refine Calls.callWith_builtin rfl (Calls.evalArgs_plain ?_)
 show wpAny _ _ (spliced ((false,eval e X.env)::backTo cpos [])) _ _ s1
 refine Calls.spliced_cons (wpAny_mono (he.run pins s1 σ H' F Γ I1' fo rl (by rw[hd0];exact fun z=>nomatch z)) (fun u s2 q2=>Calls.spliced_nil ?_) fun _ _ x=>by obtain⟨c7,H7,e7,_⟩:=x;rw[hd0] at e7;cases e7)
 obtain⟨d',y,H2,e3,I2,r2,S2,i2⟩:=q2
 rw[hd0] at e3
 cases e3
 have hx2:=S2 _ _ hb
 have hsl:(100001:Nat)<=sizeLine:=by rw[sizeLine_eq];decide
 have hxl:=ib.length
 refine wpAny_mono (z6l (X:=X.nox) pins s2 σ H2 (.ref b) [y] v [u] (fun z H''=>z = .non/\H''=upd H2 b (.lst (xs++[y]))) (I2.wish _) r1 (.cons r2 .nil) ⟨b,xs,y,rfl,rfl,hx2,by lia,rfl,rfl⟩) (fun w' s3 q3=>?_) fun _ _ z=>False.elim z
 obtain⟨z,H'',I3,rz,ez,eH⟩:=q3
 subst ez eH
 have fo2:=fo.same S2
 have pl2:=pl.same fo S2
 have nb:b ∉ F:=pl.out b (by simp)
 have pl3:=pl2.app fo2 hx2 nd (i2.same z0u)
 have hp:p<Γ.length:=by
  rcases Nat.lt_or_ge p Γ.length with w | w
  ·exact w
  ·rw[List.getElem?_eq_none w] at gp;cases gp
 have fo3:FOk (upd H2 b (.lst (xs++[y]))) F:=fun c hc=>by
  obtain⟨ys,q⟩:=fo2 c hc
  exact⟨ys,by rw[z0k fun w=>nb (by rw[<-w];exact hc)];exact q⟩
 refine⟨rfl,σ,_,F,_,a,as0++[b],I3.unwish,fo3,(rl.same S2).putP fo2 ro hp hx2 nb pl.loc (pl3.is fo3),List.getElem?_set_self hp,pl3,⟨fun c o hc q=>?_,fun c hc=>.inl hc⟩⟩
 rw[z0k fun w=>hc (by rw[w];simp)]
 exact S2 _ _ q
theorem x2c{Γ Γ':G}{dss:List (List D)}(gp:Γ[p]? = some (.ro (.lst (dss.map D.lst))))(h:y7g p Γ = .ok (.nx Γ')):Γ'=Γ.set p (.ro (.lst ((dss++[[]]).map D.lst)))/\z1t p Γ/\dss.length<=100000:=by
 unfold y7g at h
 rw[gp] at h
 have h':R.guard (z1t p Γ/\(dss.map D.lst).length<=100000) (.ok (.nx (Γ.set p (.ro (.lst (dss.map D.lst++[.lst []]))))))=R.ok (Fl.nx Γ'):=h
 obtain⟨⟨w1,w2⟩,e3⟩:=R.guard_ne (show R.guard (z1t p Γ/\(dss.map D.lst).length<=100000) (R.ok (Fl.nx (Γ.set p (.ro (.lst (dss.map D.lst++[.lst []]))))))≠R.no by rw[h'];exact fun z=>nomatch z)
 have e4:=e3.symm.trans h'
 cases e4
 refine⟨by rw[List.map_append];rfl,w1,by simpa using w2⟩
theorem Pile.new{K:PySem.W.Frag}{H H1:Hp}{F:List Addr}{p:Nat}{σ:St}{dss:List (List D)}{a b:Addr}{as:List Addr}(h:Pile K H F p σ dss a as)(fo:FOk H F)(S:Same H H1)(hn:H b=none)(hb:H1 b=some (.lst [])):Pile K (upd H1 a (.lst ((as++[b]).map V.ref))) F p σ (dss++[[]]) a (as++[b]):=by
 have h1:=h.same fo S
 have fo1:=fo.same S
 have ha:=h1.top
 have hna:b≠a:=fun z=>by rw[z,h.top] at hn;cases hn
 have hnb:b ∉ as:=fun z=>by obtain⟨o,e⟩:=h.at z;rw[e] at hn;cases hn
 have nd:=List.nodup_cons.mp h.nodup
 have up:∀{vs:List V} {es:List D},D.noLs es=true->IsAll K H1 es vs->IsAll K (upd H1 a (.lst ((as++[b]).map V.ref))) es vs:=fun n i=>(z6n fo1 ha n i).same z0u
 refine⟨h.loc,z0m,by simp[h.len],fun j c es hc he=>?_,?_,fun c hc=>?_⟩
 ·rcases Nat.lt_or_ge j as.length with z | z
  ·rw[List.getElem?_append_left z] at hc
   rw[List.getElem?_append_left (by rw[<-h.len];exact z)] at he
   obtain⟨n1,vs,e1,i1⟩:=h1.each j c es hc he
   exact⟨n1,vs,by rw[z0k fun w=>nd.1 (by rw[<-w];exact List.mem_of_getElem? hc)];exact e1,up n1 i1⟩
  ·rw[List.getElem?_append_right z] at hc
   rw[List.getElem?_append_right (by rw[<-h.len];exact z)] at he
   have ej:j-as.length=0:=by
    rcases Nat.eq_zero_or_pos (j-as.length) with w | w
    ·exact w
    ·rw[List.getElem?_eq_none (by simp;lia)] at hc;cases hc
   rw[ej] at hc
   rw[show j-dss.length=0 by rw[<-h.len];exact ej] at he
   cases hc
   cases he
   exact⟨rfl,[],by rw[z0k hna];exact hb,IsAll.nil⟩
 ·refine List.nodup_cons.mpr ⟨fun z=>?_,?_⟩
  ·rcases List.mem_append.mp z with w | w
   ·exact nd.1 w
   ·rw[List.mem_singleton] at w;exact hna w.symm
  ·exact List.nodup_append.mpr ⟨nd.2,by simp,fun x hx y hy e=>by rw[List.mem_singleton] at hy;rw[hy] at e;exact hnb (e ▸ hx)⟩
 ·rcases List.mem_cons.mp hc with w | w
  ·exact h.out c (by rw[w];exact List.mem_cons_self)
  ·rcases List.mem_append.mp w with w | w
   ·exact h.out c (List.mem_cons_of_mem _ w)
   ·rw[List.mem_singleton] at w
    intro z
    obtain⟨ys,e⟩:=fo c z
    rw[w,hn] at e;cases e
theorem x6c{x:Str}{px apos cpos lpos:Pos}(hN:X.N[p]? = some x:=by rfl)(hv:Vis X.env.scope x:=by first | exact Or.inl rfl | exact Or.inr (Or.inl rfl) | exact Or.inr (Or.inr rfl))(hd:(x==("__debug__":Str))=false:=by decide)(hcd:(x==("__classdict__":Str))=false:=by decide)
 (hsw:swapsWith (.Call (.Attribute (.Name x px) "append" apos) [.List [] lpos] [] cpos) none pos.line X.env=pure false:=by rfl)
 (hbase:attributeBase (.Name x px) "append" X.env (eval (.Name x px) X.env)=eval (.Name x px) X.env:=by rfl)
 (hfew:((backTo cpos (starEach [.List [] lpos] X.env)).all (fun x=>!x.1)&&(backToKw cpos (keywordEach [] X.env)).all (fun x=>x.1.isSome)
   && decide ([Expr.List [] lpos].length+([]:List Keyword).length+(if ([]:List Keyword).isEmpty then 0 else 1)<30))=true:=by rfl)
 (hline:(apos.endLine==cpos.line)=true:=by rfl) (hs:starEach [.List [] lpos] X.env=(false,eval (.List [] lpos) X.env)::starEach [] X.env:=by rfl) :
 PP X p (.Expr (.Call (.Attribute (.Name x px) "append" apos) [.List [] lpos] [] cpos) pos) (y7g p):=by
 refine⟨fun pins s σ H F Γ Γ' dss a as I fo rl gp pl hg=>?_⟩
 obtain⟨rfl,ro,hlen⟩:=x2c gp hg
 refine wpAny_Expr_any ?_ I.quiet hsw
 refine wpAny_Call_method_late hbase hfew hline rfl (wpAny_mono (z6a (X:=X.nox) hN hv hd hcd pins s σ H (fun v' H'=>v' = .ref a/\H'=H) (I.wish _) ⟨.ref a,pl.loc,rfl,rfl⟩) (fun v s1 q=>?_) fun _ _ z=>False.elim z)
 obtain⟨v',H',I1,r1,e1,e2⟩:=q
 subst e1 e2
 have I1':=I1.unwish
 obtain⟨t1,t2⟩:=z9k (T:="list") I1' r1 (.inl ⟨rfl,_,SqL.of pl.top⟩)
 refine⟨"list",_,PySem.F.plainAttrs_list,PySem.F.slot_list_append,PySem.F.type_list_append,t1,t2,?_⟩
 rw[hs]
 refine Calls.callWith_builtin rfl (Calls.evalArgs_plain ?_)
 show wpAny _ _ (spliced ((false,eval (.List [] lpos) X.env)::backTo cpos [])) _ _ s1
 have gl:gLst gNil Γ = .ok []:=R.guard_pos ⟨by decide,rfl⟩
 refine Calls.spliced_cons (wpAny_mono ((z7b (X:=X) (pos:=lpos) z0c).run pins s1 σ H' F Γ I1' fo rl (by rw[gl];exact fun z=>nomatch z)) (fun u s2 q2=>Calls.spliced_nil ?_) fun _ _ x=>by obtain⟨c7,H7,e7,_⟩:=x;rw[gl] at e7;cases e7)
 obtain⟨ds0,b,xs,H2,e3,I2,eu,S2,hn,hb,i2⟩:=q2
 rw[gl] at e3
 cases e3
 subst eu
 cases IsAll.nil_iff.mp i2
 have hsl:(100001:Nat)<=sizeLine:=by rw[sizeLine_eq];decide
 have hll:=pl.len
 refine wpAny_mono (z6l (X:=X.nox) pins s2 σ H2 (.ref a) [.ref b] v [.ref b] (fun z H''=>z = .non/\H''=upd H2 a (.lst (as.map V.ref++[.ref b]))) (I2.wish _) r1 (.cons rfl .nil) ⟨a,as.map V.ref,.ref b,rfl,rfl,S2 _ _ pl.top,by rw[List.length_map];lia,rfl,rfl⟩) (fun w' s3 q3=>?_) fun _ _ z=>False.elim z
 obtain⟨z,H'',I3,rz,ez,eH⟩:=q3
 have em:as.map V.ref++[V.ref b]=(as++[b]).map V.ref:=by rw[List.map_append];rfl
 rw[em] at eH
 subst ez eH
 have fo2:=fo.same S2
 have pl3:=pl.new fo S2 hn hb
 have na:a ∉ F:=pl.out a List.mem_cons_self
 have hp:p<Γ.length:=by
  rcases Nat.lt_or_ge p Γ.length with w | w
  ·exact w
  ·rw[List.getElem?_eq_none w] at gp;cases gp
 have fo3:FOk (upd H2 a (.lst ((as++[b]).map V.ref))) F:=fun c hc=>by
  obtain⟨ys,q⟩:=fo2 c hc
  exact⟨ys,by rw[z0k fun w=>na (by rw[<-w];exact hc)];exact q⟩
 refine⟨rfl,σ,_,F,_,a,as++[b],I3.unwish,fo3,(rl.same S2).putP fo2 ro hp (S2 _ _ pl.top) na pl.loc (pl3.is fo3),List.getElem?_set_self hp,pl3,⟨fun c o hc q=>?_,fun c hc=>?_⟩⟩
 ·rw[z0k fun w=>hc (by rw[w];simp)]
  exact S2 _ _ q
 ·rcases List.mem_append.mp hc with w | w
  ·exact .inl (List.mem_append_left _ w)
  ·rcases List.mem_cons.mp w with w | w
   ·exact .inl (List.mem_append_right _ (by rw[w];exact List.mem_cons_self))
   ·rcases List.mem_append.mp w with w | w
    ·exact .inl (List.mem_append_right _ (List.mem_cons_of_mem _ w))
    ·rw[List.mem_singleton] at w;exact .inr (by rw[w];exact hn)
theorem x2b{j:Nat}{Γ Γ':G}{dss:List (List D)}(gp:Γ[p]? = some (.ro (.lst (dss.map D.lst))))(h:y7f p j Γ = .ok (.nx Γ')):∃init ds,dss=init++[ds]/\Γ'=(Γ.set p (.ro (.lst (init.map D.lst)))).set j (.ro (.tup ds))/\z1t p Γ:=by
 unfold y7f at h
 rw[gp] at h
 rcases List.eq_nil_or_concat dss with z | ⟨init,ds,z⟩
 ·subst z;cases h
 ·rw[List.concat_eq_append] at z
  subst z
  have e0:((init++[ds]).map D.lst).getLast? = some (D.lst ds):=by rw[List.map_append,List.getLast?_append];rfl
  have e1:((init++[ds]).map D.lst).dropLast=init.map D.lst:=by rw[List.map_append];simp
  have h':(match ((init++[ds]).map D.lst).getLast? with
   | some (.lst ds0)=>R.guard (z1t p Γ/\z1i [.lst ds0] = .ok (.tup ds0)) (.ok (.nx ((Γ.set p (.ro (.lst ((init++[ds]).map D.lst).dropLast))).set j (.ro (.tup ds0)))))
   | _=>R.no)=R.ok (Fl.nx Γ'):=h
  rw[e0,e1] at h'
  obtain⟨⟨w1,_⟩,e3⟩:=R.guard_ne (show R.guard (z1t p Γ/\z1i [.lst ds] = .ok (.tup ds)) (R.ok (Fl.nx ((Γ.set p (.ro (.lst (init.map D.lst)))).set j (.ro (.tup ds)))))≠R.no by rw[show R.guard _ _=R.ok (Fl.nx Γ') from h'];exact fun z=>nomatch z)
  have e4:=e3.symm.trans h'
  cases e4
  exact⟨init,ds,rfl,rfl,w1⟩
theorem Pile.pop{K:PySem.W.Frag}{H:Hp}{F:List Addr}{p:Nat}{σ:St}{dss:List (List D)}{ds:List D}{a b:Addr}{as:List Addr}(h:Pile K H F p σ (dss++[ds]) a (as++[b]))(fo:FOk H F):Pile K (upd H a (.lst (as.map V.ref))) F p σ dss a as:=by
 have nd:=List.nodup_cons.mp h.nodup
 have hl:as.length=dss.length:=by have:=h.len;simpa using this
 have up:∀{vs:List V} {es:List D},D.noLs es=true->IsAll K H es vs->IsAll K (upd H a (.lst (as.map V.ref))) es vs:=fun n i=>(z6n fo h.top n i).same z0u
 refine⟨h.loc,z0m,hl,fun j c es hc he=>?_,?_,fun c hc=>h.out c ?_⟩
 ·have z:j<as.length:=by
   rcases Nat.lt_or_ge j as.length with w | w
   ·exact w
   ·rw[List.getElem?_eq_none w] at hc;cases hc
  obtain⟨n1,vs,e1,i1⟩:=h.each j c es (by rw[List.getElem?_append_left z];exact hc) (by rw[List.getElem?_append_left (by lia)];exact he)
  exact⟨n1,vs,by rw[z0k fun w=>nd.1 (by rw[<-w];exact List.mem_append_left _ (List.mem_of_getElem? hc))];exact e1,up n1 i1⟩
 ·exact List.nodup_cons.mpr ⟨fun z=>nd.1 (List.mem_append_left _ z),(List.nodup_append.mp nd.2).1⟩
 ·rcases List.mem_cons.mp hc with w | w
  ·rw[w];exact List.mem_cons_self
  ·exact List.mem_cons_of_mem _ (List.mem_append_left _ w)
theorem x3u(j:Nat){x y:Str}{px py tpx apos cpos tpos:Pos}(hN:X.N.Nodup)(hm:X.mg "tuple"=none)(hjp:j≠p:=by decide)(hNp:X.N[p]? = some x:=by rfl)(hNj:X.N[j]? = some y:=by rfl)(hv:Vis X.env.scope x:=by first | exact Or.inl rfl | exact Or.inr (Or.inl rfl) | exact Or.inr (Or.inr rfl))(hd:(x==("__debug__":Str))=false:=by decide)(hcd:(x==("__classdict__":Str))=false:=by decide)
 (hy:Loc X.env.scope y:=by first | exact Or.inl rfl | exact Or.inr rfl) (hfy:X.fn y=true∨X.env.scope.names.lookup y=some .local:=by first | exact .inl rfl | exact .inr rfl | assumption)
 (hsw:swapsWith (.Call (.Name "tuple" tpx) [.Call (.Attribute (.Name x px) "pop" apos) [] [] cpos] [] tpos) (some (.Name y py)) pos.line X.env=pure false:=by rfl)
 (hbase:attributeBase (.Name x px) "pop" X.env (eval (.Name x px) X.env)=eval (.Name x px) X.env:=by rfl)
 (hline:(apos.endLine==cpos.line)=true:=by rfl) (hg:Gl X "tuple":=by rfl)
 (he:starEach [.Call (.Attribute (.Name x px) "pop" apos) [] [] cpos] X.env=(false,eval (.Call (.Attribute (.Name x px) "pop" apos) [] [] cpos) X.env)::starEach [] X.env:=by rfl) (hpl:(backTo tpos (starEach [] X.env)).any (·.1)=false:=by rfl) :
 PP X p (.Assign [.Name y py] (.Call (.Name "tuple" tpx) [.Call (.Attribute (.Name x px) "pop" apos) [] [] cpos] [] tpos) pos) (y7f p j):=by
 refine⟨fun pins s σ H F Γ Γ' dss a as I fo rl gp pl hg0=>?_⟩
 obtain⟨init,ds,rfl,rfl,ro⟩:=x2b gp hg0
 obtain⟨as0,b,rfl⟩:∃as0 b,as=as0++[b]:=by
  rcases List.eq_nil_or_concat as with z | ⟨as0,b,z⟩
  ·have:=pl.len;rw[z] at this;simp at this
  ·exact⟨as0,b,by rw[z,List.concat_eq_append]⟩
 have hl0:as0.length=init.length:=by have:=pl.len;simpa using this
 obtain⟨n1,xs,hb,ib⟩:=pl.each as0.length b ds (by simp) (by rw[hl0];simp)
 have hab:b≠a:=fun z=>(List.nodup_cons.mp pl.nodup).1 (by rw[<-z];simp)
 have na:a ∉ F:=pl.out a List.mem_cons_self
 have hp:p<Γ.length:=by
  rcases Nat.lt_or_ge p Γ.length with w | w
  ·exact w
  ·rw[List.getElem?_eq_none w] at gp;cases gp
 have fo3:FOk (upd H a (.lst (as0.map V.ref))) F:=fun c hc=>by
  obtain⟨ys,q⟩:=fo c hc
  exact⟨ys,by rw[z0k fun w=>na (by rw[<-w];exact hc)];exact q⟩
 have pl1:=pl.pop fo
 refine wpAny_Assign_Name (wpAny_Call_Name_kw (z6c I hg hm (by decide +kernel:bootBuiltins "tuple"=some (.type "tuple")) ?_ (by decide) (by decide))) hsw
 refine PyProof.Rows.callWith_type1 ?_ he hpl
 rw[he]
 show wpAny _ _ (spliced ((false,eval (.Call (.Attribute (.Name x px) "pop" apos) [] [] cpos) X.env)::backTo tpos [])) _ _ s
 refine Calls.spliced_cons (wpAny_Call_method0_late hbase hline (wpAny_mono (z6a (X:=X.nox) hNp hv hd hcd pins s σ H (fun v' H'=>v' = .ref a/\H'=H) (I.wish _) ⟨.ref a,pl.loc,rfl,rfl⟩) (fun v s1 q=>?_) fun _ _ z=>False.elim z))
 obtain⟨v',H',I1,r1,e1,e2⟩:=q
 subst e1 e2
 have I1':=I1.unwish
 obtain⟨t1,t2⟩:=z9k (T:="list") I1' r1 (.inl ⟨rfl,_,SqL.of pl.top⟩)
 refine⟨"list",_,PySem.F.plainAttrs_list,PySem.F.slot_list_pop,PySem.F.type_list_pop,t1,t2,Calls.callWith_builtin rfl (PySem.evalArgs_none ?_)⟩
 refine wpAny_mono (x2y (X:=X.nox) pins s1 σ H' (.ref a) [] v [] (fun z H''=>z = .ref b/\H''=upd H' a (.lst (as0.map V.ref))) (I1'.wish _) r1 .nil ⟨a,(as0++[b]).map V.ref,.ref b,rfl,rfl,pl.top,by simp,rfl,by rw[List.map_append];simp⟩) (fun u s2 q2=>Calls.spliced_nil ?_) fun _ _ z=>False.elim z
 obtain⟨z,H'',I2,rz,ez,eH⟩:=q2
 subst ez eH
 have I2':=I2.unwish
 have isb:Is X.K (upd H' a (.lst (as0.map V.ref))) (.lst ds) (.ref b):=Is.lst_iff.mpr ⟨b,xs,rfl,SqL.of (by rw[z0k hab];exact hb),(z6n fo pl.top n1 ib).same z0u⟩
 refine thn ((z1s (X:=X)).run I2' (.cons rz .nil) (IsAll.cons isb IsAll.nil) (show z1i [.lst ds] ≠ .no from fun z=>nomatch z)) fun w s3 q3=>?_
 obtain⟨d,y0,H3,e3,I3,r3,S3,i3⟩:=q3
 cases e3
 have fo4:=fo3.same S3
 have nt:(D.tup ds).noL=true:=by simpa [D.noL] using n1
 have pl4:=pl1.same fo3 S3
 have rl3:=((rl.putP (d:=.lst (init.map D.lst)) fo ro hp pl.top na pl.loc (pl1.is fo3)).same S3).set_ro (i:=j) (Is.hid fo4 _ y0 nt i3)
 refine z5l I3 hN hNj hy r3 (fun s4 I4=>⟨rfl,_,H3,F,init,a,as0,I4,fo4,rl3,?_,pl4.keep fo4 .refl (List.getElem?_set_ne hjp),⟨fun c o hc q=>?_,fun c hc=>?_⟩⟩) hfy
 ·rw[List.getElem?_set_ne hjp,List.getElem?_set_self hp]
 ·exact S3 _ _ (by rw[z0k fun w=>hc (by rw[w];simp)];exact q)
 ·rcases List.mem_append.mp hc with w | w
  ·exact .inl (List.mem_append_left _ w)
  ·rcases List.mem_cons.mp w with w | w
   ·exact .inl (List.mem_append_right _ (by rw[w];exact List.mem_cons_self))
   ·exact .inl (List.mem_append_right _ (List.mem_cons_of_mem _ (List.mem_append_left _ w)))
structure PM (X:Cx) (e:Expr) (gm:G->R (D×G)):Prop where
 run:∀(pins:List (Addr×Obj)) (s:Shared) (σ:St) (H:Hp) (F:List Addr) (Γ Γ1:G) (d:D),Inv X pins σ H s->FOk H F->Rel X.K H F Γ σ->gm Γ = .ok (d,Γ1) ->
  wpAny (model X.prog X.w) X.A (eval e X.env) (fun u s'=>∃y H',Inv X pins σ H' s'/\RelV y u/\FOk H' F/\Rel X.K H' F Γ1 σ/\Ext H F H' F/\Is X.K H' d y) (fun _ _=>False) s
theorem y9y{gm:G->R (D×G)}{Γ Γ':G}{dss:List (List D)}(gp:Γ[p]? = some (.ro (.lst (dss.map D.lst))))(h:y1m p gm Γ = .ok (.nx Γ')):∃d Γ1 init ds,gm Γ = .ok (d,Γ1)/\dss=init++[ds]/\Γ'=Γ1.set p (.ro (.lst ((init++[ds++[d]]).map D.lst)))/\Γ1[p]? = some (.ro (.lst (dss.map D.lst)))/\z1t p Γ1/\d.noL=true/\ds.length<=100000:=by
 unfold y1m at h
 rw[gp] at h
 cases q:gm Γ with
 | no=>rw[q] at h;cases h
 | er c=>rw[q] at h;cases h
 | ok dG =>
   obtain⟨d,Γ1⟩:=dG
   rw[q] at h
   have h':(match z4x (dss.map D.lst) d with
    | some dl'=>R.guard (Γ1[p]? = some (.ro (.lst (dss.map D.lst)))/\z1t p Γ1/\d.noL=true/\∀ds,D.lst ds∈dss.map D.lst->ds.length<=100000) (.ok (.nx (Γ1.set p (.ro (.lst dl')))))
    | none=>R.no)=R.ok (Fl.nx Γ'):=h
   cases q2:z4x (dss.map D.lst) d with
   | none=>rw[q2] at h';cases h'
   | some dl' =>
     rw[q2] at h'
     obtain⟨init,ds,e1,e2⟩:=y1k q2
     obtain⟨⟨w0,w1,w2,w3⟩,e3⟩:=R.guard_ne (show R.guard (Γ1[p]? = some (.ro (.lst (dss.map D.lst)))/\z1t p Γ1/\d.noL=true/\∀ds,D.lst ds∈dss.map D.lst->ds.length<=100000) (R.ok (Fl.nx (Γ1.set p (.ro (.lst dl')))))≠R.no by rw[show R.guard _ _=R.ok (Fl.nx Γ') from h'];exact fun z=>nomatch z)
     have e4:=e3.symm.trans h'
     cases e4
     refine⟨d,Γ1,init,ds,rfl,e1,by rw[e2],w0,w1,w2,w3 ds ?_⟩
     rw[e1];simp
theorem x3w{x:Str}{px apos cpos spos c1 c2:Pos}{kc}{e:Expr}{gm:G->R (D×G)}(he:PM X e gm)(hN:X.N[p]? = some x:=by rfl)(hv:Vis X.env.scope x:=by first | exact Or.inl rfl | exact Or.inr (Or.inl rfl) | exact Or.inr (Or.inr rfl))(hd:(x==("__debug__":Str))=false:=by decide)(hcd:(x==("__classdict__":Str))=false:=by decide)
 (hsw:swapsWith (.Call (.Attribute (.Subscript (.Name x px) (.UnaryOp .USub (.Constant (.int 1) kc c1) c2) spos) "append" apos) [e] [] cpos) none pos.line X.env=pure false:=by rfl)
 (hbase:attributeBase (.Subscript (.Name x px) (.UnaryOp .USub (.Constant (.int 1) kc c1) c2) spos) "append" X.env (eval (.Subscript (.Name x px) (.UnaryOp .USub (.Constant (.int 1) kc c1) c2) spos) X.env)=eval (.Subscript (.Name x px) (.UnaryOp .USub (.Constant (.int 1) kc c1) c2) spos) X.env:=by rfl)
 (hfew:((backTo cpos (starEach [e] X.env)).all (fun x=>!x.1)&&(backToKw cpos (keywordEach [] X.env)).all (fun x=>x.1.isSome)
   && decide ([e].length+([]:List Keyword).length+(if ([]:List Keyword).isEmpty then 0 else 1)<30))=true:=by rfl)
 (hline:(apos.endLine==cpos.line)=true:=by rfl) (hs:starEach [e] X.env=(false,eval e X.env)::starEach [] X.env:=by rfl) (hix:y2o (.UnaryOp .USub (.Constant (.int 1) kc c1) c2):=by intro _ _;rfl) :
 PP X p (.Expr (.Call (.Attribute (.Subscript (.Name x px) (.UnaryOp .USub (.Constant (.int 1) kc c1) c2) spos) "append" apos) [e] [] cpos) pos) (y1m p gm):=by
 refine⟨fun pins s σ H F Γ Γ' dss a as I fo rl gp pl hg=>?_⟩
 obtain⟨d,Γ1,init,ds,hd0,rfl,rfl,gp1,ro,nd,hlen⟩:=y9y gp hg
 obtain⟨as0,b,rfl⟩:∃as0 b,as=as0++[b]:=by
  rcases List.eq_nil_or_concat as with z | ⟨as0,b,z⟩
  ·have:=pl.len;rw[z] at this;simp at this
  ·exact⟨as0,b,by rw[z,List.concat_eq_append]⟩
 have hl0:as0.length=init.length:=by have:=pl.len;simpa using this
 obtain⟨n1,xs,hb,ib⟩:=pl.each as0.length b ds (by simp) (by rw[hl0];simp)
 refine wpAny_Expr_any ?_ I.quiet hsw
 refine wpAny_Call_method_late hbase hfew hline rfl (wpAny_mono ((x6l (X:=X.nox) y4x (z6a (X:=X.nox) hN hv hd hcd) (x6k (X:=X.nox) x2p y9b) hix) pins s σ H (fun v' H'=>v' = .ref b/\H'=H) (I.wish _) ⟨.ref a,pl.loc,1,rfl,a,(as0++[b]).map V.ref,-1,.ref b,rfl,rfl,SqL.of pl.top,y5y,rfl,rfl⟩) (fun v s1 q=>?_) fun _ _ z=>False.elim z)
 obtain⟨v',H',I1,r1,e1,e2⟩:=q
 subst e1 e2
 have I1':=I1.unwish
 obtain⟨t1,t2⟩:=z9k (T:="list") I1' r1 (.inl ⟨rfl,xs,SqL.of hb⟩)
 refine⟨"list",_,PySem.F.plainAttrs_list,PySem.F.slot_list_append,PySem.F.type_list_append,t1,t2,?_⟩
 rw[hs]
 refine Calls.callWith_builtin rfl (Calls.evalArgs_plain ?_)
 show wpAny _ _ (spliced ((false,eval e X.env)::backTo cpos [])) _ _ s1
 refine Calls.spliced_cons (wpAny_mono (he.run pins s1 σ H' F Γ Γ1 d I1' fo rl hd0) (fun u s2 q2=>Calls.spliced_nil ?_) fun _ _ x=>False.elim x)
 obtain⟨y,H2,I2,r2,fo2,rl2,E2,i2⟩:=q2
 have nb:b ∉ F:=pl.out b (by simp)
 have hx2:=E2.keep b _ nb hb
 have hsl:(100001:Nat)<=sizeLine:=by rw[sizeLine_eq];decide
 have hxl:=ib.length
 refine wpAny_mono (z6l (X:=X.nox) pins s2 σ H2 (.ref b) [y] v [u] (fun z H''=>z = .non/\H''=upd H2 b (.lst (xs++[y]))) (I2.wish _) r1 (.cons r2 .nil) ⟨b,xs,y,rfl,rfl,hx2,by lia,rfl,rfl⟩) (fun w' s3 q3=>?_) fun _ _ z=>False.elim z
 obtain⟨z,H'',I3,rz,ez,eH⟩:=q3
 subst ez eH
 have pl2:=pl.keep fo E2 rfl
 have pl3:=pl2.app fo2 hx2 nd i2
 have hp:p<Γ1.length:=by
  rcases Nat.lt_or_ge p Γ1.length with w | w
  ·exact w
  ·rw[List.getElem?_eq_none w] at gp1;cases gp1
 have fo3:FOk (upd H2 b (.lst (xs++[y]))) F:=fun c hc=>by
  obtain⟨ys,q⟩:=fo2 c hc
  exact⟨ys,by rw[z0k fun w=>nb (by rw[<-w];exact hc)];exact q⟩
 refine⟨rfl,σ,_,F,_,a,as0++[b],I3.unwish,fo3,rl2.putP fo2 ro hp hx2 nb pl.loc (pl3.is fo3),List.getElem?_set_self hp,pl3,⟨fun c o hc q=>?_,fun c hc=>.inl hc⟩⟩
 rw[z0k fun w=>hc (by rw[w];simp)]
 exact E2.keep c o (fun z=>hc (List.mem_append_left _ z)) q
theorem y7e{s0:Str}{q k:Nat}{Γ Γ1:G}{d:D}(h:z8l s0 q k Γ = .ok (d,Γ1)):∃cs c t,Γ[q]? = some (.own (cs++[c]))/\Γ[k]? = some (.ro t)/\d = .tup [.str s0,c,t]/\Γ1=Γ.set q (.own cs)/\c.noL=true/\t.noL=true/\D.noLs (cs++[c])=true:=by
 unfold z8l at h
 split at h
 ·rename_i cs t e1 e2
  rcases List.eq_nil_or_concat cs with z | ⟨cs0,c,z⟩
  ·subst z;cases h
  ·rw[List.concat_eq_append] at z
   subst z
   have e0:(cs0++[c]).getLast? = some c:=by simp
   have e3:(cs0++[c]).dropLast=cs0:=by simp
   rw[e0,e3] at h
   have h':R.guard (c.noL=true/\t.noL=true/\D.noLs (cs0++[c])=true) (R.ok (D.tup [.str s0,c,t],Γ.set q (.own cs0)))=R.ok (d,Γ1):=h
   obtain⟨⟨w1,w2,w3⟩,e4⟩:=R.guard_ne (show R.guard (c.noL=true/\t.noL=true/\D.noLs (cs0++[c])=true) (R.ok (D.tup [.str s0,c,t],Γ.set q (.own cs0)))≠R.no by rw[h'];exact fun z=>nomatch z)
   have e5:=e4.symm.trans h'
   cases e5
   exact⟨cs0,c,t,e1,e2,rfl,rfl,w1,w2,w3⟩
 ·cases h
theorem y8t(q k:Nat){s0 l z:Str}{kc}{kt}{c0 pl apos cpos pz tpos:Pos}(hNq:X.N[q]? = some l:=by rfl)(hNk:X.N[k]? = some z:=by rfl)(hvl:Vis X.env.scope l:=by first | exact Or.inl rfl | exact Or.inr (Or.inl rfl) | exact Or.inr (Or.inr rfl))(hvz:Vis X.env.scope z:=by first | exact Or.inl rfl | exact Or.inr (Or.inl rfl) | exact Or.inr (Or.inr rfl))(hdl:(l==("__debug__":Str))=false:=by decide)(hcl:(l==("__classdict__":Str))=false:=by decide)(hdz:(z==("__debug__":Str))=false:=by decide)(hcz:(z==("__classdict__":Str))=false:=by decide)
 (hbase:attributeBase (.Name l pl) "pop" X.env (eval (.Name l pl) X.env)=eval (.Name l pl) X.env:=by rfl) (hline:(apos.endLine==cpos.line)=true:=by rfl)
 (h1s:starEach [.Constant (.str s0) kc c0,.Call (.Attribute (.Name l pl) "pop" apos) [] [] cpos,.Name z pz] X.env=[(false,eval (.Constant (.str s0) kc c0) X.env),(false,eval (.Call (.Attribute (.Name l pl) "pop" apos) [] [] cpos) X.env),(false,eval (.Name z pz) X.env)]:=by rfl) :
 PM X (.Tuple [.Constant (.str s0) kc c0,.Call (.Attribute (.Name l pl) "pop" apos) [] [] cpos,.Name z pz] kt tpos) (z8l s0 q k):=by
 refine⟨fun pins s σ H F Γ Γ1 d I fo rl hg=>?_⟩
 obtain⟨cs,c,t,eq,ek,rfl,rfl,nc,nt,ncs⟩:=y7e hg
 obtain⟨a,xs,h1,hF,h3,h4⟩:=rl.own q _ eq
 obtain⟨w,hw,iw⟩:=rl.ro k t ek
 have hxl:=h4.length
 obtain⟨xs0,xl,rfl⟩:∃xs0 xl,xs=xs0++[xl]:=by
  rcases List.eq_nil_or_concat xs with z | ⟨xs0,xl,z⟩
  ·rw[z] at hxl;simp at hxl
  ·exact⟨xs0,xl,by rw[z,List.concat_eq_append]⟩
 have hl0:cs.length=xs0.length:=by simpa using hxl
 have i0:IsAll X.K (hid F H) cs xs0:=by
  have:=IsAll.take cs.length h4
  rw[List.take_left' rfl,List.take_left' hl0.symm] at this
  exact this
 obtain⟨c',ec,ic⟩:=h4.getX (show(xs0++[xl])[cs.length]? = some xl by rw[hl0];simp)
 have ecc:(cs++[c])[cs.length]? = some c:=by simp
 rw[ecc] at ec
 cases ec
 obtain⟨rl1,_⟩:=rl.put eq h1 i0
 have fo1:FOk (upd H a (.lst xs0)) F:=fun b hb=>by
  by_cases z:b=a
  ·exact⟨xs0,by rw[z];exact z0m⟩
  ·obtain⟨ys,e⟩:=fo b hb
   exact⟨ys,by rw[z0k z];exact e⟩
 refine wpAny_Tuple_spliced ?_
 rw[h1s]
 show wpAny _ _ (spliced ((false,eval (.Constant (.str s0) kc c0) X.env)::(false,eval (.Call (.Attribute (.Name l pl) "pop" apos) [] [] cpos) X.env)::(false,eval (.Name z pz) X.env)::[])) _ _ s
 refine Calls.spliced_cons (wpAny_mono (x2u (X:=X.nox) pins s σ H (fun v' H'=>v' = .str s0/\H'=H) (I.wish _) ⟨rfl,rfl⟩) (fun u1 s1 q1=>?_) fun _ _ z=>False.elim z)
 obtain⟨v1,H1,I1,r1,e1,e2⟩:=q1
 subst e1 e2
 refine Calls.spliced_cons (wpAny_Call_method0_late hbase hline (wpAny_mono (z6a (X:=X.nox) hNq hvl hdl hcl pins s1 σ H1 (fun v' H'=>v' = .ref a/\H'=H1) (I1.unwish.wish _) ⟨.ref a,h1,rfl,rfl⟩) (fun v s2 q2=>?_) fun _ _ z=>False.elim z))
 obtain⟨v2,H2,I2,r2,e3,e4⟩:=q2
 subst e3 e4
 have I2':=I2.unwish
 obtain⟨t1,t2⟩:=z9k (T:="list") I2' r2 (.inl ⟨rfl,_,SqL.of h3⟩)
 refine⟨"list",_,PySem.F.plainAttrs_list,PySem.F.slot_list_pop,PySem.F.type_list_pop,t1,t2,Calls.callWith_builtin rfl (PySem.evalArgs_none ?_)⟩
 refine wpAny_mono (x2y (X:=X.nox) pins s2 σ H2 (.ref a) [] v [] (fun z H''=>z=xl/\H''=upd H2 a (.lst xs0)) (I2'.wish _) r2 .nil ⟨a,xs0++[xl],xl,rfl,rfl,h3,by simp,rfl,by simp⟩) (fun u3 s3 q3=>?_) fun _ _ z=>False.elim z
 obtain⟨y3,H3,I3,r3,e5,e6⟩:=q3
 subst e5 e6
 refine Calls.spliced_cons (wpAny_mono (z6a (X:=X.nox) hNk hvz hdz hcz pins s3 σ (upd H2 a (.lst xs0)) (fun v' H'=>v'=w/\H'=upd H2 a (.lst xs0)) (I3.unwish.wish _) ⟨w,hw,rfl,rfl⟩) (fun u4 s4 q4=>Calls.spliced_nil ?_) fun _ _ z=>False.elim z)
 obtain⟨y4,H4,I4,r4,e7,e8⟩:=q4
 subst e7 e8
 have I4':=I4.unwish
 have hz:([.str s0,y3,y4]:List V).length<=sizeLine:=z4i (show 3<=1000 by decide)
 refine⟨hz,?_⟩
 have hf:upd H2 a (.lst xs0) s4.heap.objs.size=none:=I4'.hok.fresh (Nat.le_refl _)
 have S4:=z1k hf (.tup [.str s0,y3,y4])
 have is1:Is X.K (upd H2 a (.lst xs0)) c y3:=(y6b fo h3 nc (ic.same z0u)).same z0u
 have is2:Is X.K (upd H2 a (.lst xs0)) t y4:=(y6b fo h3 nt (iw.same z0u)).same z0u
 refine⟨.ref s4.heap.objs.size,upd (upd H2 a (.lst xs0)) s4.heap.objs.size (.tup [.str s0,y3,y4]),I4'.laid (t':=s4.toks) (fun b u e=>Heap.get?_push_of_some _ e) (Nat.le_refl _) ?_,rfl,fo1.same S4,rl1.same S4,⟨fun b o hb e=>S4 _ _ (by rw[z0k fun z=>hb (by rw[z];exact hF)];exact e),fun b hb=>.inl hb⟩,?_⟩
 ·exact⟨hz,_,.cons r1 (.cons r3 (.cons r4 .nil)),⟨_,Heap.get?_push_size _ rfl,rfl,_,rfl⟩⟩
 ·exact Is.tup_iff.mpr ⟨_,_,rfl,SqT.of z0m,IsAll.cons (Is.str_iff.mpr rfl) (IsAll.cons (is1.same S4) (IsAll.cons (is2.same S4) IsAll.nil))⟩
structure PPq (X:Cx) (p:Nat) (st:List Stmt) (g:G->R Fl):Prop where
 run:∀(pins:List (Addr×Obj)) (s:Shared) (σ:St) (H:Hp) (F:List Addr) (Γ:G) (dss:List (List D)) (a:Addr) (as:List Addr),Inv X pins σ H s->FOk H F->Rel X.K H F Γ σ->Γ[p]? = some (.ro (.lst (dss.map D.lst)))->Pile X.K H F p σ dss a as->g Γ ≠ .no ->
  wpAny (model X.prog X.w) X.A (execs st X.env) (FlP X pins H (F++a::as) (g Γ)) (FlX X pins H (F++a::as) (g Γ)) s
theorem z9e(h1:PP X p st t)(h2:PPq X p rest u):PPq X p (st::rest) (gStP t u):=by
 refine⟨fun pins s σ H F Γ dss a as I fo rl gp pl hg=>?_⟩
 have ex:∃Γ1,t Γ = .ok (.nx Γ1)/\gStP t u Γ=u Γ1:=by
  unfold gStP at hg ⊢
  split at hg
  ·rename_i Γ1 e;exact⟨Γ1,e,rfl⟩
  ·exact absurd rfl hg
 obtain⟨Γ1,e1,e2⟩:=ex
 rw[e2] at hg ⊢
 refine wpAny_execs_cons (wpAny_mono (h1.run pins s σ H F Γ Γ1 dss a as I fo rl gp pl e1) (fun fl s1 q=>?_) fun _ _ z=>False.elim z)
 obtain⟨rfl,σ',H',F',dss',a',as',I',fo',rl',gp',pl',E⟩:=q
 exact wpAny_mono (h2.run pins s1 σ' H' F' Γ1 dss' a' as' I' fo' rl' gp' pl' hg) (fun _ _ q=>q.later E) fun _ _ q=>q.later E
theorem x3t{sts:List Stmt}(h:PQs X sts t):PPq X p sts t:=by
 refine⟨fun pins s σ H F Γ dss a as I fo rl gp pl hg=>?_⟩
 have E:Ext H (F++a::as) H F:=⟨fun b o _ e=>e,fun b hb=>.inl (List.mem_append_left _ hb)⟩
 exact wpAny_mono (h.run pins s σ H F Γ I fo rl hg) (fun _ _ q=>q.later E) fun _ _ q=>q.later E
theorem x1g{x:Str}{px lp ip:Pos}(hN:X.N.Nodup)(h:PPq X p rest u)(hNp:X.N[p]? = some x:=by rfl)(hx:Loc X.env.scope x:=by first | exact Or.inl rfl | exact Or.inr rfl)(hf:X.fn x=true∨X.env.scope.names.lookup x=some .local:=by first | exact .inl rfl | exact .inr rfl | assumption)
 (hsw:swapsWith (.List [.List [] ip] lp) (some (.Name x px)) pos.line X.env=pure false:=by rfl) (hs:starEach [.List [] ip] X.env=(false,eval (.List [] ip) X.env)::starEach [] X.env:=by rfl) :
 PQs X (.Assign [.Name x px] (.List [.List [] ip] lp) pos::rest) (y9x p u):=by
 refine⟨fun pins s σ H F Γ I fo rl hg=>?_⟩
 have hp:p<Γ.length:=by
  rw[rl.len,I.len]
  rcases Nat.lt_or_ge p X.N.length with w | w
  ·exact w
  ·rw[List.getElem?_eq_none w] at hNp;cases hNp
 have gl:gLst gNil Γ = .ok []:=R.guard_pos ⟨by decide,rfl⟩
 have key:wpAny (model X.prog X.w) X.A (exec (.Assign [.Name x px] (.List [.List [] ip] lp) pos) X.env) (fun fl s'=>fl = .next/\∃σ' H' a b,Inv X pins σ' H' s'/\FOk H' F/\Rel X.K H' F (Γ.set p (.ro (.lst ([([]:List D)].map D.lst)))) σ'/\Pile X.K H' F p σ' [[]] a [b]/\Same H H'/\H a=none/\H b=none) (fun _ _=>False) s:=by
  refine wpAny_Assign_Name (wpAny_List_spliced ?_) hsw
  rw[hs]
  show wpAny _ _ (spliced ((false,eval (.List [] ip) X.env)::backTo lp [])) _ _ s
  refine Calls.spliced_cons (wpAny_mono ((z7b (X:=X) (pos:=ip) z0c).run pins s σ H F Γ I fo rl (by rw[gl];exact fun z=>nomatch z)) (fun u1 s1 q1=>Calls.spliced_nil ?_) fun _ _ x=>by obtain⟨c7,H7,e7,_⟩:=x;rw[gl] at e7;cases e7)
  obtain⟨ds0,b,xs,H1,e1,I1,eu,S1,hn,hb,i1⟩:=q1
  rw[gl] at e1
  cases e1
  subst eu
  cases IsAll.nil_iff.mp i1
  have hz:([.ref b]:List V).length<=sizeLine:=z4i (show 1<=1000 by decide)
  refine⟨hz,?_⟩
  have hfr:H1 s1.heap.objs.size=none:=I1.hok.fresh (Nat.le_refl _)
  have S2:=z1k hfr (.lst [.ref b])
  have hH:H s1.heap.objs.size=none:=S1.free hfr
  have I2:Inv X pins σ (upd H1 s1.heap.objs.size (.lst [.ref b])) _:=I1.laid (t':=s1.toks) (fun b u e=>Heap.get?_push_of_some _ e) (Nat.le_refl _) ⟨hz,[.ref b],0,.cons rfl .nil,Heap.get?_push_size _ rfl⟩
  have S:=S1.trans S2
  have fo2:=fo.same S
  have nb:s1.heap.objs.size≠b:=fun z=>by rw[z,hb] at hfr;cases hfr
  have nin:∀{c:Addr},H c=none->c ∉ F:=fun {c} e z=>by obtain⟨ys,w⟩:=fo c z;rw[e] at w;cases w
  have pl:Pile X.K (upd H1 s1.heap.objs.size (.lst [.ref b])) F p (σ.set p (some (.ref s1.heap.objs.size))) [[]] s1.heap.objs.size [b]:=by
   refine⟨?_,z0m,rfl,fun j c es hc he=>?_,?_,fun c hc=>?_⟩
   ·exact List.getElem?_set_self (by rw[<-rl.len];exact hp)
   ·have ej:j=0:=by
     rcases Nat.eq_zero_or_pos j with w | w
     ·exact w
     ·rw[List.getElem?_eq_none (by simp;lia)] at hc;cases hc
    subst ej
    cases hc
    cases he
    exact⟨rfl,[],S2 _ _ hb,IsAll.nil⟩
   ·simpa using nb
   ·rcases List.mem_cons.mp hc with w | w
    ·rw[w];exact nin hH
    ·rw[List.mem_singleton] at w;rw[w];exact nin hn
  exact z5l (v:=.ref s1.heap.objs.size) I2 hN hNp hx rfl (fun s3 I3=>⟨rfl,_,_,s1.heap.objs.size,b,I3,fo2,(rl.same S).set_ro (pl.is fo2),pl,S,hH,hn⟩) hf
 refine wpAny_execs_cons (wpAny_mono key (fun fl s1 q=>?_) fun _ _ z=>False.elim z)
 obtain⟨rfl,σ',H',a,b,I',fo',rl',pl,S,ha,hb⟩:=q
 have E:Ext H F H' (F++a::[b]):=⟨fun c o _ e=>S _ _ e,fun c hc=>by
  rcases List.mem_append.mp hc with w | w
  ·exact .inl w
  ·rcases List.mem_cons.mp w with w | w
   ·exact .inr (by rw[w];exact ha)
   ·rw[List.mem_singleton] at w;exact .inr (by rw[w];exact hb)⟩
 exact wpAny_mono (h.run pins s1 σ' H' F _ [[]] a [b] I' fo' rl' (List.getElem?_set_self hp) pl hg) (fun _ _ q=>q.later E) fun _ _ q=>q.later E
end
theorem y8j{m0:Nat}:∀{is:List Nat} {vs:List V} {σ:St},m0 ∉ is->(setV is vs σ)[m0]? = σ[m0]?
 | [],_,_,_=>by unfold setV;rfl
 | _::_,[],_,_=>by unfold setV;rfl
 | i::is,v::vs,σ,h=>by
   unfold setV
   rw[y8j fun z=>h (List.mem_cons_of_mem _ z),List.getElem?_set_ne fun z=>h (by rw[z];exact List.mem_cons_self)]
section
variable {X:Cx}{e:Expr}{g:G->R D}{pos pos' p pt:Pos}
theorem x3x(i:Nat){m0:Nat}{x:Str}{g:G->R (List D)}(he:PF X e g)(hN:X.N.Nodup)(hij:i≠m0:=by decide)(hi:X.N[i]? = some x:=by rfl)(hx:Loc X.env.scope x:=by first | exact Or.inl rfl | exact Or.inr rfl)(hs:swapsWith e (some (.Name x pos')) pos.line X.env=pure false:=by rfl)(hf:X.fn x=true∨X.env.scope.names.lookup x=some .local:=by first | exact .inl rfl | exact .inr rfl | assumption) :
 PK X m0 (.Assign [.Name x pos'] e pos) (z3b i g):=by
 refine⟨fun pins s σ H F Γ I fo rl hg=>?_⟩
 refine wpAny_Assign_Name (wpAny_mono (he.run pins s σ H F Γ I fo rl (z0v hg)) (fun v s1 ⟨ds,a,xs,H1,e1,I1,eu,S1,hn,ha,i1⟩=>?_) fun _ _ x=>x.lift fo rl _) hs
 subst eu
 exact z5l (v:=.ref a) I1 hN hi hx rfl (fun s2 I2=>⟨_,z1v e1,_,H1,a::F,I2,(fo.same S1).cons ha,rl.set_own fo S1 hn ha i1,⟨fun b o _ h=>S1 _ _ h,fun b hb=>(List.mem_cons.mp hb).elim (fun z=>.inr (z ▸ hn)) .inl⟩,List.getElem?_set_ne hij⟩) hf
theorem y8x(i:Nat){m0:Nat}{x:Str}{apos cpos:Pos}(he:PDr X e g)(hN:X.N[i]? = some x:=by rfl)(hv:Vis X.env.scope x:=by first | exact Or.inl rfl | exact Or.inr (Or.inl rfl) | exact Or.inr (Or.inr rfl))(hd:(x==("__debug__":Str))=false:=by decide)(hcd:(x==("__classdict__":Str))=false:=by decide)
 (hsw:swapsWith (.Call (.Attribute (.Name x p) "append" apos) [e] [] cpos) none pos.line X.env=pure false:=by rfl)
 (hbase:attributeBase (.Name x p) "append" X.env (eval (.Name x p) X.env)=eval (.Name x p) X.env:=by rfl)
 (hfew:((backTo cpos (starEach [e] X.env)).all (fun x=>!x.1)&&(backToKw cpos (keywordEach [] X.env)).all (fun x=>x.1.isSome)
   && decide ([e].length+([]:List Keyword).length+(if ([]:List Keyword).isEmpty then 0 else 1)<30))=true:=by rfl)
 (hline:(apos.endLine==cpos.line)=true:=by rfl) (hs:starEach [e] X.env=(false,eval e X.env)::starEach [] X.env:=by rfl) :
 PK X m0 (.Expr (.Call (.Attribute (.Name x p) "append" apos) [e] [] cpos) pos) (gApp i g):=by
 refine⟨fun pins s σ H F Γ I fo rl hg=>?_⟩
 refine wpAny_Expr_any ?_ I.quiet hsw
 have hown:∃ds,Γ[i]? = some (.own ds):=by
  unfold gApp at hg
  split at hg
  ·rename_i ds e1;exact⟨ds,e1⟩
  ·exact absurd rfl hg
 obtain⟨ds,eo⟩:=hown
 have egA:gApp i g Γ=lift (g Γ) Γ fun d=>R.guard (ds.length<=100000) (.ok (.nx (Γ.set i (.own (ds++[d]))))):=by unfold gApp;rw[eo]
 rw[egA] at hg ⊢
 obtain⟨a',xs,h1,hF,h3,h4⟩:=rl.own i ds eo
 refine wpAny_Call_method_late hbase hfew hline rfl (wpAny_mono (z6a (X:=X.nox) hN hv hd hcd pins s σ H (fun v' H'=>v' = .ref a'/\H'=H) (I.wish _) ⟨.ref a',h1,rfl,rfl⟩) (fun v s1 ⟨v',H',I1,r1,e1,e2⟩=>?_) fun _ _ z=>False.elim z)
 subst e1 e2
 have I1':=I1.unwish
 obtain⟨t1,t2⟩:=z9k (T:="list") I1' r1 (.inl ⟨rfl,xs,SqL.of h3⟩)
 refine⟨"list",_,PySem.F.plainAttrs_list,PySem.F.slot_list_append,PySem.F.type_list_append,t1,t2,?_⟩
 rw[hs]
 refine Calls.callWith_builtin rfl (Calls.evalArgs_plain ?_)
 show wpAny _ _ (spliced ((false,eval e X.env)::backTo cpos [])) _ _ s1
 refine Calls.spliced_cons (wpAny_mono (he.run pins s1 σ H' F Γ I1' fo rl (z0v hg)) (fun u s2 ⟨d,y,H2,e3,I2,r2,S2,i2⟩=>Calls.spliced_nil ?_) fun _ _ x=>x.lift fo rl _)
 have hgx:=z6m hg e3
 obtain⟨hl,e4⟩:=R.guard_ne hgx
 have hx2:=S2 _ _ h3
 have hsl:(100001:Nat)<=sizeLine:=by rw[sizeLine_eq];decide
 have hxl:=h4.length
 refine wpAny_mono (z6l (X:=X.nox) pins s2 σ H2 (.ref a') [y] v [u] (fun z H''=>z = .non/\H''=upd H2 a' (.lst (xs++[y]))) (I2.wish _) r1 (.cons r2 .nil) ⟨a',xs,y,rfl,rfl,hx2,by lia,rfl,rfl⟩) (fun w' s3 ⟨z,H'',I3,rz,ez,eH⟩=>?_) fun _ _ z=>False.elim z
 subst ez eH
 obtain⟨rl',hF'⟩:=(rl.same S2).put eo h1 (xs':=xs++[y]) (ds':=ds++[d]) ((h4.same (z2c S2)).append (IsAll.cons i2 IsAll.nil))
 refine⟨_,(z1v e3).trans e4,σ,_,F,I3.unwish,fun b hb=>?_,rl',⟨fun b o hb h=>?_,fun b hb=>.inl hb⟩,rfl⟩
 ·by_cases hba:b=a'
  ·exact⟨xs++[y],by rw[hba];exact z0m⟩
  ·obtain⟨ys,q⟩:=fo b hb
   exact⟨ys,by rw[z0k hba];exact S2 _ _ q⟩
 ·rw[z0k (fun z=>hb (by rw[z];exact hF))];exact S2 _ _ h
theorem x6g{m0:Nat}{es:List Expr}{t:TGs}{is:List Nat}{kt}(hp:PGs X.nox es t)(ht:∀(vs:List V) σ H (Q:St->Hp->Prop),vs.length=is.length->Q (setV is vs σ) H->t vs σ H Q)(he:PD X e g)(hc:X.calm=true)(hm0:m0 ∉ is)(hln:es.length=is.length)
 (hn:(assignEach es X.env).length=es.length:=by rfl) (hst:(assignEach es X.env).findIdx? (·.1)=none:=by rfl)
 (hs:swapsWithSole [.Tuple es kt pt] e pos.line X.env=pure false:=by rfl) (hw:swappedStores [.Tuple es kt pt] e X.env=pure none:=by rfl)
 (h1:(assignEach [.Tuple es kt pt] X.env).map (·.2)=[assign (.Tuple es kt pt) X.env]:=by rfl):PK X m0 (.Assign [.Tuple es kt pt] e pos) (gUnp is g):=by
 refine⟨fun pins s σ H F Γ I fo rl hg=>?_⟩
 refine wpAny_Assign_stores (wpAny_mono (he.run pins s σ H F Γ I fo rl (z0v hg)) (fun u s1 ⟨d,v,H1,e1,I1,r1,S1,i1⟩=>?_) fun _ _ x=>x.lift fo rl _) hs hw
 rw[h1]
 have hg1:=z6m hg e1
 have fin:∀(ds:List D) (xs:List V) (its:List Value) (s2:Shared),dSeq d = .ok ds->ds.length=is.length->D.noLs ds=true->gUnp is g Γ = .ok (.nx (L3.setAll is ds Γ))->Vals xs its->IsAll X.K H1 ds xs->Inv X pins σ H1 s2 ->
  wpAny (model X.prog X.w) X.A (assignInOrder ((assignEach es X.env).map (·.2)) its) (fun _ s3=>FlK X pins H F (gUnp is g Γ) (fun σ'=>σ'[m0]? = σ[m0]?) .next s3) (FlX X pins H F (gUnp is g Γ)) s2:=fun ds xs its s2 ed hl hnl ev rv ia I2=>by
  refine wpAny_mono (hp pins s2 σ H1 xs its (fun σ' H'=>σ'=setV is xs σ/\H'=H1) (I2.wish _) rv (ht xs σ H1 _ (by rw[<-ia.length,hl]) ⟨rfl,rfl⟩)) (fun _ s3 ⟨σ',H',I3,e3,e4⟩=>?_) fun _ _ z=>False.elim z
  subst e3 e4
  exact⟨_,ev,_,H',F,I3.unwish,fo.same S1,Rel.setAll is ds xs _ _ (IsAll.hid (fo.same S1) ds xs hnl ia) (rl.same S1),.of_same S1,y8j hm0⟩
 cases d with
 | tup ds =>
   obtain⟨⟨hl,hnl⟩,e2⟩:=R.guard_ne (show R.guard (ds.length=is.length/\D.noLs ds=true) (R.ok (Fl.nx (L3.setAll is ds Γ)))≠R.no from hg1)
   obtain⟨p,xs,rfl,h1',h2⟩:=Is.tup_iff.mp i1
   cases (show u=Value.ref p from r1)
   obtain⟨its,rv,hT,hz⟩:=I1.tuple h1'
   refine assign_Tuple_tuple (I1.ok.hd hc) hT (by rw[hn,hln,List.size_toArray,<-rv.length,<-h2.length,hl]) hst fun h' hx=>?_
   exact fin ds xs its _ rfl hl hnl ((z1v e1).trans e2) rv h2 (I1.kept (t':=s1.toks) fun b o e=>hx b o (Nat.ne_of_lt (Heap.lt_size e)) e)
 | lst ds =>
   obtain⟨⟨hl,hnl⟩,e2⟩:=R.guard_ne (show R.guard (ds.length=is.length/\D.noLs ds=true) (R.ok (Fl.nx (L3.setAll is ds Γ)))≠R.no from hg1)
   obtain⟨p,xs,rfl,h1',h2⟩:=Is.lst_iff.mp i1
   cases (show u=Value.ref p from r1)
   obtain⟨its,rv,hT,hz⟩:=I1.list h1'
   refine z8s (I1.ok.hd hc) hT.isList (by rw[hn,hln,List.size_toArray,<-rv.length,<-h2.length,hl]) hst fun h' hx=>?_
   exact fin ds xs its _ rfl hl hnl ((z1v e1).trans e2) rv h2 (I1.kept (t':=s1.toks) fun b o e=>hx b o (Nat.ne_of_lt (Heap.lt_size e)) e)
 | _=>exact absurd rfl hg1
theorem y6w(i j:Nat){m0:Nat}{x y:Str}{px py:Pos}{kt}(he:PD X e g)(nd:X.N.Nodup)(hc:X.calm=true)(hm0:m0 ∉ [i,j]:=by decide)(hi:X.N[i]? = some x:=by rfl)(hj:X.N[j]? = some y:=by rfl)
 (hx:Loc X.env.scope x:=by first | exact Or.inl rfl | exact Or.inr rfl) (hy:Loc X.env.scope y:=by first | exact Or.inl rfl | exact Or.inr rfl)
 (fx:X.fn x=true∨X.env.scope.names.lookup x=some .local:=by first | exact .inl rfl | exact .inr rfl) (fy:X.fn y=true∨X.env.scope.names.lookup y=some .local:=by first | exact .inl rfl | exact .inr rfl)
 (hs:swapsWithSole [.Tuple [.Name x px,.Name y py] kt pt] e pos.line X.env=pure false:=by rfl) (hw:swappedStores [.Tuple [.Name x px,.Name y py] kt pt] e X.env=pure none:=by rfl) :
 PK X m0 (.Assign [.Tuple [.Name x px,.Name y py] kt pt] e pos) (gUnp [i,j] g) :=
 x6g (z9f (z7f (X:=X.nox) nd hi hx fx) (z9f (z7f (X:=X.nox) nd hj hy fy) y8z rfl) rfl)
  (fun vs σ H Q hl q=>match vs,hl,q with | [a,b],_,q=>⟨a,[b],rfl,b,[],rfl,rfl,q⟩) he hc hm0 rfl rfl rfl hs hw
theorem z4y{i q:Nat}{g:G->R D}(h:i≠q)(Γ Γ':G)(e:gSet i g Γ = .ok (.nx Γ')):Γ'[q]? = Γ[q]?:=by
 unfold gSet at e
 cases z:g Γ with
 | no=>rw[z] at e;cases e
 | er c=>rw[z] at e;cases e
 | ok d=>rw[z] at e;cases e;exact List.getElem?_set_ne h
theorem x1n{i q:Nat}{g:G->R (List D)}(h:i≠q)(Γ Γ':G)(e:z3b i g Γ = .ok (.nx Γ')):Γ'[q]? = Γ[q]?:=by
 unfold z3b at e
 cases z:g Γ with
 | no=>rw[z] at e;cases e
 | er c=>rw[z] at e;cases e
 | ok d=>rw[z] at e;cases e;exact List.getElem?_set_ne h
theorem x4n{i q:Nat}{g:G->R D}(h:i≠q)(Γ Γ':G)(e:gApp i g Γ = .ok (.nx Γ')):Γ'[q]? = Γ[q]?:=by
 unfold gApp at e
 split at e
 ·rename_i ds eo
  cases z:g Γ with
  | no=>rw[z] at e;cases e
  | er c=>rw[z] at e;cases e
  | ok d =>
    rw[z] at e
    obtain⟨_,e2⟩:=R.guard_ne (show R.guard (ds.length<=100000) (R.ok (Fl.nx (Γ.set i (.own (ds++[d])))))≠R.no by rw[show R.guard _ _=R.ok (Fl.nx Γ') from e];exact fun z=>nomatch z)
    have e3:=e2.symm.trans e
    cases e3
    exact List.getElem?_set_ne h
 ·cases e
theorem y2t{m0:Nat}:∀{is:List Nat} {ds:List D} {Γ:G},m0 ∉ is->(L3.setAll is ds Γ)[m0]? = Γ[m0]?
 | [],_,_,_=>by unfold L3.setAll;rfl
 | _::_,[],_,_=>by unfold L3.setAll;rfl
 | i::is,v::vs,Γ,h=>by
   unfold L3.setAll
   rw[y2t fun z=>h (List.mem_cons_of_mem _ z),List.getElem?_set_ne fun z=>h (by rw[z];exact List.mem_cons_self)]
theorem x4m{is:List Nat}{q:Nat}{g:G->R D}(h:q ∉ is)(Γ Γ':G)(e:gUnp is g Γ = .ok (.nx Γ')):Γ'[q]? = Γ[q]?:=by
 unfold gUnp at e
 cases z:g Γ with
 | no=>rw[z] at e;cases e
 | er c=>rw[z] at e;cases e
 | ok d =>
   rw[z] at e
   have e':lift (dSeq d) Γ (fun ds=>R.guard (ds.length=is.length/\D.noLs ds=true) (.ok (.nx (L3.setAll is ds Γ))))=R.ok (Fl.nx Γ'):=e
   cases z2:dSeq d with
   | no=>rw[z2] at e';cases e'
   | er c=>rw[z2] at e';cases e'
   | ok ds =>
     rw[z2] at e'
     obtain⟨_,e2⟩:=R.guard_ne (show R.guard (ds.length=is.length/\D.noLs ds=true) (R.ok (Fl.nx (L3.setAll is ds Γ)))≠R.no by rw[show R.guard _ _=R.ok (Fl.nx Γ') from e'];exact fun z=>nomatch z)
     have e3:=e2.symm.trans e'
     cases e3
     exact y2t h
end
noncomputable def ItvL(K:PySem.W.Frag)(a:Addr)(n:Nat):It :=
 ⟨fun i H=>∃xs x,SqL K H a xs/\xs.length=n/\i<n/\xs[n-1-i]? = some x,fun i H x H'=>H'=H/\∀xs,SqL K H a xs->xs[n-1-i]? = some x,fun i H=>∃xs,SqL K H a xs/\xs.length=n/\i=n⟩
theorem y7x{P:Program}{w:World}{K:PySem.W.Frag}{tg:Expr}(a it:Addr)(n:Nat):Turn P w K tg (ItvL K a n) [it] it (fun i h=>h.IsRevIter it a ((n:Int)-1-(i:Nat))) where
 mem:=by simp
 obj:=fun i h st b hb=>by
  have e:b=it:=by simpa using hb
  subst e
  obtain⟨o,e,c,d⟩:=st
  exact⟨o,e,fun v z=>by rw[d] at z;cases z⟩
 keep:=fun i h h' st k=>st.at fun o e=>k it (by simp) o e
 item:=by
  intro X hP hw hK hc i pins s σ H E I hf st hg
  subst hP hw hK
  obtain⟨xs,x,hq,hl,hi,hx⟩:=hg
  obtain⟨its,rv,p,hz⟩:=I.list hq
  obtain⟨u,hu,ru⟩:=rv.get hx
  obtain⟨f0,f1,f2,f3,f4,f5⟩:=hf it (by simp)
  have e1:((n:Int)-1-(i:Nat))=((n-1-i:Nat):Int):=by lia
  rw[e1] at st
  refine wpAny_pyNext_rev_item st p.isList (x:=u) (by simpa using hu) fun h' st' sb=>?_
  have I1:Inv X pins σ H { s with heap:=h' }:=I.turned (t':=s.toks) (fun b o hb e=>(sb.2 b hb).trans e) f0 f1 f3 f4 f5
  rw[<-e1,show((n:Int)-1-(i:Nat)-1)=(n:Int)-1-((i+1:Nat):Int) by lia] at st'
  obtain⟨o,e,c,d⟩:=id st'
  exact⟨u,rfl,x2a (s:={ s with heap:=h' }) e c d (by decide) ⟨x,H,I1,ru,⟨rfl,fun ys hy=>by rw[I.list_inj hy hq];exact hx⟩,st',fun b hb=>(hf b hb).1⟩⟩
 done:=by
  intro X hP hw hK hc i pins s σ H E I hf st hg
  subst hP hw hK
  obtain⟨xs,hq,hl,hi⟩:=hg
  obtain⟨f0,f1,f2,f3,f4,f5⟩:=hf it (by simp)
  rw[show((n:Int)-1-(i:Nat)) = -1 by lia] at st
  exact wpAny_pyNext_rev_end (I.ok.hd hc) st fun h' eb=>⟨rfl,I.turned (t':=s.toks) (fun b o hb e=>eb b o hb e) f0 f1 f3 f4 f5⟩
 self:=fun _ _ _ _ _ st h=>wpAny_pyIter_revIter st h
theorem x4v{K:PySem.W.Frag}{H:Hp}{F:List Addr}{p:Addr}{xs:List V}{ds:List D}(h:SqL K (hid F H) p xs)(i:IsAll K (hid F H) ds xs):JD K H F (ItvL K p xs.length) ds.reverse:=fun H1 S=>by
 have h1:SqL K H1 p xs:=(z0u (F:=F)).seq ((y7c S fun b hb=>.inl hb).seq h)
 have il:=i.length
 refine⟨fun j hj=>?_,⟨xs,h1,rfl,by rw[List.length_reverse];lia⟩⟩
 rw[List.length_reverse] at hj
 refine⟨⟨xs,xs[xs.length-1-j]'(by lia),h1,rfl,by lia,List.getElem?_eq_getElem (by lia)⟩,fun x H2 y=>⟨y.1,?_⟩⟩
 obtain⟨d,ed,iv⟩:=i.getX (y.2 xs h1)
 exact⟨d,by rw[List.getElem?_reverse hj,<-ed];congr 1;lia,fun F' hF=>iv.same (y7c S hF)⟩
section
variable {X:Cx}{a:Expr}{ga:G->R D}
theorem x1i{tg:Expr}{p pos:Pos}(ha:PDr X a ga)(hm:X.mg "reversed"=none)(hg:Gl X "reversed":=by rfl)(hs:starEach [a] X.env=[(false,eval a X.env)]:=by rfl) :
 PIF X tg (.Call (.Name "reversed" p) [a] [] pos) (x5c ga):=by
 refine⟨fun pins s σ H F Γ I fo rl hgg=>?_⟩
 refine Call_ (z6c I hg hm x2n (PyProof.Rows.callWith_type1 ?_ hs rfl))
 rw[hs]
 show wpAny _ _ (spliced ((false,eval a X.env)::backTo pos [])) _ _ s
 refine Calls.spliced_cons (wpAny_mono (ha.run pins s σ H F Γ I fo rl (R.left hgg)) (fun u s1 ⟨d,v,H1,e1,I1,r1,S1,i1⟩=>Calls.spliced_nil ?_) fun _ _ x=>x.bind _)
 have hg1:=R.next hgg e1
 cases d with
 | lst ds =>
   obtain⟨l,xs,rfl,q1,j1⟩:=Is.lst_iff.mp i1
   cases (show u=Value.ref l from r1)
   obtain⟨its,rv,pl,hz⟩:=I1.list ((z0u (F:=F)).seq q1)
   have hlen:=rv.length
   refine call_reversed_list pl.isList ?_
   have a1:(s1.heap.push (revObj l ((its.toArray.size:Int)-1))).IsRevIter s1.heap.objs.size l ((its.toArray.size:Int)-1):=⟨_,Heap.get?_push_size _ rfl,rfl,rfl⟩
   refine wpAny_pyIter_revIter a1 ?_
   have I3:=I1.kept (t':=s1.toks) (h':=s1.heap.push (revObj l ((its.toArray.size:Int)-1))) fun b o e=>Heap.get?_push_of_some _ e
   refine⟨ds.reverse,s1.heap.objs.size,_,_,ItvL X.K l xs.length,H1,R.step e1 _,rfl,I3,S1,y7x l _ xs.length,?_,fun c hc=>?_,x4v q1 j1⟩
   ·show(s1.heap.push (revObj l ((its.toArray.size:Int)-1))).IsRevIter s1.heap.objs.size l ((xs.length:Int)-1-((0:Nat):Int))
    rw[show((xs.length:Int)-1-((0:Nat):Int))=(its.toArray.size:Int)-1 by simp;lia]
    exact a1
   ·have e:c=s1.heap.objs.size:=by simpa using hc
    subst e
    exact I1.fpOk (Nat.le_refl _) (I1.hok.fresh (Nat.le_refl _))
 | _=>exact absurd rfl hg1
end
section
variable {X:Cx}{e:Expr}{pos p:Pos}{x:Str}{es:List Expr}{gs:G->R (List D)}
end
end L3
namespace Row
open PySem PySem.Spec PyProof.Rows L2 L3
noncomputable def top(i:Nat):Stmt:=PySem.Challenge.pw_longrounds_k95_whole_any_program.main.body.getD i (.Pass ⟨0,0,0,0⟩)
noncomputable abbrev st_q:Stmt:=top 40
theorem sc_q:FnScope ["script","k"] ["script","k"] (z0d st_q):=⟨rfl,rfl,rfl,by decide +kernel,rfl,by decide +kernel,by decide +kernel⟩
noncomputable abbrev st_f:Stmt:=top 42
theorem sc_f:FnScope ["cell","P","size","out","k"] ["cell","P","size"] (z0d st_f):=⟨rfl,rfl,rfl,by decide +kernel,rfl,by decide +kernel,by decide +kernel⟩
noncomputable abbrev st_i:Stmt:=top 45
theorem sc_i:FnScope ["number"] ["number"] (z0d st_i):=⟨rfl,rfl,rfl,by decide +kernel,rfl,by decide +kernel,by decide +kernel⟩
noncomputable abbrev st_p:Stmt:=top 44
theorem sc_p:FnScope ["number","P","size","k"] ["number","P","size"] (z0d st_p):=⟨rfl,rfl,rfl,by decide +kernel,rfl,by decide +kernel,by decide +kernel⟩
noncomputable abbrev st_g:Stmt:=top 46
theorem sc_g:FnScope ["number","P","many","piles","counts","room","agains","turn","word","n","inside","x","form"] ["number","P","many"] (z0d st_g):=⟨rfl,rfl,rfl,by decide +kernel,rfl,by decide +kernel,by decide +kernel⟩
noncomputable abbrev st_t:Stmt:=top 47
theorem sc_t:FnScope ["many"] ["many"] (z0d st_t):=⟨rfl,rfl,rfl,by decide +kernel,rfl,by decide +kernel,by decide +kernel⟩
noncomputable abbrev st_d:Stmt:=top 48
theorem sc_d:FnScope ["P","one","other","rows","form","row","k"] ["P","one","other"] (z0d st_d):=⟨rfl,rfl,rfl,by decide +kernel,rfl,by decide +kernel,by decide +kernel⟩
noncomputable abbrev st_j:Stmt:=top 49
theorem sc_j:FnScope ["P","table","n","figures","whole","figure"] ["P","table","n"] (z0d st_j):=⟨rfl,rfl,rfl,by decide +kernel,rfl,by decide +kernel,by decide +kernel⟩
noncomputable abbrev st_s:Stmt:=top 50
theorem sc_s:FnScope ["P","many","items","whole","item","one"] ["P","many","items"] (z0d st_s):=⟨rfl,rfl,rfl,by decide +kernel,rfl,by decide +kernel,by decide +kernel⟩
noncomputable abbrev st_e:Stmt:=top 43
theorem sc_e:FnScope ["script","number","cell"] ["script"] (z0d st_e):=⟨rfl,rfl,rfl,by decide +kernel,rfl,by decide +kernel,by decide +kernel⟩
noncomputable abbrev st_n:Stmt:=top 41
theorem sc_n:FnScope ["cell","n"] ["cell"] (z0d st_n):=⟨rfl,rfl,rfl,by decide +kernel,rfl,by decide +kernel,by decide +kernel⟩
noncomputable abbrev st_C:Stmt:=top 16
theorem sc_C:FnScope ["width","place"] ["width","place"] (z0d st_C):=⟨rfl,rfl,rfl,by decide +kernel,rfl,by decide +kernel,by decide +kernel⟩
noncomputable abbrev st_I:Stmt:=top 17
theorem sc_I:FnScope ["many"] ["many"] (z0d st_I):=⟨rfl,rfl,rfl,by decide +kernel,rfl,by decide +kernel,by decide +kernel⟩
noncomputable abbrev st_l:Stmt:=top 18
theorem sc_l:FnScope ["form","table","place"] ["form","table","place"] (z0d st_l):=⟨rfl,rfl,rfl,by decide +kernel,rfl,by decide +kernel,by decide +kernel⟩
noncomputable abbrev y6r:Stmt:=top 12
theorem x5y:FnScope ["P","n"] ["P","n"] (z0d y6r):=⟨rfl,rfl,rfl,by decide +kernel,rfl,by decide +kernel,by decide +kernel⟩
noncomputable abbrev st_m:Stmt:=top 19
theorem sc_m:FnScope ["P","table","form","many","numbers"] ["P","table","form"] (z0d st_m):=⟨rfl,rfl,rfl,by decide +kernel,rfl,by decide +kernel,by decide +kernel⟩
noncomputable abbrev st_J:Stmt:=top 20
theorem sc_J:FnScope ["P","one","other"] ["P","one","other"] (z0d st_J):=⟨rfl,rfl,rfl,by decide +kernel,rfl,by decide +kernel,by decide +kernel⟩
noncomputable abbrev st_E:Stmt:=top 23
theorem sc_E:FnScope ["P","table","n","rungs","rung","figure"] ["P","table","n"] (z0d st_E):=⟨rfl,rfl,rfl,by decide +kernel,rfl,by decide +kernel,by decide +kernel⟩
noncomputable abbrev st_r:Stmt:=top 24
theorem sc_r:FnScope ["rungs","n"] ["rungs","n"] (z0d st_r):=⟨rfl,rfl,rfl,by decide +kernel,rfl,by decide +kernel,by decide +kernel⟩
noncomputable abbrev st_D:Stmt:=top 25
theorem sc_D:FnScope ["P","table","n","whole","rung"] ["P","table","n"] (z0d st_D):=⟨rfl,rfl,rfl,by decide +kernel,rfl,by decide +kernel,by decide +kernel⟩
noncomputable abbrev st_z:Stmt:=top 21
theorem sc_z:FnScope ["many","x","form","forms"] ["many","x","form"] (z0d st_z):=⟨rfl,rfl,rfl,by decide +kernel,rfl,by decide +kernel,by decide +kernel⟩
noncomputable abbrev st_v:Stmt:=top 27
theorem sc_v:FnScope ["P","many","items","whole","item"] ["P","many","items"] (z0d st_v):=⟨rfl,rfl,rfl,by decide +kernel,rfl,by decide +kernel,by decide +kernel⟩
noncomputable abbrev st_a:Stmt:=top 26
theorem sc_a:FnScope ["P","many","item"] ["P","many","item"] (z0d st_a):=⟨rfl,rfl,rfl,by decide +kernel,rfl,by decide +kernel,by decide +kernel⟩
noncomputable abbrev st_G:Stmt:=top 14
theorem sc_G:FnScope ["P","form","stand","many"] ["P","form","stand"] (z0d st_G):=⟨rfl,rfl,rfl,by decide +kernel,rfl,by decide +kernel,by decide +kernel⟩
noncomputable abbrev st_B:Stmt:=top 15
theorem sc_B:FnScope ["P","table","stand"] ["P","table","stand"] (z0d st_B):=⟨rfl,rfl,rfl,by decide +kernel,rfl,by decide +kernel,by decide +kernel⟩
noncomputable abbrev st_H:Stmt:=top 28
theorem sc_H:FnScope ["P","many","items","n","stand"] ["P","many","items","n","stand"] (z0d st_H):=⟨rfl,rfl,rfl,by decide +kernel,rfl,by decide +kernel,by decide +kernel⟩
noncomputable abbrev st_x:Stmt:=top 7
theorem sc_x:FnScope ["thing"] ["thing"] (z0d st_x):=⟨rfl,rfl,rfl,by decide +kernel,rfl,by decide +kernel,by decide +kernel⟩
noncomputable abbrev st_A:Stmt:=top 9
theorem sc_A:FnScope ["thing","least","most"] ["thing","least","most"] (z0d st_A):=⟨rfl,rfl,rfl,by decide +kernel,rfl,by decide +kernel,by decide +kernel⟩
noncomputable abbrev st_b:Stmt:=top 33
theorem sc_b:FnScope ["items","ahead","count","item"] ["items","ahead"] (z0d st_b):=⟨rfl,rfl,rfl,by decide +kernel,rfl,by decide +kernel,by decide +kernel⟩
noncomputable abbrev st_u:Stmt:=top 34
theorem sc_u:FnScope ["P","many","x","form"] ["P","many","x","form"] (z0d st_u):=⟨rfl,rfl,rfl,by decide +kernel,rfl,by decide +kernel,by decide +kernel⟩
noncomputable abbrev st_k:Stmt:=top 35
theorem sc_k:FnScope ["P","many","n","items","around"] ["P","many","n","items","around"] (z0d st_k):=⟨rfl,rfl,rfl,by decide +kernel,rfl,by decide +kernel,by decide +kernel⟩
noncomputable abbrev st_o:Stmt:=top 36
theorem sc_o:FnScope ["P","many","item","around"] ["P","many","item","around"] (z0d st_o):=⟨rfl,rfl,rfl,by decide +kernel,rfl,by decide +kernel,by decide +kernel⟩
noncomputable abbrev st_h:Stmt:=top 37
theorem sc_h:FnScope ["P","many","items","around"] ["P","many","items","around"] (z0d st_h):=⟨rfl,rfl,rfl,by decide +kernel,rfl,by decide +kernel,by decide +kernel⟩
noncomputable abbrev st_c:Stmt:=top 8
theorem sc_c:FnScope ["n","divisor"] ["n"] (z0d st_c):=⟨rfl,rfl,rfl,by decide +kernel,rfl,by decide +kernel,by decide +kernel⟩
noncomputable abbrev st_w:Stmt:=top 10
theorem sc_w:FnScope ["thing"] ["thing"] (z0d st_w):=⟨rfl,rfl,rfl,by decide +kernel,rfl,by decide +kernel,by decide +kernel⟩
noncomputable abbrev st_F:Stmt:=top 11
theorem sc_F:FnScope ["thing"] ["thing"] (z0d st_F):=⟨rfl,rfl,rfl,by decide +kernel,rfl,by decide +kernel,by decide +kernel⟩
noncomputable abbrev st_y:Stmt:=top 38
theorem sc_y:FnScope ["P","many","items"] ["P","many","items"] (z0d st_y):=⟨rfl,rfl,rfl,by decide +kernel,rfl,by decide +kernel,by decide +kernel⟩
noncomputable abbrev z7q:Stmt:=top 51
theorem x2q:FnScope ["script","P","many","items","n","stand","due","end","whole"] ["script"] (z0d z7q):=⟨rfl,rfl,rfl,by decide +kernel,rfl,by decide +kernel,by decide +kernel⟩
section
variable {P:Program}{w:World}{K:PySem.W.Frag}{mg:Str->Option Value}{base:Heap}
theorem f_q{f:Addr}{fd:FuncData}(Fu:Fun K "_law_cell" "_law_cell" st_q f fd)(hb:z1j K fd ["script","k"] [])
 (m_len:mg "len"=none)
 : FnD P w K mg base 1 f fd ["script","k"] c_q:=by
 refine z1b Fu sc_q hb (fun ds h=>z0g h) fun cdv A outer s H E hr=>?_
 have nd:=sc_q.nd
 have hu:=hr.units
 refine⟨g_q,?_,fun ds hne=>(z0z (z0g hne)).symm⟩
 exact(z0e (z6f (z1c x4j (z0b 1) (z1r z6u m_len (by decide +kernel) (z0a (z0b 0) z0c)) (z1g _)) (z0h (z0t (z2p (z0b 0) (z0b 1)))) z2f)
  (z0h (z0t z0f)))
theorem f_f{f:Addr}{fd:FuncData}(Fu:Fun K "_law_digits" "_law_digits" st_f f fd)(hb:z1j K fd ["cell","P","size"] [])
 (m_range:mg "range"=none)
 (m_tuple:mg "tuple"=none)
 : FnD P w K mg base 1 f fd ["cell","P","size"] c_f:=by
 refine z1b Fu sc_f hb (fun ds h=>z0g h) fun cdv A outer s H E hr=>?_
 have nd:=sc_f.nd
 have hu:=hr.units
 refine⟨g_f,?_,fun ds hne=>(z0z (z0g hne)).symm⟩
 exact(z0e (z8f 3 (z7b z0c) nd)
  (z0e (z6i 4 z3d rfl (z1u (z0b 2) m_range)
  (z0e (z7s 3 (PD.ro (z0q z3o (z0b 0) (z0b 1))))
  (z0h (z1a 0 (PD.ro (z0q z9z (z0b 0) (z0b 1))) nd))) nd)
  (z0h (z0t (z1f z1s m_tuple (by decide +kernel) (z0a (z0b 3) z0c))))))
theorem f_i{f:Addr}{fd:FuncData}(Fu:Fun K "_law_count" "_law_count" st_i f fd)(hb:z1j K fd ["number"] [])
 : FnD P w K mg base 1 f fd ["number"] z4o:=by
 refine z1b Fu sc_i hb (fun ds h=>z0g h) fun cdv A outer s H E hr=>?_
 have nd:=sc_i.nd
 have hu:=hr.units
 refine⟨z4k,?_,fun ds hne=>(z0z (z0g hne)).symm⟩
 exact(z0e (z6f (z1c (z7h hu) (z0q z3o (z0b 0) z0f) z0f (z1g _)) (z0h (z0t (z7u (z0a (z0q z3o (z0q z9y (z0b 0) z0f) z0f) (z0a (z0q z9y (z0b 0) z0f) z0c))))) z2f)
  (z0h (z0t (z7u (z0a (z0q z3o (z0q z9y (z0b 0) z0f) (z0q z2d (z0q y3c z0f z0f) z0f)) (z0a (z0q z9y (z0q z9y (z0b 0) z0f) (z0q z2d (z0q y3c z0f z0f) z0f)) z0c))))))
theorem f_p{f:Addr}{fd:FuncData}(Fu:Fun K "_law_past" "_law_past" st_p f fd)(hb:z1j K fd ["number","P","size"] [])
 (m_range:mg "range"=none)
 : FnD P w K mg base 1 f fd ["number","P","size"] c_p:=by
 refine z1b Fu sc_p hb (fun ds h=>z0g h) fun cdv A outer s H E hr=>?_
 have nd:=sc_p.nd
 have hu:=hr.units
 refine⟨g_p,?_,fun ds hne=>(z0z (z0g hne)).symm⟩
 exact(z0e (z6i 3 z3d rfl (z1u (z0b 2) m_range)
  (z0h (z1a 0 (PD.ro (z0q z9z (z0b 0) (z0b 1))) nd)) nd)
  (z0h (z0t (z0b 0))))
theorem f_g{f:Addr}{fd:FuncData}(Fu:Fun K "_law_items" "_law_items" st_g f fd)(hb:z1j K fd ["number","P","many"] [])
 {a_i:Addr} {d_i:FuncData} (G_i:FnD P w K mg base 1 a_i d_i ["number"] z4o) (m_i:mg "_law_count"=some (.ref a_i))
 {a_f:Addr} {d_f:FuncData} (G_f:FnD P w K mg base 1 a_f d_f ["cell","P","size"] c_f) (m_f:mg "_law_digits"=some (.ref a_f))
 {a_p:Addr} {d_p:FuncData} (G_p:FnD P w K mg base 1 a_p d_p ["number","P","size"] c_p) (m_p:mg "_law_past"=some (.ref a_p))
 (m_int:mg "int"=none)
 (m_len:mg "len"=none)
 (m_range:mg "range"=none)
 (m_tuple:mg "tuple"=none)
 : FnD P w K mg base 2 f fd ["number","P","many"] z4n:=by
 have F_i:=G_i.mono (k:=1) (by lia)
 have F_f:=G_f.mono (k:=1) (by lia)
 have F_p:=G_p.mono (k:=1) (by lia)
 refine z1b Fu sc_g hb (fun ds h=>z0g h) fun cdv A outer s H E hr=>?_
 have nd:=sc_g.nd
 have hu:=hr.units
 refine⟨z4j,?_,fun ds hne=>(z0z (z0g hne)).symm⟩
 exact(x1g nd (z9e (pp_k (x3x 4 (z7b z0c) nd) (x1n (by decide)))
  (z9e (pp_k (z7a 5 (PD.ro z0f) nd) (z4y (by decide)))
  (z9e (pp_k (z7a 6 (PD.ro z0f) nd) (z4y (by decide)))
  (z9e (x6d 7 rfl (z1u z0f m_range)
  (z3c (pp_k (z7a 8 (PD.ro (z2p (PF.pd (z7b (z0a z0f (z0a (z0q z3o (z0b 0) z0f) z0c)))) (z1f x7m m_int (by decide +kernel) (z0a (y3b (z9v y7a (z0b 5) z0f (z1g _)) (y5v (z9v y7a (z0b 0) z0f (z1g _)))) z0c)))) nd) (z4y (by decide)))
  (z3c (pp_k (z7a 0 (PD.ro (z0q z9z (z0b 0) z0f)) nd) (z4y (by decide)))
  (z8g (x3v (PWD.pt (y4l (z1c (z7h hu) (z0b 8) z0f (z1g _)) (y4l (z1c x4j (z1r z6u m_len (by decide +kernel) (z0a (z0b 4) z0c)) z0f (z1g _)) (y5q (z1c y7a (z0b 6) z0f (z1g _)))))) (z3c (pp_k (y6w 9 0 (z0j F_i hr m_i (z0a (z0b 0) z0c)) nd rfl) (x4m (by decide)))
  (z3c (pp_k (y8x 4 (PD.ro (z0b 9))) (x4n (by decide)))
  (z3c x6c
  (z3c (pp_k (z7a 5 (PD.ro (z0q y1l (z0b 5) z0f)) nd) (z4y (by decide)))
  (z8g (pp_k (z7a 6 (PD.ro (z0q y1l (z0b 6) z0f)) nd) (z4y (by decide)))))))) (z8g (x3v (PWD.pt (y4l (z1c (z7h hu) (z0b 8) z0f (z1g _)) (y5q (z1c y7a (z1r z6u m_len (by decide +kernel) (z0a (z0b 4) z0c)) z0f (z1g _))))) (z3c (x3u 10 nd m_tuple)
  (z8g (x3w (y8t 4 10)))) (z8g (x3v (z1c (x1m hu) (z0b 8) z0f (z1g _)) (z3c (pp_k (z7a 11 (PD.ro (z0q z3o (z0b 0) (z0b 2))) nd) (z4y (by decide)))
  (z3c (pp_k (z7a 12 (PD.ro (z0j F_f hr m_f (z0a (z0q z9z (z0b 0) (z0b 2)) (z0a (z0b 1) (z0a (z0q z2d (z0b 2) z0f) z0c))))) nd) (z4y (by decide)))
  (z3c (x6e (PD.ro (z7u (z0a z4w (z0a (z0b 11) (z0a (z0b 12) z0c))))))
  (z3c (pp_k (z7a 0 (PD.ro (z0j F_p hr m_p (z0a (z0q z9z (z0b 0) (z0b 2)) (z0a (z0b 1) (z0a (z0q z2d (z0b 2) z0f) z0c))))) nd) (z4y (by decide)))
  (z8g (pp_k (z7a 5 (PD.ro (z0q y1l (z0b 5) z0f)) nd) (z4y (by decide)))))))) x3s)))))))) nd)
  (x3t (z0h (z0t (z1f z1s m_tuple (by decide +kernel) (z0a (z2p (z0b 3) z0f) z0c))))))))))
theorem f_t{f:Addr}{fd:FuncData}(Fu:Fun K "_law_idle" "_law_idle" st_t f fd)(hb:z1j K fd ["many"] [])
 (m_range:mg "range"=none)
 (m_tuple:mg "tuple"=none)
 : FnD P w K mg base 1 f fd ["many"] z2j:=by
 refine z1b Fu sc_t hb (fun ds h=>z0g h) fun cdv A outer s H E hr=>?_
 have nd:=sc_t.nd
 have hu:=hr.units
 refine⟨z6p,?_,fun ds hne=>(z0z (z0g hne)).symm⟩
 exact(z0h (z0t (z1f z1s m_tuple (by decide +kernel) (z0a (PF.pd (z4a (PIx.pic (z1u (z0b 0) m_range)) (z6b (fun _ _ _ _ _=>(PD.ro (z0q z2d (z0q z2d (z0q z9x (z7u (z0a z0f z0c)) (z0b 0)) (z7u (z0a z0f z0c))) (z0q z9x (z7u (z0a z0f z0c)) (z0q y1l (z0b 1) (z0b 0))))))) nd rfl)) z0c))))
theorem f_d{f:Addr}{fd:FuncData}(Fu:Fun K "_law_joined" "_law_joined" st_d f fd)(hb:z1j K fd ["P","one","other"] [])
 (m_len:mg "len"=none)
 (m_range:mg "range"=none)
 (m_tuple:mg "tuple"=none)
 (m_zip:mg "zip"=none)
 : FnD P w K mg base 1 f fd ["P","one","other"] c_d:=by
 refine z1b Fu sc_d hb (fun ds h=>z0g h) fun cdv A outer s H E hr=>?_
 have nd:=sc_d.nd
 have hu:=hr.units
 refine⟨g_d,?_,fun ds hne=>(z0z (z0g hne)).symm⟩
 exact(z0e (z8f 3 (z7b z0c) nd)
  (z0e (z6i 4 z3d rfl (z7e (z7g 2))
  (z0e (z8f 5 (x6j (x6i (z7b (z0a z0f z0c)) (z0q y1l (z1r z6u m_len (by decide +kernel) (z0a (z0b 4) z0c)) z0f)) (z7b (z0a (z2p (z0b 4) (x2v z0f)) z0c))) nd)
  (z0e (z6i 6 z3d rfl (z1u (z1r z6u m_len (by decide +kernel) (z0a (z0b 1) z0c)) m_range)
  (z0h (y4n 5 (y5t (z0b 5) (z2p (z0b 1) (z0b 6)) m_zip) (y9c (fun _ _ _ _ _=>(PD.ro (z0q z3o (z0q z2d (z0b 0) (z0q z9x (z2p (z0b 6) (z0b 8)) (z0b 1))) (z0b 2))))) nd rfl)) nd)
  (z0h (z7s 3 (PD.ro (z1f z1s m_tuple (by decide +kernel) (z0a (z0b 5) z0c))))))) nd)
  (z0h (z0t (z1f z1s m_tuple (by decide +kernel) (z0a (z0b 3) z0c))))))
theorem f_j{f:Addr}{fd:FuncData}(Fu:Fun K "_law_times" "_law_times" st_j f fd)(hb:z1j K fd ["P","table","n"] [])
 {a_t:Addr} {d_t:FuncData} (G_t:FnD P w K mg base 1 a_t d_t ["many"] z2j) (m_t:mg "_law_idle"=some (.ref a_t))
 {a_d:Addr} {d_d:FuncData} (G_d:FnD P w K mg base 1 a_d d_d ["P","one","other"] c_d) (m_d:mg "_law_joined"=some (.ref a_d))
 (m_len:mg "len"=none)
 (m_reversed:mg "reversed"=none)
 : FnD P w K mg base 2 f fd ["P","table","n"] c_j:=by
 have F_t:=G_t.mono (k:=1) (by lia)
 have F_d:=G_d.mono (k:=1) (by lia)
 refine z1b Fu sc_j hb (fun ds h=>z0g h) fun cdv A outer s H E hr=>?_
 have nd:=sc_j.nd
 have hu:=hr.units
 refine⟨g_j,?_,fun ds hne=>(z0z (z0g hne)).symm⟩
 exact(z0e (z8f 3 (z7b z0c) nd)
  (z0e (y1y 200 z3d (z1c y7a (z0b 2) z0f (z1g _)) (z0e (z7s 3 (PD.ro (z0q z3o (z0b 2) z0f)))
  (z0h (z1a 2 (PD.ro (z0q z9z (z0b 2) z0f)) nd))))
  (z0e (z1a 4 (PD.ro (z0j F_t hr m_t (z0a (z1r z6u m_len (by decide +kernel) (z0a (z0b 1) z0c)) z0c))) nd)
  (z0e (x6b 3 (z6i 5 z3d rfl (x1i (z7g 3) m_reversed)
  (z0e (z1a 4 (PD.ro (z0j F_d hr m_d (z0a (z0b 0) (z0a (z0b 4) (z0a (z0b 4) z0c))))) nd)
  (z0h (z6f (z1c (z7h hu) (z0b 5) z0f (z1g _)) (z0h (z1a 4 (PD.ro (z0j F_d hr m_d (z0a (z0b 0) (z0a (z0b 4) (z0a (z0b 1) z0c))))) nd)) z2f))) nd))
  (z0h (z0t (z0b 4)))))))
theorem f_s
 {a_s:Addr} {d_s:FuncData} (Fu_s:Fun K "_law_made" "_law_made" st_s a_s d_s) (hb_s:z1j K d_s ["P","many","items"] []) (m_s:mg "_law_made"=some (.ref a_s))
 {a_t:Addr} {d_t:FuncData} (G_t:FnD P w K mg base 1 a_t d_t ["many"] z2j) (m_t:mg "_law_idle"=some (.ref a_t))
 {a_d:Addr} {d_d:FuncData} (G_d:FnD P w K mg base 1 a_d d_d ["P","one","other"] c_d) (m_d:mg "_law_joined"=some (.ref a_d))
 {a_j:Addr} {d_j:FuncData} (G_j:FnD P w K mg base 2 a_j d_j ["P","table","n"] c_j) (m_j:mg "_law_times"=some (.ref a_j))
 : ∀n:Nat,FnD P w K mg base (2+n) a_s d_s ["P","many","items"] (c_s n):=by
 intro n
 induction n with
 | zero=>exact y0n (k:=1) Fu_s sc_s hb_s
 | succ n ih =>
   have F_s:=ih
   have F_t:=G_t.mono (k:=2+n) (by lia)
   have F_d:=G_d.mono (k:=2+n) (by lia)
   have F_j:=G_j.mono (k:=2+n) (by lia)
   ·refine z1b (k:=2+n) Fu_s sc_s hb_s (fun ds h=>z0g h) fun cdv A outer s H E hr=>?_
    have nd:=sc_s.nd
    have hu:=hr.units
    refine⟨g_s (c_s n),?_,fun ds hne=>(z0z (z0g hne)).symm⟩
    exact(z0e (z1a 3 (PD.ro (z0j F_t hr m_t (z0a (z0b 1) z0c))) nd)
   (z0e (z6i 4 z3d rfl (z7e (z7g 2))
   (z0e (z1a 5 (PD.ro (z0j F_t hr m_t (z0a (z0b 1) z0c))) nd)
   (z0e (z6f (z1c (z7h hu) (z2p (z0b 4) z0f) z4w (z1g _)) (z0h (z1a 5 (PD.ro (z0q z2d (z0q z2d (x6m (z0b 5) podN (podS (z2p (z0b 4) z0f))) (z7u (z0a (z2p (z0b 4) z0f) z0c))) (x6m (z0b 5) (podS (z0q z2d (z2p (z0b 4) z0f) z0f)) podN))) nd)) (z0h (z1a 5 (PD.ro (z0j F_j hr m_j (z0a (z0b 0) (z0a (z0j F_s hr m_s (z0a (z0b 0) (z0a (z0b 1) (z0a (z2p (z0b 4) z0f) z0c)))) (z0a (z2p (z0b 4) z0f) z0c))))) nd)))
   (z0h (z1a 3 (PD.ro (z0j F_d hr m_d (z0a (z0b 0) (z0a (z0b 3) (z0a (z0b 5) z0c))))) nd)))) nd)
   (z0h (z0t (z0b 3)))))
theorem f_e{f:Addr}{fd:FuncData}(Fu:Fun K "_law_number" "_law_number" st_e f fd)(hb:z1j K fd ["script"] [])
 {a_q:Addr} {d_q:FuncData} (G_q:FnD P w K mg base 1 a_q d_q ["script","k"] c_q) (m_q:mg "_law_cell"=some (.ref a_q))
 (m_abs:mg "abs"=none)
 : FnD P w K mg base 2 f fd ["script"] z3u:=by
 have F_q:=G_q.mono (k:=1) (by lia)
 refine z1b Fu sc_e hb (fun ds h=>z0g h) fun cdv A outer s H E hr=>?_
 have nd:=sc_e.nd
 have hu:=hr.units
 refine⟨z3t,?_,fun ds hne=>(z0z (z0g hne)).symm⟩
 exact(z0e (z6f (z1c (z7h hu) (z0q z3o (z0q z9z (z0j F_q hr m_q (z0a (z0b 0) (z0a z0f z0c))) z0f) z0f) z0f (z1g _)) (z0h (z0t (z1r x7o m_abs (by decide +kernel) (z0a (z0j F_q hr m_q (z0a (z0b 0) (z0a z0f z0c))) z0c)))) z2f)
  (z0e (z1a 1 (PD.ro z0f) nd)
  (z0e (z6i 2 z3d rfl (z7e (z7g 0))
  (z0h (z1a 1 (PD.ro (z0q z2d (z0q y9f (z0b 1) z0f) (z0q z3o (z0b 2) (z0q y3c z0f z0f)))) nd)) nd)
  (z0h (z0t (z0q y9f (z0b 1) (z0b 1)))))))
theorem f_n{f:Addr}{fd:FuncData}(Fu:Fun K "_law_prime" "_law_prime" st_n f fd)(hb:z1j K fd ["cell"] [])
 (m_any:mg "any"=none)
 (m_range:mg "range"=none)
 : FnD P w K mg base 1 f fd ["cell"] z3l:=by
 refine z1b Fu sc_n hb (fun ds h=>z0g h) fun cdv A outer s H E hr=>?_
 have nd:=sc_n.nd
 have hu:=hr.units
 refine⟨z5u,?_,fun ds hne=>(z0z (z0g hne)).symm⟩
 exact(z0e (z1a 1 (PD.ro (z0q z2d z0f (z0q z3o (z0b 0) z0f))) nd)
  (z0e (y1y 10000 z3d (z9q (z1r (x7n rfl) m_any (by decide +kernel) (z0a (PF.pd (z4a (PIx.pic (y6x z0f z0f m_range)) (x4c (fun _ _ _ _ _=>(z1c x4j (z0b 0) (z0b 2) (z1g _))) (fun _ _ _ _ _=>(PD.ro (z9v (z7h hu) (z0q z3o (z0b 2) (z0b 0)) z0f (z1g _))))) nd rfl)) z0c))) (z0h (z1a 1 (PD.ro (z0q z2d (z0b 1) z0f)) nd)))
  (z0h (z0t (z0b 1)))))
theorem f_C{f:Addr}{fd:FuncData}(Fu:Fun K "one_at" "one_at" st_C f fd)(hb:z1j K fd ["width","place"] [])
 (m_range:mg "range"=none)
 (m_tuple:mg "tuple"=none)
 : FnD P w K mg base 1 f fd ["width","place"] c_C:=by
 refine z1b Fu sc_C hb (fun ds h=>z0g h) fun cdv A outer s H E hr=>?_
 have nd:=sc_C.nd
 have hu:=hr.units
 refine⟨g_C,?_,fun ds hne=>(z0z (z0g hne)).symm⟩
 exact(z0h (z0t (z1f z1s m_tuple (by decide +kernel) (z0a (PF.pd (z4a (PIx.pic (z1u (z0b 0) m_range)) (z6b (fun _ _ _ _ _=>(PD.ro (x8a (z1c (z7h hu) (z0b 0) (z0b 2) (z1g _)) z0f z0f)))) nd rfl)) z0c))))
theorem f_I{f:Addr}{fd:FuncData}(Fu:Fun K "idle" "idle" st_I f fd)(hb:z1j K fd ["many"] [])
 {a_C:Addr} {d_C:FuncData} (G_C:FnD P w K mg base 1 a_C d_C ["width","place"] c_C) (m_C:mg "one_at"=some (.ref a_C))
 (m_range:mg "range"=none)
 (m_tuple:mg "tuple"=none)
 : FnD P w K mg base 2 f fd ["many"] c_I:=by
 have F_C:=G_C.mono (k:=1) (by lia)
 refine z1b Fu sc_I hb (fun ds h=>z0g h) fun cdv A outer s H E hr=>?_
 have nd:=sc_I.nd
 have hu:=hr.units
 refine⟨g_I,?_,fun ds hne=>(z0z (z0g hne)).symm⟩
 exact(z0h (z0t (z1f z1s m_tuple (by decide +kernel) (z0a (PF.pd (z4a (PIx.pic (z1u (z0b 0) m_range)) (z6b (fun _ _ _ _ _=>(PD.ro (z5n F_C hr m_C (z0a (z0q z2d (z0b 1) z0f) (z0a (z0b 0) z0c)))))) nd rfl)) z0c))))
theorem f_l{f:Addr}{fd:FuncData}(Fu:Fun K "column_sum" "column_sum" st_l f fd)(hb:z1j K fd ["form","table","place"] [])
 (m_len:mg "len"=none)
 (m_range:mg "range"=none)
 (m_sum:mg "sum"=none)
 : FnD P w K mg base 1 f fd ["form","table","place"] c_l:=by
 refine z1b Fu sc_l hb (fun ds h=>z0g h) fun cdv A outer s H E hr=>?_
 have nd:=sc_l.nd
 have hu:=hr.units
 refine⟨g_l,?_,fun ds hne=>(z0z (z0g hne)).symm⟩
 exact(z0h (z0t (z1r (x0m rfl) m_sum (by decide +kernel) (z0a (PF.pd (z4a (PIx.pic (z1u (z1r z6u m_len (by decide +kernel) (z0a (z0b 1) z0c)) m_range)) (z6b (fun _ _ _ _ _=>(PD.ro (z0q z9x (z2p (z0b 1) (z0b 0)) (z2p (z2p (z0b 2) (z0b 0)) (z0b 3)))))) nd rfl)) z0c))))
theorem f_on{f:Addr}{fd:FuncData}(Fu:Fun K "on" "on" y6r f fd)(hb:z1j K fd ["P","n"] [])
 : FnD P w K mg base 1 f fd ["P","n"] c_on:=by
 refine z1b Fu x5y hb (fun ds h=>z0g h) fun cdv A outer s H E hr=>?_
 have nd:=x5y.nd
 have hu:=hr.units
 refine⟨g_on,?_,fun ds hne=>(z0z (z0g hne)).symm⟩
 exact(z0h (z0t (z0q z3o (z0b 1) (z0b 0))))
theorem f_m{f:Addr}{fd:FuncData}(Fu:Fun K "form_ahead" "form_ahead" st_m f fd)(hb:z1j K fd ["P","table","form"] [])
 {a_l:Addr} {d_l:FuncData} (G_l:FnD P w K mg base 1 a_l d_l ["form","table","place"] c_l) (m_l:mg "column_sum"=some (.ref a_l))
 (m_len:mg "len"=none)
 {a_on:Addr} {d_on:FuncData} (G_on:FnD P w K mg base 1 a_on d_on ["P","n"] c_on) (m_on:mg "on"=some (.ref a_on))
 (m_range:mg "range"=none)
 (m_tuple:mg "tuple"=none)
 : FnD P w K mg base 2 f fd ["P","table","form"] c_m:=by
 have F_l:=G_l.mono (k:=1) (by lia)
 have F_on:=G_on.mono (k:=1) (by lia)
 refine z1b Fu sc_m hb (fun ds h=>z0g h) fun cdv A outer s H E hr=>?_
 have nd:=sc_m.nd
 have hu:=hr.units
 refine⟨g_m,?_,fun ds hne=>(z0z (z0g hne)).symm⟩
 exact(z0e (z1a 3 (PD.ro (z1r z6u m_len (by decide +kernel) (z0a (z0b 1) z0c))) nd)
  (z0e (y6u 4 (PIx.pic (z1u (z0q z2d (z0b 3) z0f) m_range)) (z6b (fun _ _ _ _ _=>(PD.ro (z5n F_l hr m_l (z0a (z0b 3) (z0a (z0b 2) (z0a (z0b 0) z0c))))))) nd rfl)
  (z0e (x2s 4 (z0b 3) (PD.ro (z0q z2d (z2p (z0b 4) (z0b 3)) (z2p (z0b 2) (z0b 3)))))
  (z0h (z0t (z1f z1s m_tuple (by decide +kernel) (z0a (PF.pd (z4a (z9t (z0b 4)) (z6b (fun _ _ _ _ _=>(PD.ro (z5n F_on hr m_on (z0a (z0b 1) (z0a (z0b 0) z0c)))))) nd rfl)) z0c)))))))
theorem f_J{f:Addr}{fd:FuncData}(Fu:Fun K "then" "then" st_J f fd)(hb:z1j K fd ["P","one","other"] [])
 {a_m:Addr} {d_m:FuncData} (G_m:FnD P w K mg base 2 a_m d_m ["P","table","form"] c_m) (m_m:mg "form_ahead"=some (.ref a_m))
 (m_tuple:mg "tuple"=none)
 : FnD P w K mg base 3 f fd ["P","one","other"] c_J:=by
 have F_m:=G_m.mono (k:=2) (by lia)
 refine z1b Fu sc_J hb (fun ds h=>z0g h) fun cdv A outer s H E hr=>?_
 have nd:=sc_J.nd
 have hu:=hr.units
 refine⟨g_J,?_,fun ds hne=>(z0z (z0g hne)).symm⟩
 exact(z0h (z0t (z1f z1s m_tuple (by decide +kernel) (z0a (PF.pd (z4a (z9t (z0b 2)) (z6b (fun _ _ _ _ _=>(PD.ro (z5n F_m hr m_m (z0a (z0b 1) (z0a (z0b 2) (z0a (z0b 0) z0c))))))) nd rfl)) z0c))))
theorem f_E{f:Addr}{fd:FuncData}(Fu:Fun K "ladder" "ladder" st_E f fd)(hb:z1j K fd ["P","table","n"] [])
 (m_range:mg "range"=none)
 {a_J:Addr} {d_J:FuncData} (G_J:FnD P w K mg base 3 a_J d_J ["P","one","other"] c_J) (m_J:mg "then"=some (.ref a_J))
 : FnF P w K mg base 4 f fd ["P","table","n"] c_E:=by
 have F_J:=G_J.mono (k:=3) (by lia)
 refine x3e Fu sc_E hb (fun ds h=>y2j h) fun cdv A outer s H E hr=>?_
 have nd:=sc_E.nd
 have hu:=hr.units
 refine⟨g_E,?_,fun ds hne=>(x0a (y2j hne)).symm⟩
 exact(z0e (z8f 3 (z7b z0c) nd)
  (z0e (z1a 4 (PD.ro (z0b 1)) nd)
  (z0e (z6i 5 z3d rfl (z1u (x4b (z0b 2)) m_range)
  (z0e (z7s 3 (PD.ro (z0b 4)))
  (z0h (z1a 4 (PD.ro (z0j F_J hr m_J (z0a (z0b 0) (z0a (z0b 4) (z0a (z0b 4) z0c))))) nd))) nd)
  (z0h (x3q 3)))))
theorem f_r{f:Addr}{fd:FuncData}(Fu:Fun K "rungs_for" "rungs_for" st_r f fd)(hb:z1j K fd ["rungs","n"] [])
 (m_enumerate:mg "enumerate"=none)
 : FnF P w K mg base 1 f fd ["rungs","n"] c_r:=by
 refine x3e Fu sc_r hb (fun ds h=>y2j h) fun cdv A outer s H E hr=>?_
 have nd:=sc_r.nd
 have hu:=hr.units
 refine⟨g_r,?_,fun ds hne=>(x0a (y2j hne)).symm⟩
 exact(z0h (x3r (y5u (y8y (z0b 0) m_enumerate) (x1k (fun _ _ _ _ _=>(z1c (z7h hu) (z0q z3o (z0q x6w (z0b 3) (z0b 0)) z0f) z0f (z1g _))) (fun _ _ _ _ _=>(PD.ro (z0b 1)))) nd rfl)))
theorem f_D{f:Addr}{fd:FuncData}(Fu:Fun K "rounds" "rounds" st_D f fd)(hb:z1j K fd ["P","table","n"] [])
 {a_I:Addr} {d_I:FuncData} (G_I:FnD P w K mg base 2 a_I d_I ["many"] c_I) (m_I:mg "idle"=some (.ref a_I))
 {a_E:Addr} {d_E:FuncData} (G_E:FnF P w K mg base 4 a_E d_E ["P","table","n"] c_E) (m_E:mg "ladder"=some (.ref a_E))
 (m_len:mg "len"=none)
 {a_r:Addr} {d_r:FuncData} (G_r:FnF P w K mg base 1 a_r d_r ["rungs","n"] c_r) (m_r:mg "rungs_for"=some (.ref a_r))
 {a_J:Addr} {d_J:FuncData} (G_J:FnD P w K mg base 3 a_J d_J ["P","one","other"] c_J) (m_J:mg "then"=some (.ref a_J))
 : FnD P w K mg base 5 f fd ["P","table","n"] c_D:=by
 have F_I:=G_I.mono (k:=4) (by lia)
 have F_E:=G_E.mono (k:=4) (by lia)
 have F_r:=G_r.mono (k:=4) (by lia)
 have F_J:=G_J.mono (k:=4) (by lia)
 refine z1b Fu sc_D hb (fun ds h=>z0g h) fun cdv A outer s H E hr=>?_
 have nd:=sc_D.nd
 have hu:=hr.units
 refine⟨g_D,?_,fun ds hne=>(z0z (z0g hne)).symm⟩
 exact(z0e (z1a 3 (PD.ro (z0j F_I hr m_I (z0a (z1r z6u m_len (by decide +kernel) (z0a (z0b 1) z0c)) z0c))) nd)
  (z0e (z6i 4 z3d rfl (z7e (PF.ro (y9a F_r hr m_r (z0a (PF.pd (y9a F_E hr m_E (z0a (z0b 0) (z0a (z0b 1) (z0a (z0b 2) z0c))))) (z0a (z0b 2) z0c)))))
  (z0h (z1a 3 (PD.ro (z0j F_J hr m_J (z0a (z0b 0) (z0a (z0b 3) (z0a (z0b 4) z0c))))) nd)) nd)
  (z0h (z0t (z0b 3)))))
theorem f_z{f:Addr}{fd:FuncData}(Fu:Fun K "setting" "setting" st_z f fd)(hb:z1j K fd ["many","x","form"] [])
 {a_I:Addr} {d_I:FuncData} (G_I:FnD P w K mg base 2 a_I d_I ["many"] c_I) (m_I:mg "idle"=some (.ref a_I))
 (m_list:mg "list"=none)
 (m_tuple:mg "tuple"=none)
 : FnD P w K mg base 3 f fd ["many","x","form"] c_z:=by
 have F_I:=G_I.mono (k:=2) (by lia)
 refine z1b Fu sc_z hb (fun ds h=>z0g h) fun cdv A outer s H E hr=>?_
 have nd:=sc_z.nd
 have hu:=hr.units
 refine⟨g_z,?_,fun ds hne=>(z0z (z0g hne)).symm⟩
 exact(z0e (z8f 3 (x3y (z0j F_I hr m_I (z0a (z0b 0) z0c)) m_list (by decide +kernel)) nd)
  (z0e (x2s 3 (z0b 1) (PD.ro (z1f z1s m_tuple (by decide +kernel) (z0a (z0b 2) z0c))))
  (z0h (z0t (z1f z1s m_tuple (by decide +kernel) (z0a (z0b 3) z0c))))))
theorem f_v
 {a_v:Addr} {d_v:FuncData} (Fu_v:Fun K "table_of" "table_of" st_v a_v d_v) (hb_v:z1j K d_v ["P","many","items"] []) (m_v:mg "table_of"=some (.ref a_v))
 {a_a:Addr} {d_a:FuncData} (Fu_a:Fun K "table_of_item" "table_of_item" st_a a_a d_a) (hb_a:z1j K d_a ["P","many","item"] []) (m_a:mg "table_of_item"=some (.ref a_a))
 {a_I:Addr} {d_I:FuncData} (G_I:FnD P w K mg base 2 a_I d_I ["many"] c_I) (m_I:mg "idle"=some (.ref a_I))
 {a_J:Addr} {d_J:FuncData} (G_J:FnD P w K mg base 3 a_J d_J ["P","one","other"] c_J) (m_J:mg "then"=some (.ref a_J))
 {a_D:Addr} {d_D:FuncData} (G_D:FnD P w K mg base 5 a_D d_D ["P","table","n"] c_D) (m_D:mg "rounds"=some (.ref a_D))
 {a_z:Addr} {d_z:FuncData} (G_z:FnD P w K mg base 3 a_z d_z ["many","x","form"] c_z) (m_z:mg "setting"=some (.ref a_z))
 : ∀n:Nat,FnD P w K mg base (5+n) a_v d_v ["P","many","items"] (c_v n)/\FnD P w K mg base (5+n) a_a d_a ["P","many","item"] (c_a n):=by
 intro n
 induction n with
 | zero=>exact⟨y0n (k:=4) Fu_v sc_v hb_v,y0n (k:=4) Fu_a sc_a hb_a⟩
 | succ n ih =>
   obtain⟨F_v,F_a⟩:=ih
   have F_I:=G_I.mono (k:=5+n) (by lia)
   have F_J:=G_J.mono (k:=5+n) (by lia)
   have F_D:=G_D.mono (k:=5+n) (by lia)
   have F_z:=G_z.mono (k:=5+n) (by lia)
   refine⟨?_,?_⟩
   ·refine z1b (k:=5+n) Fu_v sc_v hb_v (fun ds h=>z0g h) fun cdv A outer s H E hr=>?_
    have nd:=sc_v.nd
    have hu:=hr.units
    refine⟨g_v (c_v n) (c_a n),?_,fun ds hne=>(z0z (z0g hne)).symm⟩
    exact(z0e (z1a 3 (PD.ro (z0j F_I hr m_I (z0a (z0b 1) z0c))) nd)
   (z0e (z6i 4 z3d rfl (z7e (z7g 2))
   (z0h (z1a 3 (PD.ro (z0j F_J hr m_J (z0a (z0b 0) (z0a (z0b 3) (z0a (z0j F_a hr m_a (z0a (z0b 0) (z0a (z0b 1) (z0a (z0b 4) z0c)))) z0c))))) nd)) nd)
   (z0h (z0t (z0b 3)))))
   ·refine z1b (k:=5+n) Fu_a sc_a hb_a (fun ds h=>z0g h) fun cdv A outer s H E hr=>?_
    have nd:=sc_a.nd
    have hu:=hr.units
    refine⟨g_a (c_v n) (c_a n),?_,fun ds hne=>(z0z (z0g hne)).symm⟩
    exact(z0e (z6f (z1c (z7h hu) (z2p (z0b 2) z0f) z4w (z1g _)) (z0h (z0t (z0j F_z hr m_z (z0a (z0b 1) (z0a (z2p (z0b 2) z0f) (z0a (z2p (z0b 2) z0f) z0c)))))) z2f)
   (z0h (z0t (z0j F_D hr m_D (z0a (z0b 0) (z0a (z0j F_v hr m_v (z0a (z0b 0) (z0a (z0b 1) (z0a (z2p (z0b 2) z0f) z0c)))) (z0a (z2p (z0b 2) z0f) z0c)))))))
theorem f_G{f:Addr}{fd:FuncData}(Fu:Fun K "worth" "worth" st_G f fd)(hb:z1j K fd ["P","form","stand"] [])
 (m_len:mg "len"=none)
 {a_on:Addr} {d_on:FuncData} (G_on:FnD P w K mg base 1 a_on d_on ["P","n"] c_on) (m_on:mg "on"=some (.ref a_on))
 (m_range:mg "range"=none)
 (m_sum:mg "sum"=none)
 : FnD P w K mg base 2 f fd ["P","form","stand"] c_G:=by
 have F_on:=G_on.mono (k:=1) (by lia)
 refine z1b Fu sc_G hb (fun ds h=>z0g h) fun cdv A outer s H E hr=>?_
 have nd:=sc_G.nd
 have hu:=hr.units
 refine⟨g_G,?_,fun ds hne=>(z0z (z0g hne)).symm⟩
 exact(z0e (z1a 3 (PD.ro (z1r z6u m_len (by decide +kernel) (z0a (z0b 2) z0c))) nd)
  (z0h (z0t (z0j F_on hr m_on (z0a (z0b 0) (z0a (z0q z2d (z1r (x0m rfl) m_sum (by decide +kernel) (z0a (PF.pd (z4a (PIx.pic (z1u (z0b 3) m_range)) (z6b (fun _ _ _ _ _=>(PD.ro (z0q z9x (z2p (z0b 2) (z0b 0)) (z2p (z0b 3) (z0b 0)))))) nd rfl)) z0c)) (z2p (z0b 1) (z0b 3))) z0c))))))
theorem f_B{f:Addr}{fd:FuncData}(Fu:Fun K "turned" "turned" st_B f fd)(hb:z1j K fd ["P","table","stand"] [])
 (m_tuple:mg "tuple"=none)
 {a_G:Addr} {d_G:FuncData} (G_G:FnD P w K mg base 2 a_G d_G ["P","form","stand"] c_G) (m_G:mg "worth"=some (.ref a_G))
 : FnD P w K mg base 3 f fd ["P","table","stand"] c_B:=by
 have F_G:=G_G.mono (k:=2) (by lia)
 refine z1b Fu sc_B hb (fun ds h=>z0g h) fun cdv A outer s H E hr=>?_
 have nd:=sc_B.nd
 have hu:=hr.units
 refine⟨g_B,?_,fun ds hne=>(z0z (z0g hne)).symm⟩
 exact(z0h (z0t (z1f z1s m_tuple (by decide +kernel) (z0a (PF.pd (z4a (z9t (z0b 1)) (z6b (fun _ _ _ _ _=>(PD.ro (z5n F_G hr m_G (z0a (z0b 1) (z0a (z0b 0) (z0a (z0b 3) z0c))))))) nd rfl)) z0c))))
theorem f_H{f:Addr}{fd:FuncData}(Fu:Fun K "after" "after" st_H f fd)(hb:z1j K fd ["P","many","items","n","stand"] [])
 {a_D:Addr} {d_D:FuncData} (G_D:FnD P w K mg base 5 a_D d_D ["P","table","n"] c_D) (m_D:mg "rounds"=some (.ref a_D))
 {a_v:Addr} {d_v:FuncData} (G_v:FnD P w K mg base 17 a_v d_v ["P","many","items"] (c_v 12)) (m_v:mg "table_of"=some (.ref a_v))
 {a_B:Addr} {d_B:FuncData} (G_B:FnD P w K mg base 3 a_B d_B ["P","table","stand"] c_B) (m_B:mg "turned"=some (.ref a_B))
 : FnD P w K mg base 18 f fd ["P","many","items","n","stand"] c_H:=by
 have F_D:=G_D.mono (k:=17) (by lia)
 have F_v:=G_v.mono (k:=17) (by lia)
 have F_B:=G_B.mono (k:=17) (by lia)
 refine z1b Fu sc_H hb (fun ds h=>z0g h) fun cdv A outer s H E hr=>?_
 have nd:=sc_H.nd
 have hu:=hr.units
 refine⟨g_H,?_,fun ds hne=>(z0z (z0g hne)).symm⟩
 exact(z0h (z0t (z0j F_B hr m_B (z0a (z0b 0) (z0a (z0j F_D hr m_D (z0a (z0b 0) (z0a (z0j F_v hr m_v (z0a (z0b 0) (z0a (z0b 1) (z0a (z0b 2) z0c)))) (z0a (z0b 3) z0c)))) (z0a (z0b 4) z0c))))))
theorem f_x{f:Addr}{fd:FuncData}(Fu:Fun K "is_whole" "is_whole" st_x f fd)(hb:z1j K fd ["thing"] [])
 (m_bool:mg "bool"=none)
 (m_int:mg "int"=none)
 (m_isinstance:mg "isinstance"=none)
 : FnD P w K mg base 1 f fd ["thing"] c_x:=by
 refine z1b Fu sc_x hb (fun ds h=>z0g h) fun cdv A outer s H E hr=>?_
 have nd:=sc_x.nd
 have hu:=hr.units
 refine⟨g_x,?_,fun ds hne=>(z0z (z0g hne)).symm⟩
 exact(z0h (z0t (y3b (x2w z6e (z0b 0) m_isinstance (fun I q=>z6c I rfl m_int (by decide +kernel) q) x8j) (y5v (x6n (x2w z4c (z0b 0) m_isinstance (fun I q=>z6c I rfl m_bool (by decide +kernel) q) x7j))))))
theorem f_A{f:Addr}{fd:FuncData}(Fu:Fun K "is_from" "is_from" st_A f fd)(hb:z1j K fd ["thing","least","most"] [])
 {a_x:Addr} {d_x:FuncData} (G_x:FnD P w K mg base 1 a_x d_x ["thing"] c_x) (m_x:mg "is_whole"=some (.ref a_x))
 : FnD P w K mg base 2 f fd ["thing","least","most"] c_A:=by
 have F_x:=G_x.mono (k:=1) (by lia)
 refine z1b Fu sc_A hb (fun ds h=>z0g h) fun cdv A outer s H E hr=>?_
 have nd:=sc_A.nd
 have hu:=hr.units
 refine⟨g_A,?_,fun ds hne=>(z0z (z0g hne)).symm⟩
 exact(z0h (z0t (y3b (z0j F_x hr m_x (z0a (z0b 0) z0c)) (y3b (z9v x4k (z0b 1) (z0b 0) (z1g _)) (y5v (z9v x4k (z0b 0) (z0b 2) (z1g _)))))))
theorem f_b
 {a_b:Addr} {d_b:FuncData} (Fu_b:Fun K "items_counted" "items_counted" st_b a_b d_b) (hb_b:z1j K d_b ["items","ahead"] []) (m_b:mg "items_counted"=some (.ref a_b))
 {v_MOST_ITEMS:Value} (m_MOST_ITEMS:mg "MOST_ITEMS"=some v_MOST_ITEMS) (u_MOST_ITEMS:∃t,v_MOST_ITEMS = .int 30 t)
 {a_NoProgram:Addr} (m_NoProgram:mg "NoProgram"=some (.ref a_NoProgram))
 (X_NoProgram:XOk K mg .noProgram a_NoProgram)
 : ∀n:Nat,FnD P w K mg base (1+n) a_b d_b ["items","ahead"] (c_b n):=by
 intro n
 induction n with
 | zero=>exact y0n (k:=0) Fu_b sc_b hb_b
 | succ n ih =>
   have F_b:=ih
   ·refine z1b (k:=1+n) Fu_b sc_b hb_b (fun ds h=>z0g h) fun cdv A outer s H E hr=>?_
    have nd:=sc_b.nd
    have hu:=hr.units
    refine⟨g_b (c_b n),?_,fun ds hne=>(z0z (z0g hne)).symm⟩
    exact(z0e (z1a 2 (PD.ro (z0b 1)) nd)
   (z0e (z6i 3 z3d rfl (z7e (z7g 0))
   (z0e (z1a 2 (PD.ro (z0q z2d (z0b 2) z0f)) nd)
   (z0e (z6f (z1c y7a (z0b 2) (z9u m_MOST_ITEMS u_MOST_ITEMS) (z1g _)) (z0h (z5m X_NoProgram z4w rfl)) z2f)
   (z0h (z6f (z1c (z7h hu) (z2p (z0b 3) z0f) z4w (z1g _)) (z0h (z1a 2 (PD.ro (z0j F_b hr m_b (z0a (z2p (z0b 3) z0f) (z0a (z0b 2) z0c)))) nd)) z2f)))) nd)
   (z0h (z0t (z0b 2)))))
theorem f_u{f:Addr}{fd:FuncData}(Fu:Fun K "made_set" "made_set" st_u f fd)(hb:z1j K fd ["P","many","x","form"] [])
 {a_NoProgram:Addr} (m_NoProgram:mg "NoProgram"=some (.ref a_NoProgram))
 {a_A:Addr} {d_A:FuncData} (G_A:FnD P w K mg base 2 a_A d_A ["thing","least","most"] c_A) (m_A:mg "is_from"=some (.ref a_A))
 (m_len:mg "len"=none)
 {a_on:Addr} {d_on:FuncData} (G_on:FnD P w K mg base 1 a_on d_on ["P","n"] c_on) (m_on:mg "on"=some (.ref a_on))
 (m_tuple:mg "tuple"=none)
 (X_NoProgram:XOk K mg .noProgram a_NoProgram)
 : FnD P w K mg base 3 f fd ["P","many","x","form"] c_u:=by
 have F_A:=G_A.mono (k:=2) (by lia)
 have F_on:=G_on.mono (k:=2) (by lia)
 refine z1b Fu sc_u hb (fun ds h=>z0g h) fun cdv A outer s H E hr=>?_
 have nd:=sc_u.nd
 have hu:=hr.units
 refine⟨g_u,?_,fun ds hne=>(z0z (z0g hne)).symm⟩
 exact(z0e (z6f (y1x (z9q (z0j F_A hr m_A (z0a (z0b 2) (z0a z0f (z0a (z0q y1l (z0b 1) z0f) z0c)))))) (z0h (z5m X_NoProgram z4w rfl)) z2f)
  (z0e (z6f (z1c (x1m hu) (z1r z6u m_len (by decide +kernel) (z0a (z0b 3) z0c)) (z0q z2d (z0b 1) z0f) (z1g _)) (z0h (z5m X_NoProgram z4w rfl)) z2f)
  (z0h (z0t (z7u (z0a z4w (z0a (z0b 2) (z0a (z1f z1s m_tuple (by decide +kernel) (z0a (PF.pd (z4a (z9t (z0b 3)) (z6b (fun _ _ _ _ _=>(PD.ro (z5n F_on hr m_on (z0a (z0b 1) (z0a (z0b 0) z0c)))))) nd rfl)) z0c)) z0c))))))))
theorem f_k
 {a_k:Addr} {d_k:FuncData} (Fu_k:Fun K "made_again" "made_again" st_k a_k d_k) (hb_k:z1j K d_k ["P","many","n","items","around"] []) (m_k:mg "made_again"=some (.ref a_k))
 {a_o:Addr} {d_o:FuncData} (Fu_o:Fun K "made_item" "made_item" st_o a_o d_o) (hb_o:z1j K d_o ["P","many","item","around"] []) (m_o:mg "made_item"=some (.ref a_o))
 {a_h:Addr} {d_h:FuncData} (Fu_h:Fun K "made_items" "made_items" st_h a_h d_h) (hb_h:z1j K d_h ["P","many","items","around"] []) (m_h:mg "made_items"=some (.ref a_h))
 {v_MOST_DEEP:Value} (m_MOST_DEEP:mg "MOST_DEEP"=some v_MOST_DEEP) (u_MOST_DEEP:∃t,v_MOST_DEEP = .int 3 t)
 {a_NoProgram:Addr} (m_NoProgram:mg "NoProgram"=some (.ref a_NoProgram))
 {a_A:Addr} {d_A:FuncData} (G_A:FnD P w K mg base 2 a_A d_A ["thing","least","most"] c_A) (m_A:mg "is_from"=some (.ref a_A))
 {a_u:Addr} {d_u:FuncData} (G_u:FnD P w K mg base 3 a_u d_u ["P","many","x","form"] c_u) (m_u:mg "made_set"=some (.ref a_u))
 (m_tuple:mg "tuple"=none)
 (X_NoProgram:XOk K mg .noProgram a_NoProgram)
 : ∀n:Nat,FnD P w K mg base (3+n) a_k d_k ["P","many","n","items","around"] (c_k n)/\FnD P w K mg base (3+n) a_o d_o ["P","many","item","around"] (c_o n)/\FnD P w K mg base (3+n) a_h d_h ["P","many","items","around"] (c_h n):=by
 intro n
 induction n with
 | zero=>exact⟨y0n (k:=2) Fu_k sc_k hb_k,y0n (k:=2) Fu_o sc_o hb_o,y0n (k:=2) Fu_h sc_h hb_h⟩
 | succ n ih =>
   obtain⟨F_k,F_o,F_h⟩:=ih
   have F_A:=G_A.mono (k:=3+n) (by lia)
   have F_u:=G_u.mono (k:=3+n) (by lia)
   refine⟨?_,?_,?_⟩
   ·refine z1b (k:=3+n) Fu_k sc_k hb_k (fun ds h=>z0g h) fun cdv A outer s H E hr=>?_
    have nd:=sc_k.nd
    have hu:=hr.units
    refine⟨g_k (c_k n) (c_o n) (c_h n),?_,fun ds hne=>(z0z (z0g hne)).symm⟩
    exact(z0e (z6f (z1c x8f (z0b 4) (z9u m_MOST_DEEP u_MOST_DEEP) (z1g _)) (z0h (z5m X_NoProgram z4w rfl)) z2f)
   (z0e (z6f (y1x (z9q (z0j F_A hr m_A (z0a (z0b 2) (z0a z0f (z0a (z0q y3c z0f z0f) z0c)))))) (z0h (z5m X_NoProgram z4w rfl)) z2f)
   (z0h (z0t (z7u (z0a z4w (z0a (z0b 2) (z0a (z0j F_h hr m_h (z0a (z0b 0) (z0a (z0b 1) (z0a (z0b 3) (z0a (z0q z2d (z0b 4) z0f) z0c))))) z0c))))))))
   ·refine z1b (k:=3+n) Fu_o sc_o hb_o (fun ds h=>z0g h) fun cdv A outer s H E hr=>?_
    have nd:=sc_o.nd
    have hu:=hr.units
    refine⟨g_o (c_k n) (c_o n) (c_h n),?_,fun ds hne=>(z0z (z0g hne)).symm⟩
    exact(z0e (z6f (z1c (z7h hu) (z2p (z0b 2) z0f) z4w (z1g _)) (z0h (z0t (z0j F_u hr m_u (z0a (z0b 0) (z0a (z0b 1) (z0a (z2p (z0b 2) z0f) (z0a (z2p (z0b 2) z0f) z0c))))))) z2f)
   (z0h (z0t (z0j F_k hr m_k (z0a (z0b 0) (z0a (z0b 1) (z0a (z2p (z0b 2) z0f) (z0a (z2p (z0b 2) z0f) (z0a (z0b 3) z0c)))))))))
   ·refine z1b (k:=3+n) Fu_h sc_h hb_h (fun ds h=>z0g h) fun cdv A outer s H E hr=>?_
    have nd:=sc_h.nd
    have hu:=hr.units
    refine⟨g_h (c_k n) (c_o n) (c_h n),?_,fun ds hne=>(z0z (z0g hne)).symm⟩
    exact(z0h (z0t (z1f z1s m_tuple (by decide +kernel) (z0a (PF.pd (z4a (PIx.pic (z7e (z7g 2))) (z6b (fun _ _ _ _ _=>(PD.ro (z5n F_o hr m_o (z0a (z0b 1) (z0a (z0b 2) (z0a (z0b 0) (z0a (z0b 4) z0c)))))))) nd rfl)) z0c))))
theorem f_c{f:Addr}{fd:FuncData}(Fu:Fun K "least_divisor" "least_divisor" st_c f fd)(hb:z1j K fd ["n"] [])
 : FnD P w K mg base 1 f fd ["n"] c_c:=by
 refine z1b Fu sc_c hb (fun ds h=>z0g h) fun cdv A outer s H E hr=>?_
 have nd:=sc_c.nd
 have hu:=hr.units
 refine⟨g_c,?_,fun ds hne=>(z0z (z0g hne)).symm⟩
 exact(z0e (z1a 1 (PD.ro z0f) nd)
  (z0e (y1y 10000 z3d (z1c x4k (z0q z9x (z0b 1) (z0b 1)) (z0b 0) (z1g _)) (z0e (z6f (z1c (z7h hu) (z0q z3o (z0b 0) (z0b 1)) z0f (z1g _)) (z0h (z0t (z0b 1))) z2f)
  (z0h (z1a 1 (PD.ro (z0q z2d (z0b 1) z0f)) nd))))
  (z0h (z0t (z0b 0)))))
theorem f_w{f:Addr}{fd:FuncData}(Fu:Fun K "is_prime" "is_prime" st_w f fd)(hb:z1j K fd ["thing"] [])
 {v_GREATEST_PRIME:Value} (m_GREATEST_PRIME:mg "GREATEST_PRIME"=some v_GREATEST_PRIME) (u_GREATEST_PRIME:∃t,v_GREATEST_PRIME = .int 9999 t)
 {v_LEAST_PRIME:Value} (m_LEAST_PRIME:mg "LEAST_PRIME"=some v_LEAST_PRIME) (u_LEAST_PRIME:∃t,v_LEAST_PRIME = .int 3 t)
 {a_A:Addr} {d_A:FuncData} (G_A:FnD P w K mg base 2 a_A d_A ["thing","least","most"] c_A) (m_A:mg "is_from"=some (.ref a_A))
 {a_c:Addr} {d_c:FuncData} (G_c:FnD P w K mg base 1 a_c d_c ["n"] c_c) (m_c:mg "least_divisor"=some (.ref a_c))
 : FnD P w K mg base 3 f fd ["thing"] c_w:=by
 have F_A:=G_A.mono (k:=2) (by lia)
 have F_c:=G_c.mono (k:=2) (by lia)
 refine z1b Fu sc_w hb (fun ds h=>z0g h) fun cdv A outer s H E hr=>?_
 have nd:=sc_w.nd
 have hu:=hr.units
 refine⟨g_w,?_,fun ds hne=>(z0z (z0g hne)).symm⟩
 exact(z0h (z0t (y3b (z0j F_A hr m_A (z0a (z0b 0) (z0a (z9u m_LEAST_PRIME u_LEAST_PRIME) (z0a (z9u m_GREATEST_PRIME u_GREATEST_PRIME) z0c)))) (y5v (z9v (z7h hu) (z0j F_c hr m_c (z0a (z0b 0) z0c)) (z0b 0) (z1g _))))))
theorem f_F{f:Addr}{fd:FuncData}(Fu:Fun K "prime" "prime" st_F f fd)(hb:z1j K fd ["thing"] [])
 {a_NoPrime:Addr} (m_NoPrime:mg "NoPrime"=some (.ref a_NoPrime))
 {a_w:Addr} {d_w:FuncData} (G_w:FnD P w K mg base 3 a_w d_w ["thing"] c_w) (m_w:mg "is_prime"=some (.ref a_w))
 (X_NoPrime:XOk K mg .noPrime a_NoPrime)
 : FnD P w K mg base 4 f fd ["thing"] c_F:=by
 have F_w:=G_w.mono (k:=3) (by lia)
 refine z1b Fu sc_F hb (fun ds h=>z0g h) fun cdv A outer s H E hr=>?_
 have nd:=sc_F.nd
 have hu:=hr.units
 refine⟨g_F,?_,fun ds hne=>(z0z (z0g hne)).symm⟩
 exact(z0e (z6f (y1x (z9q (z0j F_w hr m_w (z0a (z0b 0) z0c)))) (z0h (z5m X_NoPrime z4w rfl)) z2f)
  (z0h (z0t (z0b 0))))
theorem f_y{f:Addr}{fd:FuncData}(Fu:Fun K "program" "program" st_y f fd)(hb:z1j K fd ["P","many","items"] [])
 {v_MOST_BOXES:Value} (m_MOST_BOXES:mg "MOST_BOXES"=some v_MOST_BOXES) (u_MOST_BOXES:∃t,v_MOST_BOXES = .int 3 t)
 {a_NoProgram:Addr} (m_NoProgram:mg "NoProgram"=some (.ref a_NoProgram))
 {a_A:Addr} {d_A:FuncData} (G_A:FnD P w K mg base 2 a_A d_A ["thing","least","most"] c_A) (m_A:mg "is_from"=some (.ref a_A))
 {a_b:Addr} {d_b:FuncData} (G_b:FnD P w K mg base 13 a_b d_b ["items","ahead"] (c_b 12)) (m_b:mg "items_counted"=some (.ref a_b))
 {a_h:Addr} {d_h:FuncData} (G_h:FnD P w K mg base 15 a_h d_h ["P","many","items","around"] (c_h 12)) (m_h:mg "made_items"=some (.ref a_h))
 {a_F:Addr} {d_F:FuncData} (G_F:FnD P w K mg base 4 a_F d_F ["thing"] c_F) (m_F:mg "prime"=some (.ref a_F))
 (X_NoProgram:XOk K mg .noProgram a_NoProgram)
 : FnD P w K mg base 16 f fd ["P","many","items"] c_y:=by
 have F_A:=G_A.mono (k:=15) (by lia)
 have F_b:=G_b.mono (k:=15) (by lia)
 have F_h:=G_h.mono (k:=15) (by lia)
 have F_F:=G_F.mono (k:=15) (by lia)
 refine z1b Fu sc_y hb (fun ds h=>z0g h) fun cdv A outer s H E hr=>?_
 have nd:=sc_y.nd
 have hu:=hr.units
 refine⟨g_y,?_,fun ds hne=>(z0z (z0g hne)).symm⟩
 exact(z0e (y8r (z0j F_F hr m_F (z0a (z0b 0) z0c)))
  (z0e (z6f (y1x (z9q (z0j F_A hr m_A (z0a (z0b 1) (z0a z0f (z0a (z9u m_MOST_BOXES u_MOST_BOXES) z0c)))))) (z0h (z5m X_NoProgram z4w rfl)) z2f)
  (z0e (y8r (z0j F_b hr m_b (z0a (z0b 2) (z0a z0f z0c))))
  (z0h (z0t (z0j F_h hr m_h (z0a (z0b 0) (z0a (z0b 1) (z0a (z0b 2) (z0a z0f z0c))))))))))
theorem x8m{f:Addr}{fd:FuncData}(Fu:Fun K "law" "law" z7q f fd)(hb:z1j K fd ["script"] [])
 {a_q:Addr} {d_q:FuncData} (G_q:FnD P w K mg base 1 a_q d_q ["script","k"] c_q) (m_q:mg "_law_cell"=some (.ref a_q))
 {a_f:Addr} {d_f:FuncData} (G_f:FnD P w K mg base 1 a_f d_f ["cell","P","size"] c_f) (m_f:mg "_law_digits"=some (.ref a_f))
 {a_g:Addr} {d_g:FuncData} (G_g:FnD P w K mg base 2 a_g d_g ["number","P","many"] z4n) (m_g:mg "_law_items"=some (.ref a_g))
 {a_s:Addr} {d_s:FuncData} (G_s:FnD P w K mg base 14 a_s d_s ["P","many","items"] (c_s 12)) (m_s:mg "_law_made"=some (.ref a_s))
 {a_e:Addr} {d_e:FuncData} (G_e:FnD P w K mg base 2 a_e d_e ["script"] z3u) (m_e:mg "_law_number"=some (.ref a_e))
 {a_n:Addr} {d_n:FuncData} (G_n:FnD P w K mg base 1 a_n d_n ["cell"] z3l) (m_n:mg "_law_prime"=some (.ref a_n))
 {a_j:Addr} {d_j:FuncData} (G_j:FnD P w K mg base 2 a_j d_j ["P","table","n"] c_j) (m_j:mg "_law_times"=some (.ref a_j))
 {a_H:Addr} {d_H:FuncData} (G_H:FnD P w K mg base 18 a_H d_H ["P","many","items","n","stand"] c_H) (m_H:mg "after"=some (.ref a_H))
 {a_y:Addr} {d_y:FuncData} (G_y:FnD P w K mg base 16 a_y d_y ["P","many","items"] c_y) (m_y:mg "program"=some (.ref a_y))
 (m_sum:mg "sum"=none)
 {a_v:Addr} {d_v:FuncData} (G_v:FnD P w K mg base 17 a_v d_v ["P","many","items"] (c_v 12)) (m_v:mg "table_of"=some (.ref a_v))
 (m_tuple:mg "tuple"=none)
 (m_zip:mg "zip"=none)
 : FnD P w K mg base 19 f fd ["script"] c_law:=by
 have F_q:=G_q.mono (k:=18) (by lia)
 have F_f:=G_f.mono (k:=18) (by lia)
 have F_g:=G_g.mono (k:=18) (by lia)
 have F_s:=G_s.mono (k:=18) (by lia)
 have F_e:=G_e.mono (k:=18) (by lia)
 have F_n:=G_n.mono (k:=18) (by lia)
 have F_j:=G_j.mono (k:=18) (by lia)
 have F_H:=G_H.mono (k:=18) (by lia)
 have F_y:=G_y.mono (k:=18) (by lia)
 have F_v:=G_v.mono (k:=18) (by lia)
 refine z1b Fu x2q hb (fun ds h=>z0g h) fun cdv A outer s H E hr=>?_
 have nd:=x2q.nd
 have hu:=hr.units
 refine⟨x5a,?_,fun ds hne=>(z0z (z0g hne)).symm⟩
 exact(z0e (z1a 1 (PD.ro (z0j F_n hr m_n (z0a (z0j F_q hr m_q (z0a (z0b 0) (z0a z0f z0c))) z0c))) nd)
  (z0e (z1a 2 (PD.ro (z0q z2d z0f (z0q z3o (z0j F_q hr m_q (z0a (z0b 0) (z0a z0f z0c))) z0f))) nd)
  (z0e (z1a 3 (PD.ro (z0j F_g hr m_g (z0a (z0j F_e hr m_e (z0a (z0b 0) z0c)) (z0a (z0b 1) (z0a (z0b 2) z0c))))) nd)
  (z0e (z1a 4 (PD.ro (z0q z3o (z0j F_q hr m_q (z0a (z0b 0) (z0a z0f z0c))) (z0q z2d (z0q y3c z0f z0f) z0f))) nd)
  (z0e (z1a 5 (PD.ro (z0j F_f hr m_f (z0a (z0j F_q hr m_q (z0a (z0b 0) (z0a z0f z0c))) (z0a (z0b 1) (z0a (z0b 2) z0c))))) nd)
  (z0e (z6f (z1c (x1m hu) (z0j F_y hr m_y (z0a (z0b 1) (z0a (z0b 2) (z0a (z0b 3) z0c)))) (z0b 3) (z1g _)) (z0h (z0t x6o)) z2f)
  (z0e (z1a 6 (PD.ro (z0j F_s hr m_s (z0a (z0b 1) (z0a (z0b 2) (z0a (z0b 3) z0c))))) nd)
  (z0e (z6f (z1c (x1m hu) (z0j F_v hr m_v (z0a (z0b 1) (z0a (z0b 2) (z0a (z0b 3) z0c)))) (z0b 6) (z1g _)) (z0h (z0t x6o)) z2f)
  (z0e (z1a 7 (PD.ro (z0j F_H hr m_H (z0a (z0b 1) (z0a (z0b 2) (z0a (z0b 3) (z0a (z0b 4) (z0a (z0b 5) z0c))))))) nd)
  (z0e (z1a 8 (PD.ro (z0j F_j hr m_j (z0a (z0b 1) (z0a (z0b 6) (z0a (z0b 4) z0c))))) nd)
  (z0h (z0t (z9v (z7h hu) (z0b 7) (z1f z1s m_tuple (by decide +kernel) (z0a (PF.pd (z4a (z9t (z0b 8)) (z6b (fun _ _ _ _ _=>(PD.ro (z0q z3o (z0q z2d (z2p (z0b 0) (x2v z0f)) (z1r (x0m rfl) m_sum (by decide +kernel) (z0a (PF.pd (y5u (y5t (z0b 0) (z0b 6) m_zip) (y9c (fun _ _ _ _ _=>(PD.ro (z0q z9x (z0b 0) (z0b 1))))) (show List.Nodup (α:=Str) ["form","script","P","many","items","n","stand","due","end","whole"] from by decide +kernel) rfl)) z0c))) (z0b 2))))) nd rfl)) z0c)) (z1g _))))))))))))))
end
theorem y0v{α:Type}{p:List α->Prop}(h:∀a,p [a])(us:List α)(hl:us.length=1):p us:=by
 obtain⟨a,rfl⟩:∃a,us=[a]:=by
  match us,hl with
  | [a],_=>exact⟨a,rfl⟩
 exact h a
theorem y9m{α:Type}{p:List α->Prop}(h:∀a b,p [a,b])(us:List α)(hl:us.length=2):p us:=by
 obtain⟨a,b,rfl⟩:∃a b,us=[a,b]:=by
  match us,hl with
  | [a,b],_=>exact⟨a,b,rfl⟩
 exact h a b
theorem z6g{α:Type}{p:List α->Prop}(h:∀a b c,p [a,b,c])(us:List α)(hl:us.length=3):p us:=by
 obtain⟨a,b,c,rfl⟩:∃a b c,us=[a,b,c]:=by
  match us,hl with
  | [a,b,c],_=>exact⟨a,b,c,rfl⟩
 exact h a b c
theorem x4q{α:Type}{p:List α->Prop}(h:∀a b c d,p [a,b,c,d])(us:List α)(hl:us.length=4):p us:=by
 obtain⟨a,b,c,d,rfl⟩:∃a b c d,us=[a,b,c,d]:=by
  match us,hl with
  | [a,b,c,d],_=>exact⟨a,b,c,d,rfl⟩
 exact h a b c d
theorem x6y{α:Type}{p:List α->Prop}(h:∀a b c d e,p [a,b,c,d,e])(us:List α)(hl:us.length=5):p us:=by
 obtain⟨a,b,c,d,e,rfl⟩:∃a b c d e,us=[a,b,c,d,e]:=by
  match us,hl with
  | [a,b,c,d,e],_=>exact⟨a,b,c,d,e,rfl⟩
 exact h a b c d e
theorem all_mk{l:PySem.W.OpenLaw}{w:World}{K:PySem.W.Frag}{h:Heap}{mg:Str->Option Value}{fa:Addr}(X:K.In h)(G:h.Ns mainGlobals mg)(hfa:mg "law"=some (.ref fa))
 {a_q:Addr} {od_q an_q:Option Addr} {sl_q:Array (Option Value)} {oc_q kV_q dc_q pm_q cd_q ct_q:Value}
 {a_f:Addr} {od_f an_f:Option Addr} {sl_f:Array (Option Value)} {oc_f kV_f dc_f pm_f cd_f ct_f:Value}
 {a_i:Addr} {od_i an_i:Option Addr} {sl_i:Array (Option Value)} {oc_i kV_i dc_i pm_i cd_i ct_i:Value}
 {a_p:Addr} {od_p an_p:Option Addr} {sl_p:Array (Option Value)} {oc_p kV_p dc_p pm_p cd_p ct_p:Value}
 {a_g:Addr} {od_g an_g:Option Addr} {sl_g:Array (Option Value)} {oc_g kV_g dc_g pm_g cd_g ct_g:Value}
 {a_t:Addr} {od_t an_t:Option Addr} {sl_t:Array (Option Value)} {oc_t kV_t dc_t pm_t cd_t ct_t:Value}
 {a_d:Addr} {od_d an_d:Option Addr} {sl_d:Array (Option Value)} {oc_d kV_d dc_d pm_d cd_d ct_d:Value}
 {a_j:Addr} {od_j an_j:Option Addr} {sl_j:Array (Option Value)} {oc_j kV_j dc_j pm_j cd_j ct_j:Value}
 {a_s:Addr} {od_s an_s:Option Addr} {sl_s:Array (Option Value)} {oc_s kV_s dc_s pm_s cd_s ct_s:Value}
 {a_e:Addr} {od_e an_e:Option Addr} {sl_e:Array (Option Value)} {oc_e kV_e dc_e pm_e cd_e ct_e:Value}
 {a_n:Addr} {od_n an_n:Option Addr} {sl_n:Array (Option Value)} {oc_n kV_n dc_n pm_n cd_n ct_n:Value}
 {a_C:Addr} {od_C an_C:Option Addr} {sl_C:Array (Option Value)} {oc_C kV_C dc_C pm_C cd_C ct_C:Value}
 {a_I:Addr} {od_idle an_I:Option Addr} {sl_I:Array (Option Value)} {oc_I kV_I dc_I pm_I cd_I ct_I:Value}
 {a_l:Addr} {od_l an_l:Option Addr} {sl_l:Array (Option Value)} {oc_l kV_l dc_l pm_l cd_l ct_l:Value}
 {a_on:Addr} {od_on an_on:Option Addr} {sl_on:Array (Option Value)} {oc_on kV_on dc_on pm_on cd_on ct_on:Value}
 {a_m:Addr} {od_m an_m:Option Addr} {sl_m:Array (Option Value)} {oc_m kV_m dc_m pm_m cd_m ct_m:Value}
 {a_J:Addr} {od_J an_J:Option Addr} {sl_J:Array (Option Value)} {oc_J kV_J dc_J pm_J cd_J ct_J:Value}
 {a_E:Addr} {od_E an_E:Option Addr} {sl_E:Array (Option Value)} {oc_E kV_E dc_E pm_E cd_E ct_E:Value}
 {a_r:Addr} {od_r an_r:Option Addr} {sl_r:Array (Option Value)} {oc_r kV_r dc_r pm_r cd_r ct_r:Value}
 {a_D:Addr} {od_D an_D:Option Addr} {sl_D:Array (Option Value)} {oc_D kV_D dc_D pm_D cd_D ct_D:Value}
 {a_z:Addr} {od_z an_z:Option Addr} {sl_z:Array (Option Value)} {oc_z kV_z dc_z pm_z cd_z ct_z:Value}
 {a_v:Addr} {od_v an_v:Option Addr} {sl_v:Array (Option Value)} {oc_v kV_v dc_v pm_v cd_v ct_v:Value}
 {a_a:Addr} {od_a an_a:Option Addr} {sl_a:Array (Option Value)} {oc_a kV_a dc_a pm_a cd_a ct_a:Value}
 {a_G:Addr} {od_G an_G:Option Addr} {sl_G:Array (Option Value)} {oc_G kV_G dc_G pm_G cd_G ct_G:Value}
 {a_B:Addr} {od_B an_B:Option Addr} {sl_B:Array (Option Value)} {oc_B kV_B dc_B pm_B cd_B ct_B:Value}
 {a_H:Addr} {od_H an_H:Option Addr} {sl_H:Array (Option Value)} {oc_H kV_H dc_H pm_H cd_H ct_H:Value}
 {a_x:Addr} {od_x an_x:Option Addr} {sl_x:Array (Option Value)} {oc_x kV_x dc_x pm_x cd_x ct_x:Value}
 {a_A:Addr} {od_A an_A:Option Addr} {sl_A:Array (Option Value)} {oc_A kV_A dc_A pm_A cd_A ct_A:Value}
 {a_b:Addr} {od_b an_b:Option Addr} {sl_b:Array (Option Value)} {oc_b kV_b dc_b pm_b cd_b ct_b:Value}
 {a_u:Addr} {od_u an_u:Option Addr} {sl_u:Array (Option Value)} {oc_u kV_u dc_u pm_u cd_u ct_u:Value}
 {a_k:Addr} {od_k an_k:Option Addr} {sl_k:Array (Option Value)} {oc_k kV_k dc_k pm_k cd_k ct_k:Value}
 {a_o:Addr} {od_o an_o:Option Addr} {sl_o:Array (Option Value)} {oc_o kV_o dc_o pm_o cd_o ct_o:Value}
 {a_h:Addr} {od_h an_h:Option Addr} {sl_h:Array (Option Value)} {oc_h kV_h dc_h pm_h cd_h ct_h:Value}
 {a_c:Addr} {od_c an_c:Option Addr} {sl_c:Array (Option Value)} {oc_c kV_c dc_c pm_c cd_c ct_c:Value}
 {a_w:Addr} {od_w an_w:Option Addr} {sl_w:Array (Option Value)} {oc_w kV_w dc_w pm_w cd_w ct_w:Value}
 {a_F:Addr} {od_F an_F:Option Addr} {sl_F:Array (Option Value)} {oc_F kV_F dc_F pm_F cd_F ct_F:Value}
 {a_y:Addr} {od_y an_y:Option Addr} {sl_y:Array (Option Value)} {oc_y kV_y dc_y pm_y cd_y ct_y:Value}
 {a_law:Addr} {od_law an_law:Option Addr} {sl_law:Array (Option Value)} {oc_law kV_law dc_law pm_law cd_law ct_law:Value}
 (a1_q:PySem.W.nsIn K mainGlobals "_law_cell"=some (some (.ref a_q))) (l1_q:K.lookup a_q=some ⟨oc_q,od_q,.func (PySem.W.fnOf "_law_cell" "_law_cell" (z0n st_q) (z0l st_q) (z0d st_q) .none kV_q dc_q pm_q an_q cd_q ct_q),sl_q⟩) (c1_q:PySem.W.codeIn K cd_q "_law_cell"=true) (k1_q:PySem.W.keepIn K (.ref a_q)=true)
 (a1_f:PySem.W.nsIn K mainGlobals "_law_digits"=some (some (.ref a_f))) (l1_f:K.lookup a_f=some ⟨oc_f,od_f,.func (PySem.W.fnOf "_law_digits" "_law_digits" (z0n st_f) (z0l st_f) (z0d st_f) .none kV_f dc_f pm_f an_f cd_f ct_f),sl_f⟩) (c1_f:PySem.W.codeIn K cd_f "_law_digits"=true) (k1_f:PySem.W.keepIn K (.ref a_f)=true)
 (a1_i:PySem.W.nsIn K mainGlobals "_law_count"=some (some (.ref a_i))) (l1_i:K.lookup a_i=some ⟨oc_i,od_i,.func (PySem.W.fnOf "_law_count" "_law_count" (z0n st_i) (z0l st_i) (z0d st_i) .none kV_i dc_i pm_i an_i cd_i ct_i),sl_i⟩) (c1_i:PySem.W.codeIn K cd_i "_law_count"=true) (k1_i:PySem.W.keepIn K (.ref a_i)=true)
 (a1_p:PySem.W.nsIn K mainGlobals "_law_past"=some (some (.ref a_p))) (l1_p:K.lookup a_p=some ⟨oc_p,od_p,.func (PySem.W.fnOf "_law_past" "_law_past" (z0n st_p) (z0l st_p) (z0d st_p) .none kV_p dc_p pm_p an_p cd_p ct_p),sl_p⟩) (c1_p:PySem.W.codeIn K cd_p "_law_past"=true) (k1_p:PySem.W.keepIn K (.ref a_p)=true)
 (a1_g:PySem.W.nsIn K mainGlobals "_law_items"=some (some (.ref a_g))) (l1_g:K.lookup a_g=some ⟨oc_g,od_g,.func (PySem.W.fnOf "_law_items" "_law_items" (z0n st_g) (z0l st_g) (z0d st_g) .none kV_g dc_g pm_g an_g cd_g ct_g),sl_g⟩) (c1_g:PySem.W.codeIn K cd_g "_law_items"=true) (k1_g:PySem.W.keepIn K (.ref a_g)=true)
 (a1_t:PySem.W.nsIn K mainGlobals "_law_idle"=some (some (.ref a_t))) (l1_t:K.lookup a_t=some ⟨oc_t,od_t,.func (PySem.W.fnOf "_law_idle" "_law_idle" (z0n st_t) (z0l st_t) (z0d st_t) .none kV_t dc_t pm_t an_t cd_t ct_t),sl_t⟩) (c1_t:PySem.W.codeIn K cd_t "_law_idle"=true) (k1_t:PySem.W.keepIn K (.ref a_t)=true)
 (a1_d:PySem.W.nsIn K mainGlobals "_law_joined"=some (some (.ref a_d))) (l1_d:K.lookup a_d=some ⟨oc_d,od_d,.func (PySem.W.fnOf "_law_joined" "_law_joined" (z0n st_d) (z0l st_d) (z0d st_d) .none kV_d dc_d pm_d an_d cd_d ct_d),sl_d⟩) (c1_d:PySem.W.codeIn K cd_d "_law_joined"=true) (k1_d:PySem.W.keepIn K (.ref a_d)=true)
 (a1_j:PySem.W.nsIn K mainGlobals "_law_times"=some (some (.ref a_j))) (l1_j:K.lookup a_j=some ⟨oc_j,od_j,.func (PySem.W.fnOf "_law_times" "_law_times" (z0n st_j) (z0l st_j) (z0d st_j) .none kV_j dc_j pm_j an_j cd_j ct_j),sl_j⟩) (c1_j:PySem.W.codeIn K cd_j "_law_times"=true) (k1_j:PySem.W.keepIn K (.ref a_j)=true)
 (a1_s:PySem.W.nsIn K mainGlobals "_law_made"=some (some (.ref a_s))) (l1_s:K.lookup a_s=some ⟨oc_s,od_s,.func (PySem.W.fnOf "_law_made" "_law_made" (z0n st_s) (z0l st_s) (z0d st_s) .none kV_s dc_s pm_s an_s cd_s ct_s),sl_s⟩) (c1_s:PySem.W.codeIn K cd_s "_law_made"=true) (k1_s:PySem.W.keepIn K (.ref a_s)=true)
 (a1_e:PySem.W.nsIn K mainGlobals "_law_number"=some (some (.ref a_e))) (l1_e:K.lookup a_e=some ⟨oc_e,od_e,.func (PySem.W.fnOf "_law_number" "_law_number" (z0n st_e) (z0l st_e) (z0d st_e) .none kV_e dc_e pm_e an_e cd_e ct_e),sl_e⟩) (c1_e:PySem.W.codeIn K cd_e "_law_number"=true) (k1_e:PySem.W.keepIn K (.ref a_e)=true)
 (a1_n:PySem.W.nsIn K mainGlobals "_law_prime"=some (some (.ref a_n))) (l1_n:K.lookup a_n=some ⟨oc_n,od_n,.func (PySem.W.fnOf "_law_prime" "_law_prime" (z0n st_n) (z0l st_n) (z0d st_n) .none kV_n dc_n pm_n an_n cd_n ct_n),sl_n⟩) (c1_n:PySem.W.codeIn K cd_n "_law_prime"=true) (k1_n:PySem.W.keepIn K (.ref a_n)=true)
 (a1_C:PySem.W.nsIn K mainGlobals "one_at"=some (some (.ref a_C))) (l1_C:K.lookup a_C=some ⟨oc_C,od_C,.func (PySem.W.fnOf "one_at" "one_at" (z0n st_C) (z0l st_C) (z0d st_C) .none kV_C dc_C pm_C an_C cd_C ct_C),sl_C⟩) (c1_C:PySem.W.codeIn K cd_C "one_at"=true) (k1_C:PySem.W.keepIn K (.ref a_C)=true)
 (a1_I:PySem.W.nsIn K mainGlobals "idle"=some (some (.ref a_I))) (l1_I:K.lookup a_I=some ⟨oc_I,od_idle,.func (PySem.W.fnOf "idle" "idle" (z0n st_I) (z0l st_I) (z0d st_I) .none kV_I dc_I pm_I an_I cd_I ct_I),sl_I⟩) (c1_I:PySem.W.codeIn K cd_I "idle"=true) (k1_I:PySem.W.keepIn K (.ref a_I)=true)
 (a1_l:PySem.W.nsIn K mainGlobals "column_sum"=some (some (.ref a_l))) (l1_l:K.lookup a_l=some ⟨oc_l,od_l,.func (PySem.W.fnOf "column_sum" "column_sum" (z0n st_l) (z0l st_l) (z0d st_l) .none kV_l dc_l pm_l an_l cd_l ct_l),sl_l⟩) (c1_l:PySem.W.codeIn K cd_l "column_sum"=true) (k1_l:PySem.W.keepIn K (.ref a_l)=true)
 (a1_on:PySem.W.nsIn K mainGlobals "on"=some (some (.ref a_on))) (l1_on:K.lookup a_on=some ⟨oc_on,od_on,.func (PySem.W.fnOf "on" "on" (z0n y6r) (z0l y6r) (z0d y6r) .none kV_on dc_on pm_on an_on cd_on ct_on),sl_on⟩) (c1_on:PySem.W.codeIn K cd_on "on"=true) (k1_on:PySem.W.keepIn K (.ref a_on)=true)
 (a1_m:PySem.W.nsIn K mainGlobals "form_ahead"=some (some (.ref a_m))) (l1_m:K.lookup a_m=some ⟨oc_m,od_m,.func (PySem.W.fnOf "form_ahead" "form_ahead" (z0n st_m) (z0l st_m) (z0d st_m) .none kV_m dc_m pm_m an_m cd_m ct_m),sl_m⟩) (c1_m:PySem.W.codeIn K cd_m "form_ahead"=true) (k1_m:PySem.W.keepIn K (.ref a_m)=true)
 (a1_J:PySem.W.nsIn K mainGlobals "then"=some (some (.ref a_J))) (l1_J:K.lookup a_J=some ⟨oc_J,od_J,.func (PySem.W.fnOf "then" "then" (z0n st_J) (z0l st_J) (z0d st_J) .none kV_J dc_J pm_J an_J cd_J ct_J),sl_J⟩) (c1_J:PySem.W.codeIn K cd_J "then"=true) (k1_J:PySem.W.keepIn K (.ref a_J)=true)
 (a1_E:PySem.W.nsIn K mainGlobals "ladder"=some (some (.ref a_E))) (l1_E:K.lookup a_E=some ⟨oc_E,od_E,.func (PySem.W.fnOf "ladder" "ladder" (z0n st_E) (z0l st_E) (z0d st_E) .none kV_E dc_E pm_E an_E cd_E ct_E),sl_E⟩) (c1_E:PySem.W.codeIn K cd_E "ladder"=true) (k1_E:PySem.W.keepIn K (.ref a_E)=true)
 (a1_r:PySem.W.nsIn K mainGlobals "rungs_for"=some (some (.ref a_r))) (l1_r:K.lookup a_r=some ⟨oc_r,od_r,.func (PySem.W.fnOf "rungs_for" "rungs_for" (z0n st_r) (z0l st_r) (z0d st_r) .none kV_r dc_r pm_r an_r cd_r ct_r),sl_r⟩) (c1_r:PySem.W.codeIn K cd_r "rungs_for"=true) (k1_r:PySem.W.keepIn K (.ref a_r)=true)
 (a1_D:PySem.W.nsIn K mainGlobals "rounds"=some (some (.ref a_D))) (l1_D:K.lookup a_D=some ⟨oc_D,od_D,.func (PySem.W.fnOf "rounds" "rounds" (z0n st_D) (z0l st_D) (z0d st_D) .none kV_D dc_D pm_D an_D cd_D ct_D),sl_D⟩) (c1_D:PySem.W.codeIn K cd_D "rounds"=true) (k1_D:PySem.W.keepIn K (.ref a_D)=true)
 (a1_z:PySem.W.nsIn K mainGlobals "setting"=some (some (.ref a_z))) (l1_z:K.lookup a_z=some ⟨oc_z,od_z,.func (PySem.W.fnOf "setting" "setting" (z0n st_z) (z0l st_z) (z0d st_z) .none kV_z dc_z pm_z an_z cd_z ct_z),sl_z⟩) (c1_z:PySem.W.codeIn K cd_z "setting"=true) (k1_z:PySem.W.keepIn K (.ref a_z)=true)
 (a1_v:PySem.W.nsIn K mainGlobals "table_of"=some (some (.ref a_v))) (l1_v:K.lookup a_v=some ⟨oc_v,od_v,.func (PySem.W.fnOf "table_of" "table_of" (z0n st_v) (z0l st_v) (z0d st_v) .none kV_v dc_v pm_v an_v cd_v ct_v),sl_v⟩) (c1_v:PySem.W.codeIn K cd_v "table_of"=true) (k1_v:PySem.W.keepIn K (.ref a_v)=true)
 (a1_a:PySem.W.nsIn K mainGlobals "table_of_item"=some (some (.ref a_a))) (l1_a:K.lookup a_a=some ⟨oc_a,od_a,.func (PySem.W.fnOf "table_of_item" "table_of_item" (z0n st_a) (z0l st_a) (z0d st_a) .none kV_a dc_a pm_a an_a cd_a ct_a),sl_a⟩) (c1_a:PySem.W.codeIn K cd_a "table_of_item"=true) (k1_a:PySem.W.keepIn K (.ref a_a)=true)
 (a1_G:PySem.W.nsIn K mainGlobals "worth"=some (some (.ref a_G))) (l1_G:K.lookup a_G=some ⟨oc_G,od_G,.func (PySem.W.fnOf "worth" "worth" (z0n st_G) (z0l st_G) (z0d st_G) .none kV_G dc_G pm_G an_G cd_G ct_G),sl_G⟩) (c1_G:PySem.W.codeIn K cd_G "worth"=true) (k1_G:PySem.W.keepIn K (.ref a_G)=true)
 (a1_B:PySem.W.nsIn K mainGlobals "turned"=some (some (.ref a_B))) (l1_B:K.lookup a_B=some ⟨oc_B,od_B,.func (PySem.W.fnOf "turned" "turned" (z0n st_B) (z0l st_B) (z0d st_B) .none kV_B dc_B pm_B an_B cd_B ct_B),sl_B⟩) (c1_B:PySem.W.codeIn K cd_B "turned"=true) (k1_B:PySem.W.keepIn K (.ref a_B)=true)
 (a1_H:PySem.W.nsIn K mainGlobals "after"=some (some (.ref a_H))) (l1_H:K.lookup a_H=some ⟨oc_H,od_H,.func (PySem.W.fnOf "after" "after" (z0n st_H) (z0l st_H) (z0d st_H) .none kV_H dc_H pm_H an_H cd_H ct_H),sl_H⟩) (c1_H:PySem.W.codeIn K cd_H "after"=true) (k1_H:PySem.W.keepIn K (.ref a_H)=true)
 (a1_x:PySem.W.nsIn K mainGlobals "is_whole"=some (some (.ref a_x))) (l1_x:K.lookup a_x=some ⟨oc_x,od_x,.func (PySem.W.fnOf "is_whole" "is_whole" (z0n st_x) (z0l st_x) (z0d st_x) .none kV_x dc_x pm_x an_x cd_x ct_x),sl_x⟩) (c1_x:PySem.W.codeIn K cd_x "is_whole"=true) (k1_x:PySem.W.keepIn K (.ref a_x)=true)
 (a1_A:PySem.W.nsIn K mainGlobals "is_from"=some (some (.ref a_A))) (l1_A:K.lookup a_A=some ⟨oc_A,od_A,.func (PySem.W.fnOf "is_from" "is_from" (z0n st_A) (z0l st_A) (z0d st_A) .none kV_A dc_A pm_A an_A cd_A ct_A),sl_A⟩) (c1_A:PySem.W.codeIn K cd_A "is_from"=true) (k1_A:PySem.W.keepIn K (.ref a_A)=true)
 (a1_b:PySem.W.nsIn K mainGlobals "items_counted"=some (some (.ref a_b))) (l1_b:K.lookup a_b=some ⟨oc_b,od_b,.func (PySem.W.fnOf "items_counted" "items_counted" (z0n st_b) (z0l st_b) (z0d st_b) .none kV_b dc_b pm_b an_b cd_b ct_b),sl_b⟩) (c1_b:PySem.W.codeIn K cd_b "items_counted"=true) (k1_b:PySem.W.keepIn K (.ref a_b)=true)
 (a1_u:PySem.W.nsIn K mainGlobals "made_set"=some (some (.ref a_u))) (l1_u:K.lookup a_u=some ⟨oc_u,od_u,.func (PySem.W.fnOf "made_set" "made_set" (z0n st_u) (z0l st_u) (z0d st_u) .none kV_u dc_u pm_u an_u cd_u ct_u),sl_u⟩) (c1_u:PySem.W.codeIn K cd_u "made_set"=true) (k1_u:PySem.W.keepIn K (.ref a_u)=true)
 (a1_k:PySem.W.nsIn K mainGlobals "made_again"=some (some (.ref a_k))) (l1_k:K.lookup a_k=some ⟨oc_k,od_k,.func (PySem.W.fnOf "made_again" "made_again" (z0n st_k) (z0l st_k) (z0d st_k) .none kV_k dc_k pm_k an_k cd_k ct_k),sl_k⟩) (c1_k:PySem.W.codeIn K cd_k "made_again"=true) (k1_k:PySem.W.keepIn K (.ref a_k)=true)
 (a1_o:PySem.W.nsIn K mainGlobals "made_item"=some (some (.ref a_o))) (l1_o:K.lookup a_o=some ⟨oc_o,od_o,.func (PySem.W.fnOf "made_item" "made_item" (z0n st_o) (z0l st_o) (z0d st_o) .none kV_o dc_o pm_o an_o cd_o ct_o),sl_o⟩) (c1_o:PySem.W.codeIn K cd_o "made_item"=true) (k1_o:PySem.W.keepIn K (.ref a_o)=true)
 (a1_h:PySem.W.nsIn K mainGlobals "made_items"=some (some (.ref a_h))) (l1_h:K.lookup a_h=some ⟨oc_h,od_h,.func (PySem.W.fnOf "made_items" "made_items" (z0n st_h) (z0l st_h) (z0d st_h) .none kV_h dc_h pm_h an_h cd_h ct_h),sl_h⟩) (c1_h:PySem.W.codeIn K cd_h "made_items"=true) (k1_h:PySem.W.keepIn K (.ref a_h)=true)
 (a1_c:PySem.W.nsIn K mainGlobals "least_divisor"=some (some (.ref a_c))) (l1_c:K.lookup a_c=some ⟨oc_c,od_c,.func (PySem.W.fnOf "least_divisor" "least_divisor" (z0n st_c) (z0l st_c) (z0d st_c) .none kV_c dc_c pm_c an_c cd_c ct_c),sl_c⟩) (c1_c:PySem.W.codeIn K cd_c "least_divisor"=true) (k1_c:PySem.W.keepIn K (.ref a_c)=true)
 (a1_w:PySem.W.nsIn K mainGlobals "is_prime"=some (some (.ref a_w))) (l1_w:K.lookup a_w=some ⟨oc_w,od_w,.func (PySem.W.fnOf "is_prime" "is_prime" (z0n st_w) (z0l st_w) (z0d st_w) .none kV_w dc_w pm_w an_w cd_w ct_w),sl_w⟩) (c1_w:PySem.W.codeIn K cd_w "is_prime"=true) (k1_w:PySem.W.keepIn K (.ref a_w)=true)
 (a1_F:PySem.W.nsIn K mainGlobals "prime"=some (some (.ref a_F))) (l1_F:K.lookup a_F=some ⟨oc_F,od_F,.func (PySem.W.fnOf "prime" "prime" (z0n st_F) (z0l st_F) (z0d st_F) .none kV_F dc_F pm_F an_F cd_F ct_F),sl_F⟩) (c1_F:PySem.W.codeIn K cd_F "prime"=true) (k1_F:PySem.W.keepIn K (.ref a_F)=true)
 (a1_y:PySem.W.nsIn K mainGlobals "program"=some (some (.ref a_y))) (l1_y:K.lookup a_y=some ⟨oc_y,od_y,.func (PySem.W.fnOf "program" "program" (z0n st_y) (z0l st_y) (z0d st_y) .none kV_y dc_y pm_y an_y cd_y ct_y),sl_y⟩) (c1_y:PySem.W.codeIn K cd_y "program"=true) (k1_y:PySem.W.keepIn K (.ref a_y)=true)
 (a1_law:PySem.W.nsIn K mainGlobals "law"=some (some (.ref a_law))) (l1_law:K.lookup a_law=some ⟨oc_law,od_law,.func (PySem.W.fnOf "law" "law" (z0n z7q) (z0l z7q) (z0d z7q) .none kV_law dc_law pm_law an_law cd_law ct_law),sl_law⟩) (c1_law:PySem.W.codeIn K cd_law "law"=true) (k1_law:PySem.W.keepIn K (.ref a_law)=true)
 (z_abs:PySem.W.nsIn K mainGlobals "abs"=some none)
 (z_any:PySem.W.nsIn K mainGlobals "any"=some none)
 (z_bool:PySem.W.nsIn K mainGlobals "bool"=some none)
 (z_enumerate:PySem.W.nsIn K mainGlobals "enumerate"=some none)
 (z_int:PySem.W.nsIn K mainGlobals "int"=some none)
 (z_isinstance:PySem.W.nsIn K mainGlobals "isinstance"=some none)
 (z_len:PySem.W.nsIn K mainGlobals "len"=some none)
 (z_list:PySem.W.nsIn K mainGlobals "list"=some none)
 (z_range:PySem.W.nsIn K mainGlobals "range"=some none)
 (z_reversed:PySem.W.nsIn K mainGlobals "reversed"=some none)
 (z_sum:PySem.W.nsIn K mainGlobals "sum"=some none)
 (z_tuple:PySem.W.nsIn K mainGlobals "tuple"=some none)
 (z_zip:PySem.W.nsIn K mainGlobals "zip"=some none)
 {t_GREATEST_PRIME:Tok} (z_GREATEST_PRIME:PySem.W.nsIn K mainGlobals "GREATEST_PRIME"=some (some (.int 9999 t_GREATEST_PRIME)))
 {t_LEAST_PRIME:Tok} (z_LEAST_PRIME:PySem.W.nsIn K mainGlobals "LEAST_PRIME"=some (some (.int 3 t_LEAST_PRIME)))
 {t_MOST_BOXES:Tok} (z_MOST_BOXES:PySem.W.nsIn K mainGlobals "MOST_BOXES"=some (some (.int 3 t_MOST_BOXES)))
 {t_MOST_DEEP:Tok} (z_MOST_DEEP:PySem.W.nsIn K mainGlobals "MOST_DEEP"=some (some (.int 3 t_MOST_DEEP)))
 {t_MOST_ITEMS:Tok} (z_MOST_ITEMS:PySem.W.nsIn K mainGlobals "MOST_ITEMS"=some (some (.int 30 t_MOST_ITEMS)))
 {a_NoPrime:Addr} {cdx_NoPrime:ClassData}
 {a_NoProgram:Addr} {cdx_NoProgram:ClassData}
 {a_LongError:Addr} {cdx_LongError:ClassData}
 (a1_NoPrime:PySem.W.nsIn K mainGlobals "NoPrime"=some (some (.ref a_NoPrime)))
 (a1_NoProgram:PySem.W.nsIn K mainGlobals "NoProgram"=some (some (.ref a_NoProgram)))
 (a1_LongError:PySem.W.nsIn K mainGlobals "LongError"=some (some (.ref a_LongError)))
 (xa_NoPrime:PySem.W.findIn K (.ref a_NoPrime) "__getattribute__"=some (some (.builtin "BaseException.__getattribute__")))
 (xb_NoPrime:PySem.W.findIn K (.ref a_NoPrime) "__getattr__"=some none)
 (xc_NoPrime:PySem.W.findIn K (.ref a_NoPrime) "__class__"=some (some (.builtin "object.__class__")))
 (xd_NoPrime:PySem.W.mroIn K a_NoPrime (.type "object")=some true)
 (xe_NoPrime:PySem.W.mroIn K a_NoPrime (.type "BaseException")=some true)
 (xf_NoPrime:PySem.W.typeIn K (.ref a_NoPrime)=some (.type "type"))
 (xg_NoPrime:PySem.W.clsIn K a_NoPrime=some cdx_NoPrime)
 (xa_NoProgram:PySem.W.findIn K (.ref a_NoProgram) "__getattribute__"=some (some (.builtin "BaseException.__getattribute__")))
 (xb_NoProgram:PySem.W.findIn K (.ref a_NoProgram) "__getattr__"=some none)
 (xc_NoProgram:PySem.W.findIn K (.ref a_NoProgram) "__class__"=some (some (.builtin "object.__class__")))
 (xd_NoProgram:PySem.W.mroIn K a_NoProgram (.type "object")=some true)
 (xe_NoProgram:PySem.W.mroIn K a_NoProgram (.type "BaseException")=some true)
 (xf_NoProgram:PySem.W.typeIn K (.ref a_NoProgram)=some (.type "type"))
 (xg_NoProgram:PySem.W.clsIn K a_NoProgram=some cdx_NoProgram)
 (xa_LongError:PySem.W.findIn K (.ref a_LongError) "__getattribute__"=some (some (.builtin "BaseException.__getattribute__")))
 (xb_LongError:PySem.W.findIn K (.ref a_LongError) "__getattr__"=some none)
 (xc_LongError:PySem.W.findIn K (.ref a_LongError) "__class__"=some (some (.builtin "object.__class__")))
 (xd_LongError:PySem.W.mroIn K a_LongError (.type "object")=some true)
 (xe_LongError:PySem.W.mroIn K a_LongError (.type "BaseException")=some true)
 (xf_LongError:PySem.W.typeIn K (.ref a_LongError)=some (.type "type"))
 (xg_LongError:PySem.W.clsIn K a_LongError=some cdx_LongError)
 (zg_NoNumber:PySem.W.nsIn K mainGlobals "NoNumber"=some none)
 (zg_TooLong:PySem.W.nsIn K mainGlobals "TooLong"=some none)
 (zg_Lossy:PySem.W.nsIn K mainGlobals "Lossy"=some none)
 (zg_NoText:PySem.W.nsIn K mainGlobals "NoText"=some none)
 (ex_NoPrime:PySem.W.excIn K a_NoPrime [.type "ValueError",.type "Exception",.type "BaseException",.type "object"] "ValueError.__new__"=true)
 (ex_NoProgram:PySem.W.excIn K a_NoProgram [.type "ValueError",.type "Exception",.type "BaseException",.type "object"] "ValueError.__new__"=true)
 : ∃fd:FuncData,(∀(s:Shared) (v:Value),BindsTo s fd ⟨[v],[]⟩ [("script",v)])/\∀base:Heap,K.In base->base.Ns mainGlobals mg->FnOk l.prog w K mg base (CXE l.prog w) 19 fa fd ["script"] (spN c_law K):=by
 have e:=hfa.symm.trans (PySem.W.mg_of X G a1_law)
 cases e
 have U_q:=z0x (st:=st_q) l1_q c1_q k1_q
 have b_q:=U_q.binds (ps:=["script","k"]) fun _ _ _ _ _ _=>y9m fun _ _=>rfl
 have m_q:=PySem.W.mg_of X G a1_q
 have U_f:=z0x (st:=st_f) l1_f c1_f k1_f
 have b_f:=U_f.binds (ps:=["cell","P","size"]) fun _ _ _ _ _ _=>z6g fun _ _ _=>rfl
 have m_f:=PySem.W.mg_of X G a1_f
 have U_i:=z0x (st:=st_i) l1_i c1_i k1_i
 have b_i:=U_i.binds (ps:=["number"]) fun _ _ _ _ _ _=>y0v fun _=>rfl
 have m_i:=PySem.W.mg_of X G a1_i
 have U_p:=z0x (st:=st_p) l1_p c1_p k1_p
 have b_p:=U_p.binds (ps:=["number","P","size"]) fun _ _ _ _ _ _=>z6g fun _ _ _=>rfl
 have m_p:=PySem.W.mg_of X G a1_p
 have U_g:=z0x (st:=st_g) l1_g c1_g k1_g
 have b_g:=U_g.binds (ps:=["number","P","many"]) fun _ _ _ _ _ _=>z6g fun _ _ _=>rfl
 have m_g:=PySem.W.mg_of X G a1_g
 have U_t:=z0x (st:=st_t) l1_t c1_t k1_t
 have b_t:=U_t.binds (ps:=["many"]) fun _ _ _ _ _ _=>y0v fun _=>rfl
 have m_t:=PySem.W.mg_of X G a1_t
 have U_d:=z0x (st:=st_d) l1_d c1_d k1_d
 have b_d:=U_d.binds (ps:=["P","one","other"]) fun _ _ _ _ _ _=>z6g fun _ _ _=>rfl
 have m_d:=PySem.W.mg_of X G a1_d
 have U_j:=z0x (st:=st_j) l1_j c1_j k1_j
 have b_j:=U_j.binds (ps:=["P","table","n"]) fun _ _ _ _ _ _=>z6g fun _ _ _=>rfl
 have m_j:=PySem.W.mg_of X G a1_j
 have U_s:=z0x (st:=st_s) l1_s c1_s k1_s
 have b_s:=U_s.binds (ps:=["P","many","items"]) fun _ _ _ _ _ _=>z6g fun _ _ _=>rfl
 have m_s:=PySem.W.mg_of X G a1_s
 have U_e:=z0x (st:=st_e) l1_e c1_e k1_e
 have b_e:=U_e.binds (ps:=["script"]) fun _ _ _ _ _ _=>y0v fun _=>rfl
 have m_e:=PySem.W.mg_of X G a1_e
 have U_n:=z0x (st:=st_n) l1_n c1_n k1_n
 have b_n:=U_n.binds (ps:=["cell"]) fun _ _ _ _ _ _=>y0v fun _=>rfl
 have m_n:=PySem.W.mg_of X G a1_n
 have U_C:=z0x (st:=st_C) l1_C c1_C k1_C
 have b_C:=U_C.binds (ps:=["width","place"]) fun _ _ _ _ _ _=>y9m fun _ _=>rfl
 have m_C:=PySem.W.mg_of X G a1_C
 have U_I:=z0x (st:=st_I) l1_I c1_I k1_I
 have b_I:=U_I.binds (ps:=["many"]) fun _ _ _ _ _ _=>y0v fun _=>rfl
 have m_I:=PySem.W.mg_of X G a1_I
 have U_l:=z0x (st:=st_l) l1_l c1_l k1_l
 have b_l:=U_l.binds (ps:=["form","table","place"]) fun _ _ _ _ _ _=>z6g fun _ _ _=>rfl
 have m_l:=PySem.W.mg_of X G a1_l
 have U_on:=z0x (st:=y6r) l1_on c1_on k1_on
 have b_on:=U_on.binds (ps:=["P","n"]) fun _ _ _ _ _ _=>y9m fun _ _=>rfl
 have m_on:=PySem.W.mg_of X G a1_on
 have U_m:=z0x (st:=st_m) l1_m c1_m k1_m
 have b_m:=U_m.binds (ps:=["P","table","form"]) fun _ _ _ _ _ _=>z6g fun _ _ _=>rfl
 have m_m:=PySem.W.mg_of X G a1_m
 have U_J:=z0x (st:=st_J) l1_J c1_J k1_J
 have b_J:=U_J.binds (ps:=["P","one","other"]) fun _ _ _ _ _ _=>z6g fun _ _ _=>rfl
 have m_J:=PySem.W.mg_of X G a1_J
 have U_E:=z0x (st:=st_E) l1_E c1_E k1_E
 have b_E:=U_E.binds (ps:=["P","table","n"]) fun _ _ _ _ _ _=>z6g fun _ _ _=>rfl
 have m_E:=PySem.W.mg_of X G a1_E
 have U_r:=z0x (st:=st_r) l1_r c1_r k1_r
 have b_r:=U_r.binds (ps:=["rungs","n"]) fun _ _ _ _ _ _=>y9m fun _ _=>rfl
 have m_r:=PySem.W.mg_of X G a1_r
 have U_D:=z0x (st:=st_D) l1_D c1_D k1_D
 have b_D:=U_D.binds (ps:=["P","table","n"]) fun _ _ _ _ _ _=>z6g fun _ _ _=>rfl
 have m_D:=PySem.W.mg_of X G a1_D
 have U_z:=z0x (st:=st_z) l1_z c1_z k1_z
 have b_z:=U_z.binds (ps:=["many","x","form"]) fun _ _ _ _ _ _=>z6g fun _ _ _=>rfl
 have m_z:=PySem.W.mg_of X G a1_z
 have U_v:=z0x (st:=st_v) l1_v c1_v k1_v
 have b_v:=U_v.binds (ps:=["P","many","items"]) fun _ _ _ _ _ _=>z6g fun _ _ _=>rfl
 have m_v:=PySem.W.mg_of X G a1_v
 have U_a:=z0x (st:=st_a) l1_a c1_a k1_a
 have b_a:=U_a.binds (ps:=["P","many","item"]) fun _ _ _ _ _ _=>z6g fun _ _ _=>rfl
 have m_a:=PySem.W.mg_of X G a1_a
 have U_G:=z0x (st:=st_G) l1_G c1_G k1_G
 have b_G:=U_G.binds (ps:=["P","form","stand"]) fun _ _ _ _ _ _=>z6g fun _ _ _=>rfl
 have m_G:=PySem.W.mg_of X G a1_G
 have U_B:=z0x (st:=st_B) l1_B c1_B k1_B
 have b_B:=U_B.binds (ps:=["P","table","stand"]) fun _ _ _ _ _ _=>z6g fun _ _ _=>rfl
 have m_B:=PySem.W.mg_of X G a1_B
 have U_H:=z0x (st:=st_H) l1_H c1_H k1_H
 have b_H:=U_H.binds (ps:=["P","many","items","n","stand"]) fun _ _ _ _ _ _=>x6y fun _ _ _ _ _=>rfl
 have m_H:=PySem.W.mg_of X G a1_H
 have U_x:=z0x (st:=st_x) l1_x c1_x k1_x
 have b_x:=U_x.binds (ps:=["thing"]) fun _ _ _ _ _ _=>y0v fun _=>rfl
 have m_x:=PySem.W.mg_of X G a1_x
 have U_A:=z0x (st:=st_A) l1_A c1_A k1_A
 have b_A:=U_A.binds (ps:=["thing","least","most"]) fun _ _ _ _ _ _=>z6g fun _ _ _=>rfl
 have m_A:=PySem.W.mg_of X G a1_A
 have U_b:=z0x (st:=st_b) l1_b c1_b k1_b
 have b_b:=U_b.binds (ps:=["items","ahead"]) fun _ _ _ _ _ _=>y9m fun _ _=>rfl
 have m_b:=PySem.W.mg_of X G a1_b
 have U_u:=z0x (st:=st_u) l1_u c1_u k1_u
 have b_u:=U_u.binds (ps:=["P","many","x","form"]) fun _ _ _ _ _ _=>x4q fun _ _ _ _=>rfl
 have m_u:=PySem.W.mg_of X G a1_u
 have U_k:=z0x (st:=st_k) l1_k c1_k k1_k
 have b_k:=U_k.binds (ps:=["P","many","n","items","around"]) fun _ _ _ _ _ _=>x6y fun _ _ _ _ _=>rfl
 have m_k:=PySem.W.mg_of X G a1_k
 have U_o:=z0x (st:=st_o) l1_o c1_o k1_o
 have b_o:=U_o.binds (ps:=["P","many","item","around"]) fun _ _ _ _ _ _=>x4q fun _ _ _ _=>rfl
 have m_o:=PySem.W.mg_of X G a1_o
 have U_h:=z0x (st:=st_h) l1_h c1_h k1_h
 have b_h:=U_h.binds (ps:=["P","many","items","around"]) fun _ _ _ _ _ _=>x4q fun _ _ _ _=>rfl
 have m_h:=PySem.W.mg_of X G a1_h
 have U_c:=z0x (st:=st_c) l1_c c1_c k1_c
 have b_c:=U_c.binds (ps:=["n"]) fun _ _ _ _ _ _=>y0v fun _=>rfl
 have m_c:=PySem.W.mg_of X G a1_c
 have U_w:=z0x (st:=st_w) l1_w c1_w k1_w
 have b_w:=U_w.binds (ps:=["thing"]) fun _ _ _ _ _ _=>y0v fun _=>rfl
 have m_w:=PySem.W.mg_of X G a1_w
 have U_F:=z0x (st:=st_F) l1_F c1_F k1_F
 have b_F:=U_F.binds (ps:=["thing"]) fun _ _ _ _ _ _=>y0v fun _=>rfl
 have m_F:=PySem.W.mg_of X G a1_F
 have U_y:=z0x (st:=st_y) l1_y c1_y k1_y
 have b_y:=U_y.binds (ps:=["P","many","items"]) fun _ _ _ _ _ _=>z6g fun _ _ _=>rfl
 have m_y:=PySem.W.mg_of X G a1_y
 have U_law:=z0x (st:=z7q) l1_law c1_law k1_law
 have b_law:=U_law.binds (ps:=["script"]) fun _ _ _ _ _ _=>y0v fun _=>rfl
 have m_law:=PySem.W.mg_of X G a1_law
 have m_abs:=PySem.W.mg_none_of X G z_abs
 have m_any:=PySem.W.mg_none_of X G z_any
 have m_bool:=PySem.W.mg_none_of X G z_bool
 have m_enumerate:=PySem.W.mg_none_of X G z_enumerate
 have m_int:=PySem.W.mg_none_of X G z_int
 have m_isinstance:=PySem.W.mg_none_of X G z_isinstance
 have m_len:=PySem.W.mg_none_of X G z_len
 have m_list:=PySem.W.mg_none_of X G z_list
 have m_range:=PySem.W.mg_none_of X G z_range
 have m_reversed:=PySem.W.mg_none_of X G z_reversed
 have m_sum:=PySem.W.mg_none_of X G z_sum
 have m_tuple:=PySem.W.mg_none_of X G z_tuple
 have m_zip:=PySem.W.mg_none_of X G z_zip
 have m_NoPrime:=PySem.W.mg_of X G a1_NoPrime
 have cl_NoPrime:XCls K a_NoPrime:=⟨xa_NoPrime,xb_NoPrime,xc_NoPrime,xd_NoPrime,xe_NoPrime,xf_NoPrime,by rw[xg_NoPrime];rfl⟩
 have m_NoProgram:=PySem.W.mg_of X G a1_NoProgram
 have cl_NoProgram:XCls K a_NoProgram:=⟨xa_NoProgram,xb_NoProgram,xc_NoProgram,xd_NoProgram,xe_NoProgram,xf_NoProgram,by rw[xg_NoProgram];rfl⟩
 have m_LongError:=PySem.W.mg_of X G a1_LongError
 have cl_LongError:XCls K a_LongError:=⟨xa_LongError,xb_LongError,xc_LongError,xd_LongError,xe_LongError,xf_LongError,by rw[xg_LongError];rfl⟩
 have X_NoPrime:XOk K mg .noPrime a_NoPrime:=⟨a1_NoPrime,m_NoPrime,ex_NoPrime⟩
 have X_NoProgram:XOk K mg .noProgram a_NoProgram:=⟨a1_NoProgram,m_NoProgram,ex_NoProgram⟩
 have m_GREATEST_PRIME:=PySem.W.mg_of X G z_GREATEST_PRIME
 have m_LEAST_PRIME:=PySem.W.mg_of X G z_LEAST_PRIME
 have m_MOST_BOXES:=PySem.W.mg_of X G z_MOST_BOXES
 have m_MOST_DEEP:=PySem.W.mg_of X G z_MOST_DEEP
 have m_MOST_ITEMS:=PySem.W.mg_of X G z_MOST_ITEMS
 refine⟨PySem.W.fnOf "law" "law" (z0n z7q) (z0l z7q) (z0d z7q) .none kV_law dc_law pm_law an_law cd_law ct_law,fun s v=>.of_eq rfl,fun base _ _=>?_⟩
 have G_q:=f_q (P:=l.prog) (w:=w) (mg:=mg) (base:=base) U_q b_q m_len
 have G_f:=f_f (P:=l.prog) (w:=w) (mg:=mg) (base:=base) U_f b_f m_range m_tuple
 have G_i:=f_i (P:=l.prog) (w:=w) (mg:=mg) (base:=base) U_i b_i
 have G_p:=f_p (P:=l.prog) (w:=w) (mg:=mg) (base:=base) U_p b_p m_range
 have G_g:=f_g (P:=l.prog) (w:=w) (mg:=mg) (base:=base) U_g b_g G_i m_i G_f m_f G_p m_p m_int m_len m_range m_tuple
 have G_t:=f_t (P:=l.prog) (w:=w) (mg:=mg) (base:=base) U_t b_t m_range m_tuple
 have G_d:=f_d (P:=l.prog) (w:=w) (mg:=mg) (base:=base) U_d b_d m_len m_range m_tuple m_zip
 have G_j:=f_j (P:=l.prog) (w:=w) (mg:=mg) (base:=base) U_j b_j G_t m_t G_d m_d m_len m_reversed
 have A_s:=f_s (P:=l.prog) (w:=w) (mg:=mg) (base:=base) U_s b_s m_s G_t m_t G_d m_d G_j m_j
 have G_s:=(A_s 12)
 have G_e:=f_e (P:=l.prog) (w:=w) (mg:=mg) (base:=base) U_e b_e G_q m_q m_abs
 have G_n:=f_n (P:=l.prog) (w:=w) (mg:=mg) (base:=base) U_n b_n m_any m_range
 have G_C:=f_C (P:=l.prog) (w:=w) (mg:=mg) (base:=base) U_C b_C m_range m_tuple
 have G_I:=f_I (P:=l.prog) (w:=w) (mg:=mg) (base:=base) U_I b_I G_C m_C m_range m_tuple
 have G_l:=f_l (P:=l.prog) (w:=w) (mg:=mg) (base:=base) U_l b_l m_len m_range m_sum
 have G_on:=f_on (P:=l.prog) (w:=w) (mg:=mg) (base:=base) U_on b_on
 have G_m:=f_m (P:=l.prog) (w:=w) (mg:=mg) (base:=base) U_m b_m G_l m_l m_len G_on m_on m_range m_tuple
 have G_J:=f_J (P:=l.prog) (w:=w) (mg:=mg) (base:=base) U_J b_J G_m m_m m_tuple
 have G_E:=f_E (P:=l.prog) (w:=w) (mg:=mg) (base:=base) U_E b_E m_range G_J m_J
 have G_r:=f_r (P:=l.prog) (w:=w) (mg:=mg) (base:=base) U_r b_r m_enumerate
 have G_D:=f_D (P:=l.prog) (w:=w) (mg:=mg) (base:=base) U_D b_D G_I m_I G_E m_E m_len G_r m_r G_J m_J
 have G_z:=f_z (P:=l.prog) (w:=w) (mg:=mg) (base:=base) U_z b_z G_I m_I m_list m_tuple
 have A_v:=f_v (P:=l.prog) (w:=w) (mg:=mg) (base:=base) U_v b_v m_v U_a b_a m_a G_I m_I G_J m_J G_D m_D G_z m_z
 have G_v:=(A_v 12).1
 have G_a:=(A_v 12).2
 have G_G:=f_G (P:=l.prog) (w:=w) (mg:=mg) (base:=base) U_G b_G m_len G_on m_on m_range m_sum
 have G_B:=f_B (P:=l.prog) (w:=w) (mg:=mg) (base:=base) U_B b_B m_tuple G_G m_G
 have G_H:=f_H (P:=l.prog) (w:=w) (mg:=mg) (base:=base) U_H b_H G_D m_D G_v m_v G_B m_B
 have G_x:=f_x (P:=l.prog) (w:=w) (mg:=mg) (base:=base) U_x b_x m_bool m_int m_isinstance
 have G_A:=f_A (P:=l.prog) (w:=w) (mg:=mg) (base:=base) U_A b_A G_x m_x
 have A_b:=f_b (P:=l.prog) (w:=w) (mg:=mg) (base:=base) U_b b_b m_b m_MOST_ITEMS ⟨_,rfl⟩ m_NoProgram X_NoProgram
 have G_b:=(A_b 12)
 have G_u:=f_u (P:=l.prog) (w:=w) (mg:=mg) (base:=base) U_u b_u m_NoProgram G_A m_A m_len G_on m_on m_tuple X_NoProgram
 have A_k:=f_k (P:=l.prog) (w:=w) (mg:=mg) (base:=base) U_k b_k m_k U_o b_o m_o U_h b_h m_h m_MOST_DEEP ⟨_,rfl⟩ m_NoProgram G_A m_A G_u m_u m_tuple X_NoProgram
 have G_k:=(A_k 12).1
 have G_o:=(A_k 12).2.1
 have G_h:=(A_k 12).2.2
 have G_c:=f_c (P:=l.prog) (w:=w) (mg:=mg) (base:=base) U_c b_c
 have G_w:=f_w (P:=l.prog) (w:=w) (mg:=mg) (base:=base) U_w b_w m_GREATEST_PRIME ⟨_,rfl⟩ m_LEAST_PRIME ⟨_,rfl⟩ G_A m_A G_c m_c
 have G_F:=f_F (P:=l.prog) (w:=w) (mg:=mg) (base:=base) U_F b_F m_NoPrime G_w m_w X_NoPrime
 have G_y:=f_y (P:=l.prog) (w:=w) (mg:=mg) (base:=base) U_y b_y m_MOST_BOXES ⟨_,rfl⟩ m_NoProgram G_A m_A G_b m_b G_h m_h G_F m_F X_NoProgram
 have G_law:=x8m (P:=l.prog) (w:=w) (mg:=mg) (base:=base) U_law b_law G_q m_q G_f m_f G_g m_g G_s m_s G_e m_e G_n m_n G_j m_j G_H m_H G_y m_y m_sum G_v m_v m_tuple m_zip
 exact G_law.okN
end Row
open PySem PySem.W PyProof.Rows
set_option maxRecDepth 100000 in
set_option maxHeartbeats 0 in
theorem PySem.Challenge.cw_longrounds_k95_whole_any_program_holds : PySem.Challenge.rw_longrounds_k95_whole_any_program.Holds := by
 w_on;o_law;k_head;(case hw=>w_witness2)
 k_fill
 refine L3.walk_ofL (sp:=L3.spN L3.c_law) (l:=PySem.Challenge.rw_longrounds_k95_whole_any_program) (n:=63) (k:=19) (x:="script") (CX:=fun w=>L3.CXE PySem.Challenge.rw_longrounds_k95_whole_any_program.prog w) rfl (by decide) rfl ⟨rfl,by decide,by decide⟩ (fun w h Y=>PySem.W.kIn_of Y) ?F ?S ?C
 case F =>
  intro w mg fa h KX G hmg
  refine' Row.all_mk KX G hmg ?a1_q ?l1_q ?c1_q ?k1_q ?a1_f ?l1_f ?c1_f ?k1_f ?a1_i ?l1_i ?c1_i ?k1_i ?a1_p ?l1_p ?c1_p ?k1_p ?a1_g ?l1_g ?c1_g ?k1_g ?a1_t ?l1_t ?c1_t ?k1_t ?a1_d ?l1_d ?c1_d ?k1_d ?a1_j ?l1_j ?c1_j ?k1_j ?a1_s ?l1_s ?c1_s ?k1_s ?a1_e ?l1_e ?c1_e ?k1_e ?a1_n ?l1_n ?c1_n ?k1_n ?a1_C ?l1_C ?c1_C ?k1_C ?a1_I ?l1_I ?c1_I ?k1_I ?a1_l ?l1_l ?c1_l ?k1_l ?a1_on ?l1_on ?c1_on ?k1_on ?a1_m ?l1_m ?c1_m ?k1_m ?a1_J ?l1_J ?c1_J ?k1_J ?a1_E ?l1_E ?c1_E ?k1_E ?a1_r ?l1_r ?c1_r ?k1_r ?a1_D ?l1_D ?c1_D ?k1_D ?a1_z ?l1_z ?c1_z ?k1_z ?a1_v ?l1_v ?c1_v ?k1_v ?a1_a ?l1_a ?c1_a ?k1_a ?a1_G ?l1_G ?c1_G ?k1_G ?a1_B ?l1_B ?c1_B ?k1_B ?a1_H ?l1_H ?c1_H ?k1_H ?a1_x ?l1_x ?c1_x ?k1_x ?a1_A ?l1_A ?c1_A ?k1_A ?a1_b ?l1_b ?c1_b ?k1_b ?a1_u ?l1_u ?c1_u ?k1_u ?a1_k ?l1_k ?c1_k ?k1_k ?a1_o ?l1_o ?c1_o ?k1_o ?a1_h ?l1_h ?c1_h ?k1_h ?a1_c ?l1_c ?c1_c ?k1_c ?a1_w ?l1_w ?c1_w ?k1_w ?a1_F ?l1_F ?c1_F ?k1_F ?a1_y ?l1_y ?c1_y ?k1_y ?a1_law ?l1_law ?c1_law ?k1_law ?z_abs ?z_any ?z_bool ?z_enumerate ?z_int ?z_isinstance ?z_len ?z_list ?z_range ?z_reversed ?z_sum ?z_tuple ?z_zip ?z_GREATEST_PRIME ?z_LEAST_PRIME ?z_MOST_BOXES ?z_MOST_DEEP ?z_MOST_ITEMS ?a1_NoPrime ?a1_NoProgram ?a1_LongError ?xa_NoPrime ?xb_NoPrime ?xc_NoPrime ?xd_NoPrime ?xe_NoPrime ?xf_NoPrime ?xg_NoPrime ?xa_NoProgram ?xb_NoProgram ?xc_NoProgram ?xd_NoProgram ?xe_NoProgram ?xf_NoProgram ?xg_NoProgram ?xa_LongError ?xb_LongError ?xc_LongError ?xd_LongError ?xe_LongError ?xf_LongError ?xg_LongError ?zg_NoNumber ?zg_TooLong ?zg_Lossy ?zg_NoText ?ex_NoPrime ?ex_NoProgram
  (case a1_q=>k_is)
  (case l1_q=>k_is)
  (case c1_q=>k_is)
  (case k1_q=>k_is)
  (case a1_f=>k_is)
  (case l1_f=>k_is)
  (case c1_f=>k_is)
  (case k1_f=>k_is)
  (case a1_i=>k_is)
  (case l1_i=>k_is)
  (case c1_i=>k_is)
  (case k1_i=>k_is)
  (case a1_p=>k_is)
  (case l1_p=>k_is)
  (case c1_p=>k_is)
  (case k1_p=>k_is)
  (case a1_g=>k_is)
  (case l1_g=>k_is)
  (case c1_g=>k_is)
  (case k1_g=>k_is)
  (case a1_t=>k_is)
  (case l1_t=>k_is)
  (case c1_t=>k_is)
  (case k1_t=>k_is)
  (case a1_d=>k_is)
  (case l1_d=>k_is)
  (case c1_d=>k_is)
  (case k1_d=>k_is)
  (case a1_j=>k_is)
  (case l1_j=>k_is)
  (case c1_j=>k_is)
  (case k1_j=>k_is)
  (case a1_s=>k_is)
  (case l1_s=>k_is)
  (case c1_s=>k_is)
  (case k1_s=>k_is)
  (case a1_e=>k_is)
  (case l1_e=>k_is)
  (case c1_e=>k_is)
  (case k1_e=>k_is)
  (case a1_n=>k_is)
  (case l1_n=>k_is)
  (case c1_n=>k_is)
  (case k1_n=>k_is)
  (case a1_C=>k_is)
  (case l1_C=>k_is)
  (case c1_C=>k_is)
  (case k1_C=>k_is)
  (case a1_I=>k_is)
  (case l1_I=>k_is)
  (case c1_I=>k_is)
  (case k1_I=>k_is)
  (case a1_l=>k_is)
  (case l1_l=>k_is)
  (case c1_l=>k_is)
  (case k1_l=>k_is)
  (case a1_on=>k_is)
  (case l1_on=>k_is)
  (case c1_on=>k_is)
  (case k1_on=>k_is)
  (case a1_m=>k_is)
  (case l1_m=>k_is)
  (case c1_m=>k_is)
  (case k1_m=>k_is)
  (case a1_J=>k_is)
  (case l1_J=>k_is)
  (case c1_J=>k_is)
  (case k1_J=>k_is)
  (case a1_E=>k_is)
  (case l1_E=>k_is)
  (case c1_E=>k_is)
  (case k1_E=>k_is)
  (case a1_r=>k_is)
  (case l1_r=>k_is)
  (case c1_r=>k_is)
  (case k1_r=>k_is)
  (case a1_D=>k_is)
  (case l1_D=>k_is)
  (case c1_D=>k_is)
  (case k1_D=>k_is)
  (case a1_z=>k_is)
  (case l1_z=>k_is)
  (case c1_z=>k_is)
  (case k1_z=>k_is)
  (case a1_v=>k_is)
  (case l1_v=>k_is)
  (case c1_v=>k_is)
  (case k1_v=>k_is)
  (case a1_a=>k_is)
  (case l1_a=>k_is)
  (case c1_a=>k_is)
  (case k1_a=>k_is)
  (case a1_G=>k_is)
  (case l1_G=>k_is)
  (case c1_G=>k_is)
  (case k1_G=>k_is)
  (case a1_B=>k_is)
  (case l1_B=>k_is)
  (case c1_B=>k_is)
  (case k1_B=>k_is)
  (case a1_H=>k_is)
  (case l1_H=>k_is)
  (case c1_H=>k_is)
  (case k1_H=>k_is)
  (case a1_x=>k_is)
  (case l1_x=>k_is)
  (case c1_x=>k_is)
  (case k1_x=>k_is)
  (case a1_A=>k_is)
  (case l1_A=>k_is)
  (case c1_A=>k_is)
  (case k1_A=>k_is)
  (case a1_b=>k_is)
  (case l1_b=>k_is)
  (case c1_b=>k_is)
  (case k1_b=>k_is)
  (case a1_u=>k_is)
  (case l1_u=>k_is)
  (case c1_u=>k_is)
  (case k1_u=>k_is)
  (case a1_k=>k_is)
  (case l1_k=>k_is)
  (case c1_k=>k_is)
  (case k1_k=>k_is)
  (case a1_o=>k_is)
  (case l1_o=>k_is)
  (case c1_o=>k_is)
  (case k1_o=>k_is)
  (case a1_h=>k_is)
  (case l1_h=>k_is)
  (case c1_h=>k_is)
  (case k1_h=>k_is)
  (case a1_c=>k_is)
  (case l1_c=>k_is)
  (case c1_c=>k_is)
  (case k1_c=>k_is)
  (case a1_w=>k_is)
  (case l1_w=>k_is)
  (case c1_w=>k_is)
  (case k1_w=>k_is)
  (case a1_F=>k_is)
  (case l1_F=>k_is)
  (case c1_F=>k_is)
  (case k1_F=>k_is)
  (case a1_y=>k_is)
  (case l1_y=>k_is)
  (case c1_y=>k_is)
  (case k1_y=>k_is)
  (case a1_law=>k_is)
  (case l1_law=>k_is)
  (case c1_law=>k_is)
  (case k1_law=>k_is)
  (case z_abs=>k_is)
  (case z_any=>k_is)
  (case z_bool=>k_is)
  (case z_enumerate=>k_is)
  (case z_int=>k_is)
  (case z_isinstance=>k_is)
  (case z_len=>k_is)
  (case z_list=>k_is)
  (case z_range=>k_is)
  (case z_reversed=>k_is)
  (case z_sum=>k_is)
  (case z_tuple=>k_is)
  (case z_zip=>k_is)
  (case z_GREATEST_PRIME=>k_is)
  (case z_LEAST_PRIME=>k_is)
  (case z_MOST_BOXES=>k_is)
  (case z_MOST_DEEP=>k_is)
  (case z_MOST_ITEMS=>k_is)
  (case a1_NoPrime=>k_is)
  (case a1_NoProgram=>k_is)
  (case a1_LongError=>k_is)
  (case xa_NoPrime=>k_is)
  (case xb_NoPrime=>k_is)
  (case xc_NoPrime=>k_is)
  (case xd_NoPrime=>k_is)
  (case xe_NoPrime=>k_is)
  (case xf_NoPrime=>k_is)
  (case xg_NoPrime=>k_is)
  (case xa_NoProgram=>k_is)
  (case xb_NoProgram=>k_is)
  (case xc_NoProgram=>k_is)
  (case xd_NoProgram=>k_is)
  (case xe_NoProgram=>k_is)
  (case xf_NoProgram=>k_is)
  (case xg_NoProgram=>k_is)
  (case xa_LongError=>k_is)
  (case xb_LongError=>k_is)
  (case xc_LongError=>k_is)
  (case xd_LongError=>k_is)
  (case xe_LongError=>k_is)
  (case xf_LongError=>k_is)
  (case xg_LongError=>k_is)
  (case zg_NoNumber=>k_is)
  (case zg_TooLong=>k_is)
  (case zg_Lossy=>k_is)
  (case zg_NoText=>k_is)
  (case ex_NoPrime=>k_exc)
  (case ex_NoProgram=>k_exc)
 case S=>exact fun K H a ns hl hS=>L3.law_true L3.law_k95 hl hS
 case C=>exact fun w H s e s' h=>L3.cxe_false h


import PyProof.Rows.All
import Wide.All
import OpenK.AllK
import Wide.FinOn
import Lean
import PyProof.EqAt
import PyProof.EqKinds
import PyProof.TupleCall
import PySem.Challenge.RW_longrounds_k72_never_come_to
set_option Elab.async false
set_option linter.all false
set_option maxRecDepth 100000
set_option genSizeOf false
set_option maxHeartbeats 4000000
noncomputable section
namespace L2
open PySem PySem.Spec PyProof.Rows
noncomputable abbrev Key:=Sum Int Str
noncomputable def w5n:Key->Value->Bool
 | .inl k,v=>Value.isInt k v
 | .inr x,v=>Value.isStrOf x v
noncomputable def keyH(w:World):Key->Int
 | .inl k=>hashInt k
 | .inr x=>hashStr w x
theorem z2v:∀{k:Key} {v:Value},w5n k v=true->(∃i t,k=Sum.inl i/\v=Value.int i t)∨(∃x t,k=Sum.inr x/\v=Value.str x t)
 | .inl i,v,h=>by
   obtain⟨t,e⟩:=Value.isInt_shape (k:=i) (v:=v) h
   exact .inl ⟨i,t,rfl,e⟩
 | .inr x,v,h=>by
   obtain⟨t,e⟩:=Value.isStrOf_shape (x:=x) (v:=v) h
   exact .inr ⟨x,t,rfl,e⟩
theorem w5m(a b:Int):decide ((Sum.inl a:Key)=Sum.inl b)=(a==b):=by
 by_cases e:a=b
 ·subst e;simp
 ·have h:¬(Sum.inl a:Key)=Sum.inl b:=fun q=>e (Sum.inl.inj q)
  rw[decide_eq_false h]
  exact(beq_eq_false_iff_ne.mpr e).symm
theorem w5j(a b:Str):decide ((Sum.inr a:Key)=Sum.inr b)=decide (a=b):=by
 by_cases e:a=b
 ·subst e;simp
 ·have h:¬(Sum.inr a:Key)=Sum.inr b:=fun q=>e (Sum.inr.inj q)
  rw[decide_eq_false h,decide_eq_false e]
theorem w5l(a:Int)(b:Str):decide ((Sum.inl a:Key)=Sum.inr b)=false:=decide_eq_false (fun q=>nomatch q)
theorem w5k(a:Str)(b:Int):decide ((Sum.inr a:Key)=Sum.inl b)=false:=decide_eq_false (fun q=>nomatch q)
noncomputable def x5b(prog:Program)(w:World):PySem.KeyKind prog w Key where
 is:=w5n
 hash:=keyH w
 inj:=fun v a b ha hb=>by
  rcases z2v ha with ⟨i,t,rfl,rfl⟩ | ⟨x,t,rfl,rfl⟩
  ·rcases z2v hb with ⟨j,u,rfl,e⟩ | ⟨y,u,rfl,e⟩
   ·injection e with e1 _;rw[e1]
   ·exact nomatch e
  ·rcases z2v hb with ⟨j,u,rfl,e⟩ | ⟨y,u,rfl,e⟩
   ·exact nomatch e
   ·injection e with e1 _;rw[e1]
 byValue:=fun k v h=>by
  rcases z2v h with ⟨i,t,rfl,rfl⟩ | ⟨x,t,rfl,rfl⟩<;>rfl
 pyHash:=fun hv h=>by
  rcases z2v hv with ⟨i,t,rfl,rfl⟩ | ⟨x,t,rfl,rfl⟩
  ·exact wpAny_pyHash_int h
  ·exact wpAny_pyHash_str h
 eqBool:=fun hu hv h=>by
  rcases z2v hu with ⟨i,t,rfl,rfl⟩ | ⟨x,t,rfl,rfl⟩
  ·rcases z2v hv with ⟨j,u,rfl,rfl⟩ | ⟨y,u,rfl,rfl⟩
   ·rw[w5m] at h;exact wpAny_eqBool_int h
   ·rw[w5l] at h;exact SeqAt.EqAt.int_str i t y u _ _ _ _ h
  ·rcases z2v hv with ⟨j,u,rfl,rfl⟩ | ⟨y,u,rfl,rfl⟩
   ·rw[w5k] at h;exact SeqAt.EqAt.str_int x t j u _ _ _ _ h
   ·rw[w5j] at h;exact wpAny_eqBool_str h
 «strs»:=fun k x t v h=>by
  rcases z2v h with ⟨i,u,rfl,e⟩ | ⟨y,u,rfl,e⟩
  ·exact nomatch e
  ·injection e with e1 _
   subst e1
   cases v<;>rfl
end L2
namespace L2
open PySem PySem.Spec PyProof.Rows
inductive V where
 | non | bl (b:Bool) | int (i:Int) | str (x:Str) | byt (b:Array UInt8) | flt (b:UInt64) | ref (a:Addr) | ty (n:String)
 deriving DecidableEq
noncomputable def RelV:V->Value->Prop
 | .non,u=>u=Value.none
 | .bl b,u=>u=Value.bool b
 | .int i,u=>∃t,u=Value.int i t
 | .str x,u=>∃t,u=Value.str x t
 | .byt b,u=>∃t,u=Value.bytes b t
 | .flt b,u=>∃t,u=Value.float b t
 | .ref a,u=>u=Value.ref a
 | .ty n,u=>u=Value.type n
noncomputable abbrev Vals:List V->List Value->Prop:=Paired RelV
theorem Vals.length{xs:List V}{us:List Value}(r:Vals xs us):xs.length=us.length:=Paired.length r
theorem Vals.get:∀{xs:List V} {us:List Value} {i:Nat} {x:V},Vals xs us->xs[i]? = some x->∃u,us[i]? = some u/\RelV x u
 | _,_,_,_,.nil,e=>by simp at e
 | _,_,0,_,.cons r _,e=>by simp at e;subst e;exact⟨_,rfl,r⟩
 | _,_,i+1,x,.cons _ t,e=>by
   obtain⟨u,h1,h2⟩:=Vals.get (i:=i) (x:=x) t (by simpa using e)
   exact⟨u,by simpa using h1,h2⟩
theorem Vals.set{x:V}{u:Value}(r:RelV x u):∀{xs:List V} {us:List Value} (i:Nat),Vals xs us->Vals (xs.set i x) (us.set i u)
 | _,_,_,.nil=>.nil
 | _,_,0,.cons _ t=>.cons r t
 | _,_,i+1,.cons q t=>.cons q (Vals.set r i t)
theorem Vals.append:∀{xs ys:List V} {us ws:List Value},Vals xs us->Vals ys ws->Vals (xs++ys) (us++ws)
 | _,_,_,_,.nil,s=>s
 | _,_,_,_,.cons r t,s=>.cons r (Vals.append t s)
theorem Vals.take:∀{xs:List V} {us:List Value} (n:Nat),Vals xs us->Vals (xs.take n) (us.take n)
 | _,_,0,_=>.nil
 | _,_,_+1,.nil=>.nil
 | _,_,n+1,.cons r t=>.cons r (Vals.take n t)
theorem Vals.drop:∀{xs:List V} {us:List Value} (n:Nat),Vals xs us->Vals (xs.drop n) (us.drop n)
 | _,_,0,r=>r
 | _,_,_+1,.nil=>.nil
 | _,_,n+1,.cons _ t=>Vals.drop n t
noncomputable def RelO:Option V->Option Value->Prop
 | some v,some u=>RelV v u
 | none,none=>True
 | _,_=>False
noncomputable def KV{κ:Type}:List (κ×V)->List (κ×Value)->Prop:=Paired fun(p:κ×V) (q:κ×Value)=>p.1=q.1/\RelV p.2 q.2
noncomputable def kV:Key->V
 | .inl i=>.int i
 | .inr x=>.str x
inductive HO where
 | lst (xs:List V)
 | tup (xs:List V)
 | dK (kvs:List (Key×V)) | dT (kvs:List (List Key×V))
 | set (S:Int->Bool) (n:Nat)
 | ins (C dx:Addr) (fs:List (Str×V))
 | own (x:Addr)
 | xd (fs:List (Str×V))
 | met (f x:Addr)
 | rng (lo hi:Int)
 | frz (o:Obj) (u:HO)
 | tbl (ps:Array Value)
 | ext (φ:Heap->Prop)
noncomputable abbrev Hp:=Addr->Option HO
noncomputable def upd(H:Hp)(a:Addr)(o:HO):Hp:=fun b=>if b=a then some o else H b
theorem z0q{H:Hp}{a:Addr}{o:HO}:upd H a o a=some o:=by unfold upd;rw[if_pos rfl]
theorem z0u{H:Hp}{a b:Addr}{o:HO}(h:b≠a):upd H a o b=H b:=by unfold upd;rw[if_neg h]
theorem z0z{H:Hp}{a b:Addr}{o:HO}(h:H a=some o)(h':H b=none):a≠b:=by
 intro e;subst e;rw[h] at h';cases h'
section
variable (P:Program)(w:World)
noncomputable def z7k(H:Hp)(h:Heap)(a:Addr):HO->Prop
 | .lst xs=>xs.length<=sizeLine/\∃(its:List Value) (n:Nat),Vals xs its/\h.get? a=some { cls:=.type "list",data:=.seq its.toArray n }
 | .tup xs=>xs.length<=sizeLine/\∃its:List Value,Vals xs its/\IsTup h a its.toArray
 | .dK kvs=>kvs.length<=sizeLine/\(a==sysModules)=false/\∃vs,KV kvs vs/\h.DictOf (x5b P w) a vs
 | .dT kvs=>kvs.length<=sizeLine/\(a==sysModules)=false/\∃xs:List (List Key×Addr×Value),
    Paired (fun(p:List Key×V) (q:List Key×Addr×Value)=>p.1=q.1/\H q.2.1=some (.tup (p.1.map kV))/\RelV p.2 q.2.2) kvs xs /\
    ∃o es ep,h.get? a=some o/\o.ExactDict/\o.data = .dict es ep/\es.toList=xs.map (entryOfKey (tupleKind (x5b P w)))/\(xs.map (·.1)).Nodup
 | .set S n=>h.SetOf (intKind P w) a S n
 | .ins C dx fs=>H dx=some (.own a)/\fs.length<=1000/\dx≠a/\h.get? a=some (PySem.W.instObj C dx) /\
    ∃mA,h.Ns1 dx mA/\(∀f,RelO (fs.lookup f) (mA f))/\PySem.Within mA (fs.map (·.1))
 | .own _=>∃o,h.get? a=some o
 | .xd fs=>∃mA,h.Ns1 a mA/\∀f,RelO (fs.lookup f) (mA f)
 | .rng lo hi=>∃t u v,h.get? a=some { cls:=.type "range",data:=.fields #[.int lo t,.int hi u,.int 1 v] }
 | .frz o u=>h.get? a=some o/\z7k H h a u
 | .tbl ps=>h.get? a=some { cls:=.none,data:=.fields ps }
 | .met f x=>h.get? a=some (PySem.W.methodObj (.ref f) (.ref x))
 | .ext φ=>φ h/\(∃o,h.get? a=some o)/\∀h1 h2:Heap,φ h1->(∀o,h1.get? a=some o->h2.get? a=some o)->φ h2
noncomputable def HOk(H:Hp)(h:Heap):Prop:=∀a o,H a=some o->z7k P w H h a o
end
section
variable {P:Program}{w:World}{H H':Hp}{h h':Heap}{a:Addr}{o:HO}
theorem z7k.lt(x:z7k P w H h a o):a<h.objs.size:=by
 cases o with
 | lst xs=>obtain⟨_,_,_,_,e⟩:=x;exact Heap.lt_size e
 | tup xs=>obtain⟨_,_,_,p⟩:=x;exact p.lt
 | dK kvs=>obtain⟨_,_,_,_,o,_,_,e,_⟩:=x;exact Heap.lt_size e
 | dT kvs=>obtain⟨_,_,_,_,o,_,_,e,_⟩:=x;exact Heap.lt_size e
 | set S n=>obtain⟨o,_,_,_,e,_⟩:=x;exact Heap.lt_size e
 | ins C dx fs=>obtain⟨_,_,_,e,_⟩:=x;exact Heap.lt_size e
 | own y=>obtain⟨_,e⟩:=x;exact Heap.lt_size e
 | xd fs=>obtain⟨_,⟨_,_,_,e,_⟩,_⟩:=x;exact Heap.lt_size e
 | rng lo hi=>obtain⟨_,_,_,e⟩:=x;exact Heap.lt_size e
 | frz ob u=>obtain⟨e,_⟩:=x;exact Heap.lt_size e
 | tbl ps=>exact Heap.lt_size (show h.get? a=some _ from x)
 | met f y=>exact Heap.lt_size (show h.get? a=some _ from x)
 | ext φ=>obtain⟨_,⟨_,e⟩,_⟩:=x;exact Heap.lt_size e
theorem Paired.mapP{α β:Type}{F G:α->β->Prop}:∀{l₁:List α} {l₂:List β},Paired F l₁ l₂->(∀a b,F a b->G a b)->Paired G l₁ l₂
 | _,_,.nil,_=>.nil
 | _,_,.cons r t,f=>.cons (f _ _ r) (Paired.mapP t f)
theorem z7k.stay(x:z7k P w H h a o)(k:∀b u,(b=a∨H b=some (.own a))->h.get? b=some u->h'.get? b=some u)
 (ho:∀b,H b=some (.own a)->H' b=some (.own a)) (ht:∀b xs,H b=some (.tup xs)->H' b=some (.tup xs)):z7k P w H' h' a o:=by
 induction o with
 | lst xs=>obtain⟨z,its,n,r,e⟩:=x;exact⟨z,its,n,r,k _ _ (.inl rfl) e⟩
 | tup xs=>obtain⟨z,its,r,ob,e,c⟩:=x;exact⟨z,its,r,ob,k _ _ (.inl rfl) e,c⟩
 | dK kvs=>obtain⟨z,y,vs,r,ob,es,ep,e,c⟩:=x;exact⟨z,y,vs,r,ob,es,ep,k _ _ (.inl rfl) e,c⟩
 | dT kvs =>
   obtain⟨z,y,xs,r,ob,es,ep,e,c⟩:=x
   exact⟨z,y,xs,Paired.mapP r fun p q z=>⟨z.1,ht _ _ z.2.1,z.2.2⟩,ob,es,ep,k _ _ (.inl rfl) e,c⟩
 | set S n=>obtain⟨ob,es,ep,t,e,c⟩:=x;exact⟨ob,es,ep,t,k _ _ (.inl rfl) e,c⟩
 | ins C dx fs =>
   obtain⟨d,z,ne,e,mA,⟨od,es,ep,e2,c⟩,r⟩:=x
   exact⟨ho _ d,z,ne,k _ _ (.inl rfl) e,mA,⟨od,es,ep,k _ _ (.inr d) e2,c⟩,r⟩
 | own y=>obtain⟨ob,e⟩:=x;exact⟨ob,k _ _ (.inl rfl) e⟩
 | xd fs=>obtain⟨mA,⟨od,es,ep,e,c⟩,r⟩:=x;exact⟨mA,⟨od,es,ep,k _ _ (.inl rfl) e,c⟩,r⟩
 | rng lo hi=>obtain⟨t,u,v,e⟩:=x;exact⟨t,u,v,k _ _ (.inl rfl) e⟩
 | frz ob u ih=>obtain⟨e,q⟩:=x;exact⟨k _ _ (.inl rfl) e,ih q⟩
 | tbl ps =>
   have e:h.get? a=some { cls:=.none,data:=.fields ps }:=x
   show h'.get? a=some { cls:=.none,data:=.fields ps }
   exact k a _ (.inl rfl) e
 | met f y =>
   have e:h.get? a=some (PySem.W.methodObj (.ref f) (.ref y)):=x
   show h'.get? a=some (PySem.W.methodObj (.ref f) (.ref y))
   exact k a _ (.inl rfl) e
 | ext φ=>obtain⟨p,⟨o,e⟩,st⟩:=x;exact⟨st _ _ p fun o q=>k _ _ (.inl rfl) q,⟨o,k _ _ (.inl rfl) e⟩,st⟩
theorem HOk.lt(x:HOk P w H h)(e:H a=some o):a<h.objs.size:=(x a o e).lt
theorem HOk.fresh(x:HOk P w H h)(e:h.objs.size<=a):H a=none:=by
 cases q:H a with
 | none=>rfl
 | some u=>exact absurd (Nat.lt_of_lt_of_le (x.lt q) e) (Nat.lt_irrefl _)
theorem HOk.kept(x:HOk P w H h)(k:∀b u,h.get? b=some u->h'.get? b=some u):HOk P w H h':=fun a o e =>
 (x a o e).stay (fun b u _ q=>k b u q) (fun _ q=>q) fun _ _ q=>q
theorem HOk.laid(x:HOk P w H h)(k:∀b u,h.get? b=some u->h'.get? b=some u)(hp:h.objs.size<=a)(new:z7k P w (upd H a o) h' a o):HOk P w (upd H a o) h':=fun b u e=>by
 have hn:=x.fresh hp
 by_cases hb:b=a
 ·subst hb;rw[z0q] at e;cases e;exact new
 ·rw[z0u hb] at e
  exact(x b u e).stay (fun c v _ q=>k c v q) (fun c q=>by rw[z0u (z0z q hn)];exact q) fun c xs q=>by rw[z0u (z0z q hn)];exact q
end
noncomputable def Rd(H:Hp)(a:Addr)(u:HO):Prop:=H a=some u∨∃o,H a=some (.frz o u)
theorem Rd.ok{P:Program}{w:World}{H:Hp}{h:Heap}{a:Addr}{u:HO}(r:Rd H a u)(x:HOk P w H h):z7k P w H h a u:=by
 rcases r with r | ⟨o,r⟩
 ·exact x a u r
 ·obtain⟨_,q⟩:=x a _ r
  exact q
noncomputable def Mut:Option HO->Prop
 | some (.lst _)=>True
 | some (.dK _)=>True
 | some (.dT _)=>True
 | some (.set _ _)=>True
 | some (.ins _ _ _)=>True
 | some (.ext _)=>True
 | _=>False
section
variable {P:Program}{w:World}{H:Hp}{h h':Heap}{x e:Addr}{o':HO}
theorem HOk.write(ok:HOk P w H h)(mu:Mut (H x))(he:e=x∨H e=some (.own x))(k:∀b u,b≠e->h.get? b=some u->h'.get? b=some u)(heo:∃u,h'.get? e=some u)
 (new:z7k P w (upd H x o') h' x o'):HOk P w (upd H x o') h':=fun b u q=>by
 have nown:∀c y,H c=some (.own y)->c≠x:=fun c y r z=>by subst z;rw[r] at mu;exact mu
 have ntup:∀c xs,H c=some (.tup xs)->c≠x:=fun c xs r z=>by subst z;rw[r] at mu;exact mu
 by_cases hb:b=x
 ·subst hb;rw[z0q] at q;cases q;exact new
 ·rw[z0u hb] at q
  by_cases hbe:b=e
  ·have q':H b=some (.own x):=by
    rcases he with z | z
    ·exact absurd (hbe.trans z) hb
    ·rw[hbe];exact z
   rw[q] at q';cases q'
   obtain⟨v,hv⟩:=heo
   exact⟨v,by rw[hbe];exact hv⟩
  ·refine(ok b u q).stay (fun c v hc r=>k c v ?_ r) (fun c r=>by rw[z0u (nown c b r)];exact r) fun c xs r=>by rw[z0u (ntup c xs r)];exact r
   rcases hc with rfl | hc
   ·exact hbe
   ·rintro rfl
    rcases he with z | z
    ·exact nown c b hc z
    ·rw[hc] at z;cases z;exact hb rfl
end
structure Un (fs ex:List Addr) (H H':Hp) (h h':Heap):Prop where
 keep:∀b o,h.get? b=some o->H b=none->b ∉ fs->b ∉ ex->h'.get? b=some o
 slot:∀b o,h.get? b=some o->H b=none->b∈fs->b ∉ ex->∃sl,h'.get? b=some { o with slots:=sl }
 free:∀b o,h.get? b=some o->H b=none->b ∉ ex->H' b=none
 there:∀b o,h.get? b=some o->b ∉ ex->∃o',h'.get? b=some o'
 tups:∀b xs,H b=some (.tup xs)->H' b=some (.tup xs)
 frzs:∀b o u,H b=some (.frz o u)->H' b=some (.frz o u)
 tbls:∀b ps,H b=some (.tbl ps)->∃more,H' b=some (.tbl (ps++more))
section
variable {fs fs' ex ex':List Addr}{H H1 H2:Hp}{h h1 h2 h':Heap}{a x e:Addr}{o:HO}
theorem Un.any(u:Un fs ex H H1 h h1){b:Addr}{ob:Obj}(q:h.get? b=some ob)(n:H b=none)(hx:b ∉ ex):∃sl,h1.get? b=some { ob with slots:=sl }:=by
 by_cases hb:b∈fs
 ·exact u.slot b ob q n hb hx
 ·exact⟨ob.slots,u.keep b ob q n hb hx⟩
theorem Un.kept(k:∀b u,h.get? b=some u->h'.get? b=some u):Un fs ex H H h h' :=
 ⟨fun b ob q _ _ _=>k b ob q,fun b ob q _ _ _=>⟨ob.slots,k b ob q⟩,fun _ _ _ n _=>n,fun b ob q _=>⟨ob,k b ob q⟩,fun _ _ q=>q,fun _ _ _ q=>q,fun _ ps q=>⟨#[],by rw[q];simp⟩⟩
theorem Un.refl:Un fs ex H H h h:=Un.kept fun _ _ q=>q
theorem Un.laid(k:∀b u,h.get? b=some u->h'.get? b=some u)(hp:h.objs.size<=a)(hn:H a=none):Un fs ex H (upd H a o) h h' where
 keep:=fun b u q _ _ _=>k b u q
 slot:=fun b u q _ _ _=>⟨u.slots,k b u q⟩
 free:=fun b u q n _=>by rw[z0u (Nat.ne_of_lt (Nat.lt_of_lt_of_le (Heap.lt_size q) hp))];exact n
 there:=fun b u q _=>⟨u,k b u q⟩
 tups:=fun b xs q=>by rw[z0u (z0z q hn)];exact q
 frzs:=fun b u xs q=>by rw[z0u (z0z q hn)];exact q
 tbls:=fun b ps q=>⟨#[],by rw[z0u (z0z q hn),q];simp⟩
theorem Un.write(mu:Mut (H x))(he:e=x∨H e=some (.own x))(k:∀b u,b≠e->h.get? b=some u->h'.get? b=some u)(heo:∃u,h'.get? e=some u):Un fs ex H (upd H x o) h h':=by
 have hx:∀b,H b=none->b≠x:=fun b n z=>by subst z;rw[n] at mu;exact mu
 have hb:∀b,H b=none->b≠e:=fun b n z=>by
  subst z
  rcases he with r | r
  ·exact hx b n r
  ·rw[n] at r;cases r
 have hm:∀b u,H b=some u->¬Mut (some u)->b≠x:=fun b u q nm z=>by subst z;rw[q] at mu;exact nm mu
 refine⟨fun b u q n _ _=>k b u (hb b n) q,fun b u q n _ _=>⟨u.slots,k b u (hb b n) q⟩,fun b u q n _=>by rw[z0u (hx b n)];exact n,fun b u q _=>?_,
  fun b xs q=>by rw[z0u (hm b _ q fun z=>z)];exact q,fun b u xs q=>by rw[z0u (hm b _ q fun z=>z)];exact q,fun b ps q=>⟨#[],by rw[z0u (hm b _ q fun z=>z),q];simp⟩⟩
 by_cases hbe:b=e
 ·subst hbe;exact heo
 ·exact⟨u,k b u hbe q⟩
end
noncomputable def trk(h:Heap)(H:Hp):List Addr:=(List.range h.objs.size).filter fun a=>(H a).isSome
noncomputable def hidT(h:Heap)(H:Hp):Heap:=PySem.W.hideAll h (trk h H)
theorem x5x(h:Heap)(H:Hp):(hidT h H).objs.size=h.objs.size:=PySem.W.hideAll_size _ _
theorem y6d{h:Heap}{H:Hp}{b:Addr}{o:Obj}(e:h.get? b=some o)(n:H b=none):(hidT h H).get? b=some o :=
 PySem.W.hideAll_get _ e fun hm=>by
  have q:(H b).isSome=true:=(List.mem_filter.mp hm).2
  rw[n] at q;simp at q
theorem y9h{h:Heap}{H:Hp}{b:Addr}{o:Obj}(e:(hidT h H).get? b=some o):h.get? b=some o/\H b=none:=by
 have e':h.get? b=some o:=PySem.W.of_hideAll (trk h H) e
 refine⟨e',?_⟩
 cases q:H b with
 | none=>rfl
 | some x =>
   have hm:b∈trk h H:=List.mem_filter.mpr ⟨List.mem_range.mpr (Heap.lt_size e'),by simp[q]⟩
   have z:(hidT h H).get? b=none:=PySem.W.hideAll_none (trk h H) hm
   rw[z] at e;cases e
noncomputable def w3v(g h:Heap)(L:Addr):List (Addr×Obj):=(List.range h.objs.size).filterMap fun a=>if a=L∨(g.get? a).isSome=true then none else (h.get? a).map fun o=>(a,o)
noncomputable def rest(g h:Heap)(L d:Addr):List (Addr×Obj):=(w3v g h L).filter fun p=>decide (p.1≠d)
end L2
namespace L2
open PySem PySem.Spec PyProof.Rows
structure Mod (K:PySem.W.Frag) (mg:Str->Option Value) (base:Heap):Prop where
 kin:K.In base
 glob:base.Ns mainGlobals mg
 blt:∃mb,base.Ns builtinsNs mb/\∀x:Str,x≠"__name__"->mb x=bootBuiltins x
 nolimit:base.NoLimit
structure Cx where
 prog:Program
 w:World
 K:PySem.W.Frag
 mg:Str->Option Value
 base:Heap
 A:Around
 N:List Str
 s₀:Shared
 H₀:Hp
 env:Env
 outer:List Env
 stack:List Env
 ex:List Addr
 fn:Str->Bool
 calm:Bool
 pn:List (Addr×Obj)
 xe:Value->Shared->Prop
noncomputable def frs(l:List Env):List Addr:=l.filterMap (·.frame)
noncomputable abbrev Cx.fs (X:Cx):List Addr:=frs X.outer
noncomputable def Vis(sc:Scope)(x:Str):Prop:=sc.names.lookup x=some .local∨sc.names.lookup x=some .cell∨sc.names.lookup x=some .free
noncomputable def Loc(sc:Scope)(x:Str):Prop:=sc.names.lookup x=some .local∨sc.names.lookup x=some .cell
noncomputable def Look(env:Env)(h:Heap)(m:Str->Option Value)(x:Str)(u:Value):Prop :=
 (env.kindOf x=some .local/\m x=some u)∨((env.kindOf x=some .cell∨env.kindOf x=some .free)/\∃c,env.cells.lookup x=some c/\h.IsCell c (some u))
structure Cx.Ok (X:Cx):Prop where
 mod:Mod X.K X.mg X.base
 kind:X.env.scope.kind = .function
 glob:X.env.globals=mainGlobals
 blt:X.env.builtins=builtinsNs
 above:X.s₀.heap.objs.size<=X.env.locals
 inj:∀x y c,X.env.cells.lookup x=some c->X.env.cells.lookup y=some c->x=y
 has:∀x,(X.env.kindOf x=some .cell∨X.env.kindOf x=some .free)->∃c,X.env.cells.lookup x=some c
 cab:∀x c,X.fn x=true->X.env.cells.lookup x=some c->X.s₀.heap.objs.size<=c
 hd:X.calm=true->X.A.handled=none
 frames:X.A.frames=some X.stack
 stk:X.stack=X.outer∨(X.stack=X.env::X.outer/\X.env.frame=some X.env.locals)
 exf:∀b∈X.ex,b≠X.env.locals/\∀x c,X.env.cells.lookup x=some c->c≠b
 bs:∀b o,X.base.get? b=some o->X.s₀.heap.get? b=some o/\X.H₀ b=none
 bsz:X.base.objs.size<=X.s₀.heap.objs.size
 noex:∀b o,X.base.get? b=some o->b ∉ X.ex
 exfs:∀b∈X.ex,b ∉ X.fs
 funs:X.s₀.heap.FunFrames X.base X.outer
 frf:∀b∈X.fs,X.H₀ b=none
structure Inv (X:Cx) (pins:List (Addr×Obj)) (σ:List (Option V)) (H:Hp) (s:Shared):Prop where
 ok:X.Ok
 os:s.os=X.s₀.os
 bare:AllBare s.gens
 base:Un X.fs X.ex X.H₀ H X.s₀.heap s.heap
 loc:∃m,s.heap.Ns X.env.locals m/\∀(i:Nat) (x:Str) (v:V),X.N[i]? = some x->σ[i]? = some (some v)->Vis X.env.scope x->∃u,RelV v u/\Look X.env s.heap m x u
 cell:∀x c,X.env.cells.lookup x=some c->∃v,s.heap.IsCell c v
 free:H X.env.locals=none
 freeC:∀x c,X.env.cells.lookup x=some c->H c=none
 pin:∀p∈X.pn++pins,s.heap.get? p.1=some p.2/\H p.1=none/\p.1≠X.env.locals/\p.1 ∉ X.fs/\∀v,p.2.data ≠ .cell v
 hok:HOk X.prog X.w H s.heap
 len:σ.length=X.N.length
section
variable {X:Cx}{pins:List (Addr×Obj)}{σ:List (Option V)}{H H':Hp}{s:Shared}{h':Heap}
theorem Cx.Ok.nofr(ok:X.Ok){b:Addr}{o:Obj}(e:X.base.get? b=some o):b ∉ X.fs:=fun hb=>by
 have:=(ok.funs.mem hb).1
 rw[e] at this;cases this
theorem Inv.bs(I:Inv X pins σ H s):∀b o,X.base.get? b=some o->s.heap.get? b=some o/\H b=none:=fun b o e =>
 ⟨I.base.keep b o (I.ok.bs b o e).1 (I.ok.bs b o e).2 (I.ok.nofr e) (I.ok.noex b o e),I.base.free b o (I.ok.bs b o e).1 (I.ok.bs b o e).2 (I.ok.noex b o e)⟩
theorem Inv.bk(I:Inv X pins σ H s):∀b o,X.base.get? b=some o->s.heap.get? b=some o:=fun b o e=>(I.bs b o e).1
theorem Inv.mod(I:Inv X pins σ H s):Mod X.K X.mg X.base:=I.ok.mod
theorem Inv.kIn(I:Inv X pins σ H s):X.K.In s.heap:=I.ok.mod.kin.keeps I.bk
theorem Inv.lt(I:Inv X pins σ H s):X.env.locals<s.heap.objs.size:=let ⟨_,hn,_⟩:=I.loc;hn.lt
theorem Inv.sz(I:Inv X pins σ H s):X.s₀.heap.objs.size<=s.heap.objs.size:=Nat.le_trans I.ok.above (Nat.le_of_lt I.lt)
theorem Inv.nofs(I:Inv X pins σ H s){a:Addr}(h:s.heap.objs.size<=a):a ∉ X.fs:=fun hb=>by
 obtain⟨_,o,ho,_⟩:=I.ok.funs.mem hb
 exact absurd (Nat.lt_of_lt_of_le (Heap.lt_size ho) (Nat.le_trans I.sz h)) (Nat.lt_irrefl _)
theorem Inv.cne(I:Inv X pins σ H s):∀x c,X.env.cells.lookup x=some c->c≠X.env.locals:=fun x c e z=>by
 obtain⟨v,o,ho,hd⟩:=I.cell x c e
 obtain⟨m,⟨o',es,ep,ho',hd',_⟩,_⟩:=I.loc
 rw[z,ho'] at ho;cases ho;rw[hd'] at hd;cases hd
theorem Inv.funs(I:Inv X pins σ H s):s.heap.FunFrames X.base X.outer:=by
 have all:∀(l:List Env),(∀b∈frs l,b∈X.fs)->X.s₀.heap.FunFrames X.base l->s.heap.FunFrames X.base l:=by
  intro l
  induction l with
  | nil=>intro _ _;trivial
  | cons env r ih =>
    intro hs hl
    obtain⟨hk,⟨L,o,hf,hn,ho,hd⟩,hr⟩:=hl
    have hL:L∈X.fs:=hs L (by unfold frs;rw[List.filterMap_cons,hf];exact List.mem_cons_self)
    obtain⟨sl,e⟩:=I.base.slot L o ho (I.ok.frf L hL) hL fun z=>I.ok.exfs L z hL
    exact⟨hk,⟨L,_,hf,hn,e,hd⟩,ih (fun b hb=>hs b (by unfold frs;rw[List.filterMap_cons,hf];exact List.mem_cons_of_mem _ hb)) hr⟩
 exact all X.outer (fun _ hb=>hb) I.ok.funs
theorem Inv.stack(I:Inv X pins σ H s):s.heap.FunFrames X.base X.stack:=by
 rcases I.ok.stk with e | ⟨e,hf⟩
 ·rw[e];exact I.funs
 ·rw[e]
  obtain⟨m,hn,_⟩:=I.loc
  refine .cons (by rw[I.ok.kind];decide) hf hn ?_ I.funs
  exact Heap.get?_none_of_le (Nat.le_trans I.ok.bsz I.ok.above)
theorem Inv.stkSub(I:Inv X pins σ H s):∀b∈frs X.stack,b∈X.env.locals::X.fs:=fun b hb=>by
 rcases I.ok.stk with e | ⟨e,hf⟩
 ·rw[e] at hb;exact List.mem_cons_of_mem _ hb
 ·rw[e] at hb
  unfold frs at hb
  rw[List.filterMap_cons,hf] at hb
  exact hb
theorem Inv.stkFree(I:Inv X pins σ H s):∀b∈frs X.stack,H b=none:=fun b hb=>by
 rcases List.mem_cons.mp (I.stkSub b hb) with e | hb
 ·rw[e];exact I.free
 ·obtain⟨_,o,ho,_⟩:=I.ok.funs.mem hb
  exact I.base.free b o ho (I.ok.frf b hb) fun z=>I.ok.exfs b z hb
theorem Inv.step{g':Array GenState}{t':Nat}{d':Drawn}{ch:List Addr}(I:Inv X pins σ H s)
 (hch:∀b∈ch,(b∈X.ex∨X.s₀.heap.get? b=none)/\b≠X.env.locals/\(∀x c,X.env.cells.lookup x=some c->c≠b)/\∀p∈X.pn++pins,p.1≠b)
 (keep:∀b o,b≠X.env.locals->b ∉ X.fs->b ∉ ch->s.heap.get? b=some o->H b=none->h'.get? b=some o)
 (slot:∀b o,b≠X.env.locals->b∈X.fs->b ∉ ch->s.heap.get? b=some o->H b=none->∃sl,h'.get? b=some { o with slots:=sl }) (free:∀b o,b ∉ ch->s.heap.get? b=some o->H b=none->H' b=none)
 (there:∀b o,b ∉ ch->s.heap.get? b=some o->∃o',h'.get? b=some o')
 (tups:∀b xs,H b=some (.tup xs)->H' b=some (.tup xs)) (frzs:∀b o u,H b=some (.frz o u)->H' b=some (.frz o u)) (tbls:∀b ps,H b=some (.tbl ps)->∃more,H' b=some (.tbl (ps++more)))
 (ns:∀m,s.heap.Ns X.env.locals m->h'.Ns X.env.locals m) (hok:HOk X.prog X.w H' h') (hg:AllBare g') :
 Inv X pins σ H' { s with heap:=h',gens:=g',drawn:=d',toks:=t' }:=by
 have neL:∀b o,X.s₀.heap.get? b=some o->b≠X.env.locals:=fun b o e=>Nat.ne_of_lt (Nat.lt_of_lt_of_le (Heap.lt_size e) I.ok.above)
 have neC:∀b o,X.s₀.heap.get? b=some o->b ∉ X.ex->b ∉ ch:=fun b o e hx hb=>by
  rcases(hch b hb).1 with z | z
  ·exact hx z
  ·rw[e] at z;cases z
 have cellK:∀x c,X.env.cells.lookup x=some c->∀v,s.heap.IsCell c v->h'.IsCell c v:=fun x c e v ⟨o,ho,hd⟩=>by
  have nch:c ∉ ch:=fun z=>(hch c z).2.2.1 x c e rfl
  by_cases hc:c∈X.fs
  ·obtain⟨sl,q⟩:=slot c o (I.cne x c e) hc nch ho (I.freeC x c e)
   exact⟨_,q,hd⟩
  ·exact⟨o,keep c o (I.cne x c e) hc nch ho (I.freeC x c e),hd⟩
 refine⟨I.ok,I.os,hg,⟨fun b o e n hb hx=>?_,fun b o e n hb hx=>?_,fun b o e n hx=>?_,fun b o e hx=>?_,fun b xs e=>tups b xs (I.base.tups b xs e),fun b o xs e=>frzs b o xs (I.base.frzs b o xs e),fun b ps e=>?_⟩,?_,fun x c e=>?_,?_,fun x c e=>?_,fun p hp=>?_,hok,I.len⟩
 ·exact keep b o (neL b o e) hb (neC b o e hx) (I.base.keep b o e n hb hx) (I.base.free b o e n hx)
 ·obtain⟨sl,e1⟩:=I.base.slot b o e n hb hx
  obtain⟨sl',e2⟩:=slot b _ (neL b o e) hb (neC b o e hx) e1 (I.base.free b o e n hx)
  exact⟨sl',e2⟩
 ·obtain⟨o',e1⟩:=I.base.there b o e hx
  exact free b o' (neC b o e hx) e1 (I.base.free b o e n hx)
 ·obtain⟨o',e1⟩:=I.base.there b o e hx
  exact there b o' (neC b o e hx) e1
 ·obtain⟨m1,e1⟩:=I.base.tbls b ps e
  obtain⟨m2,e2⟩:=tbls b _ e1
  exact⟨m1++m2,by rw[e2,Array.append_assoc]⟩
 ·obtain⟨m,hn,hl⟩:=I.loc
  refine⟨m,ns m hn,fun i x v e1 e2 e3=>?_⟩
  obtain⟨u,r,l⟩:=hl i x v e1 e2 e3
  refine⟨u,r,?_⟩
  rcases l with l | ⟨k,c,e,z⟩
  ·exact .inl l
  ·exact .inr ⟨k,c,e,cellK x c e _ z⟩
 ·obtain⟨v,z⟩:=I.cell x c e
  exact⟨v,cellK x c e v z⟩
 ·obtain⟨m,⟨o,_,_,ho,_⟩,_⟩:=I.loc
  exact free _ o (fun z=>(hch _ z).2.1 rfl) ho I.free
 ·obtain⟨v,o,ho,hd⟩:=I.cell x c e
  exact free c o (fun z=>(hch c z).2.2.1 x c e rfl) ho (I.freeC x c e)
 ·obtain⟨e,n,ne,nf,d⟩:=I.pin p hp
  have nch:p.1 ∉ ch:=fun z=>(hch p.1 z).2.2.2 p hp rfl
  exact⟨keep p.1 p.2 ne nf nch e n,free p.1 p.2 nch e n,ne,nf,d⟩
theorem Inv.un{t':Nat}(I:Inv X pins σ H s)(u:Un X.fs [] H H' s.heap h')(hok:HOk X.prog X.w H' h'):Inv X pins σ H' { s with heap:=h',toks:=t' }:=by
 obtain⟨m,⟨o,es,ep,ho,r⟩,_⟩:=id I.loc
 obtain⟨sl,hL⟩:=u.any ho I.free (by simp)
 exact I.step (g':=s.gens) (d':=s.drawn) (ch:=[]) (fun _ z=>nomatch z) (fun b o _ hb _ e n=>u.keep b o e n hb (by simp)) (fun b o _ hb _ e n=>u.slot b o e n hb (by simp)) (fun b o _ e n=>u.free b o e n (by simp)) (fun b o _ e=>u.there b o e (by simp)) u.tups u.frzs u.tbls (fun m' hm=>by
  obtain⟨o',es',ep',ho',r'⟩:=hm
  rw[ho] at ho';cases ho'
  exact⟨_,es',ep',hL,r'⟩) hok I.bare
theorem Inv.call{g':Array GenState}{t':Nat}{d':Drawn}{ch:List Addr}(I:Inv X pins σ H s)(u:Un (frs X.stack) ch H H' s.heap h')(hok:HOk X.prog X.w H' h')(hg:AllBare g')
 (hch:∀b∈ch,(b∈X.ex∨X.s₀.heap.get? b=none)/\b≠X.env.locals/\(∀x c,X.env.cells.lookup x=some c->c≠b)/\∀p∈X.pn++pins,p.1≠b) :
 Inv X pins σ H' { s with heap:=h',gens:=g',drawn:=d',toks:=t' }:=by
 obtain⟨m,⟨o,es,ep,ho,r⟩,_⟩:=id I.loc
 obtain⟨sl,hL⟩:=u.any ho I.free fun z=>(hch _ z).2.1 rfl
 exact I.step (ch:=ch) hch (fun b o hL hb hc e n=>u.keep b o e n (fun z=>(List.mem_cons.mp (I.stkSub b z)).elim hL hb) hc) (fun b o _ _ hc e n=>u.any e n hc) (fun b o hc e n=>u.free b o e n hc) (fun b o hc e=>u.there b o e hc) u.tups u.frzs u.tbls (fun m' hm=>by
  obtain⟨o',es',ep',ho',r'⟩:=hm
  rw[ho] at ho';cases ho'
  exact⟨_,es',ep',hL,r'⟩) hok hg
theorem Inv.turned{t':Nat}{it:Addr}(I:Inv X pins σ H s)(k:∀b o,b≠it->s.heap.get? b=some o->h'.get? b=some o)(hn:H it=none)(hL:it≠X.env.locals)
 (h1:it∈X.ex∨X.s₀.heap.objs.size<=it) (h2:∀x c,X.env.cells.lookup x=some c->c≠it) (h3:∀p∈X.pn++pins,p.1≠it):Inv X pins σ H { s with heap:=h',toks:=t' }:=by
 have nit:∀b u,H b=some u->b≠it:=fun b u e z=>by rw[z,hn] at e;cases e
 refine I.step (g':=s.gens) (d':=s.drawn) (ch:=[it]) (fun b hb=>?_) (fun b o _ _ hc e _=>k b o (fun z=>hc (by simp[z])) e) (fun b o _ _ hc e _=>⟨o.slots,k b o (fun z=>hc (by simp[z])) e⟩) (fun _ _ _ _ n=>n)
  (fun b o hc e=>⟨o,k b o (fun z=>hc (by simp[z])) e⟩) (fun _ _ e=>e) (fun _ _ _ e=>e) (fun b ps e=>⟨#[],by rw[e];simp⟩) (fun m hm=>?_) (fun b u e=>?_) I.bare
 ·have e:b=it:=by simpa using hb
  subst e
  exact⟨h1.imp_right fun z=>Heap.get?_none_of_le z,hL,h2,h3⟩
 ·obtain⟨o,es,ep,ho,r⟩:=hm
  exact⟨o,es,ep,k _ o (Ne.symm hL) ho,r⟩
 ·refine(I.hok b u e).stay (fun c v hc q=>k c v ?_ q) (fun _ q=>q) fun _ _ q=>q
  rcases hc with z | z
  ·rw[z];exact nit b u e
  ·exact nit c _ z
theorem Inv.tok(I:Inv X pins σ H s)(t:Nat):Inv X pins σ H { s with toks:=t }:=I.un (h':=s.heap) (t':=t) Un.refl I.hok
theorem Inv.kept{t':Nat}(I:Inv X pins σ H s)(k:∀b u,s.heap.get? b=some u->h'.get? b=some u):Inv X pins σ H { s with heap:=h',toks:=t' }:=I.un (Un.kept k) (I.hok.kept k)
theorem Inv.laid{a:Addr}{o:HO}{t':Nat}(I:Inv X pins σ H s)(k:∀b u,s.heap.get? b=some u->h'.get? b=some u)(hp:s.heap.objs.size<=a)(new:z7k X.prog X.w (upd H a o) h' a o) :
 Inv X pins σ (upd H a o) { s with heap:=h',toks:=t' }:=I.un (Un.laid k hp (I.hok.fresh hp)) (I.hok.laid k hp new)
theorem Inv.write{x e:Addr}{o:HO}{t':Nat}(I:Inv X pins σ H s)(mu:Mut (H x))(he:e=x∨H e=some (.own x))(k:∀b u,b≠e->s.heap.get? b=some u->h'.get? b=some u)(heo:∃u,h'.get? e=some u)
 (new:z7k X.prog X.w (upd H x o) h' x o):Inv X pins σ (upd H x o) { s with heap:=h',toks:=t' }:=I.un (Un.write mu he k heo) (I.hok.write mu he k heo new)
theorem Inv.pins_of{pins':List (Addr×Obj)}(I:Inv X pins σ H s)(h:∀p∈pins',s.heap.get? p.1=some p.2/\H p.1=none/\p.1≠X.env.locals/\p.1 ∉ X.fs/\∀v,p.2.data ≠ .cell v):Inv X pins' σ H s :=
 ⟨I.ok,I.os,I.bare,I.base,I.loc,I.cell,I.free,I.freeC,fun p hp=>(List.mem_append.mp hp).elim (fun z=>I.pin p (List.mem_append_left _ z)) (h p),I.hok,I.len⟩
theorem x0o{N:List Str}(hN:N.Nodup){i j:Nat}{x:Str}(a:N[i]? = some x)(b:N[j]? = some x):i=j:=by
 obtain⟨h1,e1⟩:=List.getElem?_eq_some_iff.mp a
 obtain⟨h2,e2⟩:=List.getElem?_eq_some_iff.mp b
 exact(List.getElem_inj hN).mp (e1.trans e2.symm)
theorem y6s{M:Model}{A:Around}{E:Value->Shared->Prop}{i:Nat}{x:Str}{v:V}{u:Value}{Q:Unit->Shared->Prop}(I:Inv X pins σ H s)(hN:X.N.Nodup)(hi:X.N[i]? = some x)(hx:Loc X.env.scope x)(r:RelV v u)
 (h:∀s',Inv X pins (σ.set i (some v)) H s'->(∃a,Heap.SameBut a s.heap s'.heap/\(a=X.env.locals∨X.env.cells.lookup x=some a))->Q () s') (hf:X.fn x=true∨X.env.scope.names.lookup x=some .local:=by first | exact .inl rfl | exact .inr rfl | assumption):wpAny M A (storeName X.env x u) Q E s:=by
 obtain⟨m,hn,hl⟩:=id I.loc
 have hcls:(X.env.scope.kind == .class||(X.env.scope.kind == .module&&X.env.locals != X.env.globals))=false:=by rw[I.ok.kind];rfl
 have hiσ:i<σ.length:=by rw[I.len];exact(List.getElem?_eq_some_iff.mp hi).1
 have cne:=I.cne
 have tracked:∀{a:Addr} {h':Heap},(∃o,s.heap.get? a=some o/\H a=none)->Heap.SameBut a s.heap h'->HOk X.prog X.w H h':=fun {a h'} ha hs b ob e=>by
  obtain⟨_,_,hfree⟩:=ha
  refine(I.hok b ob e).stay (fun c w' hc q=>(hs.2 c ?_).trans q) (fun _ q=>q) fun _ _ q=>q
  rintro rfl
  rcases hc with rfl | hc
  ·rw[hfree] at e;cases e
  ·rw[hfree] at hc;cases hc
 rcases hx with hk | hk
 ·refine wpAny_storeName_local hk hn (fun h' hn' hs=>?_) hcls
  obtain⟨oL,_,_,hoL,_⟩:=id hn
  refine h _ ⟨I.ok,I.os,I.bare,⟨fun b o e n hb hx=>?_,fun b o e n hb hx=>?_,I.base.free,fun b o e hx=>?_,I.base.tups,I.base.frzs,I.base.tbls⟩,⟨_,hn',fun j y v' e1 e2 e3=>?_⟩,fun y c e=>?_,I.free,I.freeC,fun p hp=>?_,tracked ⟨oL,hoL,I.free⟩ hs,by simpa using I.len⟩ ⟨_,hs,.inl rfl⟩
  ·exact(hs.2 b (Nat.ne_of_lt (Nat.lt_of_lt_of_le (Heap.lt_size e) I.ok.above))).trans (I.base.keep b o e n hb hx)
  ·obtain⟨sl,e1⟩:=I.base.slot b o e n hb hx
   exact⟨sl,(hs.2 b (Nat.ne_of_lt (Nat.lt_of_lt_of_le (Heap.lt_size e) I.ok.above))).trans e1⟩
  ·obtain⟨o',e1⟩:=I.base.there b o e hx
   exact⟨o',(hs.2 b (Nat.ne_of_lt (Nat.lt_of_lt_of_le (Heap.lt_size e) I.ok.above))).trans e1⟩
  ·by_cases hj:j=i
   ·subst hj
    rw[hi] at e1;cases e1
    rw[List.getElem?_set_self hiσ] at e2
    cases e2
    exact⟨u,r,.inl ⟨hk,by simp⟩⟩
   ·rw[List.getElem?_set_ne (Ne.symm hj)] at e2
    obtain⟨u',r',q⟩:=hl j y v' e1 e2 e3
    refine⟨u',r',?_⟩
    rcases q with ⟨k,e⟩ | ⟨k,c,e,z⟩
    ·refine .inl ⟨k,?_⟩
     have:y≠x:=fun e=>hj (x0o hN e1 (e ▸ hi))
     simp[this,e]
    ·exact .inr ⟨k,c,e,z.sameBut hs (cne y c e)⟩
  ·obtain⟨w',z⟩:=I.cell y c e
   exact⟨w',z.sameBut hs (cne y c e)⟩
  ·obtain⟨e,n,ne,nf,d⟩:=I.pin p hp
   exact⟨(hs.2 p.1 ne).trans e,n,ne,nf,d⟩
 ·have hfn:X.fn x=true:=by
   rcases hf with z | z
   ·exact z
   ·rw[z] at hk;cases hk
  obtain⟨c,hc⟩:=I.ok.has x (.inl hk)
  obtain⟨w',z⟩:=I.cell x c hc
  refine wpAny_storeName_cell I.ok.kind hk hc z (fun h' hc' hs=>?_)
  obtain⟨oc,hoc,hocd⟩:=id z
  refine h { s with heap:=h' } ⟨I.ok,I.os,I.bare,⟨fun b o e n hb hx=>?_,fun b o e n hb hx=>?_,I.base.free,fun b o e hx=>?_,I.base.tups,I.base.frzs,I.base.tbls⟩,⟨m,hn.sameBut hs (Ne.symm (cne x c hc)),fun j y v' e1 e2 e3=>?_⟩,fun y c' e=>?_,I.free,I.freeC,fun p hp=>?_,tracked ⟨oc,hoc,I.freeC x c hc⟩ hs,by simpa using I.len⟩ ⟨c,hs,.inr hc⟩
  ·exact(hs.2 b (Nat.ne_of_lt (Nat.lt_of_lt_of_le (Heap.lt_size e) (I.ok.cab x c hfn hc)))).trans (I.base.keep b o e n hb hx)
  ·obtain⟨sl,e1⟩:=I.base.slot b o e n hb hx
   exact⟨sl,(hs.2 b (Nat.ne_of_lt (Nat.lt_of_lt_of_le (Heap.lt_size e) (I.ok.cab x c hfn hc)))).trans e1⟩
  ·obtain⟨o',e1⟩:=I.base.there b o e hx
   exact⟨o',(hs.2 b (Nat.ne_of_lt (Nat.lt_of_lt_of_le (Heap.lt_size e) (I.ok.cab x c hfn hc)))).trans e1⟩
  ·by_cases hj:j=i
   ·subst hj
    rw[hi] at e1;cases e1
    rw[List.getElem?_set_self hiσ] at e2
    cases e2
    exact⟨u,r,.inr ⟨.inl hk,c,hc,hc'⟩⟩
   ·rw[List.getElem?_set_ne (Ne.symm hj)] at e2
    obtain⟨u',r',q⟩:=hl j y v' e1 e2 e3
    refine⟨u',r',?_⟩
    rcases q with q | ⟨k,c',e,z'⟩
    ·exact .inl q
    ·refine .inr ⟨k,c',e,z'.sameBut hs ?_⟩
     rintro rfl
     exact hj (x0o hN e1 (I.ok.inj _ _ _ e hc ▸ hi))
  ·by_cases hcc:c'=c
   ·subst hcc;exact⟨_,hc'⟩
   ·obtain⟨w2,z2⟩:=I.cell y c' e
    exact⟨w2,z2.sameBut hs hcc⟩
  ·obtain⟨e,n,ne,nf,d⟩:=I.pin p hp
   refine⟨(hs.2 p.1 ?_).trans e,n,ne,nf,d⟩
   intro q
   rw[q,hoc] at e
   have q':oc=p.2:=Option.some.inj e
   exact d w' (by rw[<-q'];exact hocd)
theorem y2g{M:Model}{A:Around}{E:Value->Shared->Prop}{i:Nat}{x:Str}{v:V}{u:Value}{Q:Unit->Shared->Prop}(I:Inv X pins σ H s)(hN:X.N.Nodup)(hi:X.N[i]? = some x)(hx:Loc X.env.scope x)(r:RelV v u)
 (h:∀s',Inv X pins (σ.set i (some v)) H s'->Q () s') (hf:X.fn x=true∨X.env.scope.names.lookup x=some .local:=by first | exact .inl rfl | exact .inr rfl | assumption):wpAny M A (storeName X.env x u) Q E s :=
 y6s I hN hi hx r (fun s' I' _=>h s' I') hf
theorem Inv.call'{s':Shared}{ch:List Addr}(I:Inv X pins σ H s)(ho:s'.os=s.os)(u:Un (frs X.stack) ch H H' s.heap s'.heap)(hok:HOk X.prog X.w H' s'.heap)(hg:AllBare s'.gens)
 (hch:∀b∈ch,(b∈X.ex∨X.s₀.heap.get? b=none)/\b≠X.env.locals/\(∀x c,X.env.cells.lookup x=some c->c≠b)/\∀p∈X.pn++pins,p.1≠b):Inv X pins σ H' s':=by
 obtain⟨h',g',d',t',o'⟩:=s'
 have e:o'=s.os:=ho
 subst e
 exact I.call (g':=g') (t':=t') (d':=d') u hok hg hch
end
noncomputable abbrev XK:=Value->Option Addr->Hp->Prop
noncomputable abbrev St:=List (Option V)
noncomputable abbrev VK:=V->Hp->Prop
noncomputable abbrev TE:=St->Hp->VK->Prop
noncomputable abbrev TT:=St->Hp->(Bool->Hp->Prop)->Prop
noncomputable abbrev TA:=St->Hp->(List V->Hp->Prop)->Prop
structure Ends where
 nx:St->Hp->Prop
 rt:VK
 bk:St->Hp->Prop:=fun _ _=>False
 ct:St->Hp->Prop:=fun _ _=>False
noncomputable abbrev TS:=Ends->St->Hp->Prop
noncomputable def EP(X:Cx)(pins:List (Addr×Obj))(σ:St)(Q:VK)(u:Value)(s':Shared):Prop:=∃v H',Inv X pins σ H' s'/\RelV v u/\Q v H'
noncomputable def SP(X:Cx)(pins:List (Addr×Obj))(D:Ends)(f:Flow)(s':Shared):Prop :=
 match f with
 | .next=>∃σ' H',Inv X pins σ' H' s'/\D.nx σ' H'
 | .brk=>∃σ' H',Inv X pins σ' H' s'/\D.bk σ' H'
 | .cont=>∃σ' H',Inv X pins σ' H' s'/\D.ct σ' H'
 | .ret u=>∃v σ' H',Inv X pins σ' H' s'/\RelV v u/\D.rt v H'
noncomputable def PE(X:Cx)(e:Expr)(t:TE):Prop :=
 ∀(pins:List (Addr×Obj)) (s:Shared) (σ:St) (H:Hp) (Q:VK),Inv X pins σ H s->t σ H Q->wpAny (model X.prog X.w) X.A (eval e X.env) (EP X pins σ Q) X.xe s
noncomputable def PSs(X:Cx)(st:List Stmt)(t:TS):Prop :=
 ∀(pins:List (Addr×Obj)) (s:Shared) (σ:St) (H:Hp) (D:Ends),Inv X pins σ H s->t D σ H->wpAny (model X.prog X.w) X.A (execs st X.env) (SP X pins D) X.xe s
theorem thn{α:Type}{t:Sem α}{Q Q':α->Shared->Prop}{M:Model}{A:Around}{E:Value->Shared->Prop}{s:Shared}(h:wpAny M A t Q E s)(hQ:∀a s,Q a s->Q' a s):wpAny M A t Q' E s:=wpAny_mono h hQ fun _ _ x=>x
end L2
namespace L2
open PySem PySem.Spec PyProof.Rows
section
variable {X:Cx}
noncomputable def tVar(i:Nat):TE:=fun σ H Q=>∃v,σ[i]? = some (some v)/\Q v H
noncomputable def tC(v:V):TE:=fun _ H Q=>Q v H
theorem z8g{i:Nat}{x:Str}{pos:Pos}(hN:X.N[i]? = some x)(hv:Vis X.env.scope x)(hd:(x==("__debug__":Str))=false:=by decide)(hcd:(x==("__classdict__":Str))=false:=by decide):PE X (.Name x pos) (tVar i):=by
 intro pins s σ H Q I h
 obtain⟨v,e,h⟩:=h
 obtain⟨m,hn,hl⟩:=I.loc
 obtain⟨u,r,l⟩:=hl i x v hN e hv
 have fin:EP X pins σ Q u s:=⟨v,H,I,r,h⟩
 rcases l with ⟨hk,hm⟩ | ⟨hk,c,hc,hcell⟩
 ·exact wpAny_Name (wpAny_loadName_local I.ok.kind hk hn hm fin) hd
 ·rcases hk with hk | hk
  ·exact wpAny_Name (wpAny_loadName_cell I.ok.kind hk hc hcell fin) hd
  ·exact wpAny_Name (wpAny_loadName_free I.ok.kind hk hc hcell fin hcd) hd
theorem w4o{i j pos}:PE X (.Constant (.int i) j pos) (tC (.int i)):=fun _ _ _ H _ I h=>wpAny_Constant_int ⟨.int i,H,I.tok _,⟨_,rfl⟩,h⟩
theorem w4p{b j pos}:PE X (.Constant (.bool b) j pos) (tC (.bl b)):=fun _ _ _ H _ I h=>Constant_bool ⟨.bl b,H,I,rfl,h⟩
theorem w4n{x j pos}:PE X (.Constant (.str x) j pos) (tC (.str x)):=fun _ _ _ H _ I h=>Calls.Constant_str ⟨.str x,H,I.tok _,⟨_,rfl⟩,h⟩
noncomputable def Gl(X:Cx)(x:Str):Prop:=X.env.kindOf x=some .globalImplicit
theorem y1e{E:Value->Shared->Prop}{pins:List (Addr×Obj)}{s:Shared}{σ:St}{H:Hp}{x:Str}{u:Value}{pos:Pos}{Q:Value->Shared->Prop}(I:Inv X pins σ H s)(hg:Gl X x)(hm:X.mg x=some u)(h:Q u s)
 (hd:(x==("__debug__":Str))=false:=by decide):wpAny (model X.prog X.w) X.A (eval (.Name x pos) X.env) Q E s :=
 Calls.Name_function_global I.ok.kind hg (Calls.loadGlobal_global (by rw[I.ok.glob];exact I.mod.glob.keeps I.bk) hm h) hd
theorem z4m{E:Value->Shared->Prop}{pins:List (Addr×Obj)}{s:Shared}{σ:St}{H:Hp}{x:Str}{u:Value}{pos:Pos}{Q:Value->Shared->Prop}(I:Inv X pins σ H s)(hg:Gl X x)(hm:X.mg x=none)(hv:bootBuiltins x=some u)(h:Q u s)
 (hn:x≠"__name__":=by decide) (hd:(x==("__debug__":Str))=false:=by decide):wpAny (model X.prog X.w) X.A (eval (.Name x pos) X.env) Q E s:=by
 obtain⟨mb,h1,h2⟩:=I.mod.blt
 exact Calls.Name_function_global I.ok.kind hg (Calls.loadGlobal_builtin (by rw[I.ok.glob];exact I.mod.glob.keeps I.bk) hm (by rw[I.ok.blt];exact h1.keeps I.bk) ((h2 x hn).trans hv) h) hd
theorem w2h{x:Str}{v:V}{u:Value}{pos:Pos}(hg:Gl X x)(hm:X.mg x=some u)(r:RelV v u)(hd:(x==("__debug__":Str))=false:=by decide):PE X (.Name x pos) (tC v) :=
 fun _ _ _ H _ I h=>y1e I hg hm ⟨v,H,I,r,h⟩ hd
variable {a b:Expr}{ta tb:TE}{pos:Pos}
variable {tA tB':TT}{rest:List Expr}
end
end L2
namespace L2
open PySem PySem.Spec PyProof.Rows
noncomputable def SqL(K:PySem.W.Frag)(H:Hp)(a:Addr)(xs:List V):Prop :=
 Rd H a (.lst xs) ∨
  ∃(o:Obj) (its:Array Value) (n:Nat),K.lookup a=some o/\o.cls = .type "list"/\o.dict=none/\o.data = .seq its n/\its.size<=sizeLine/\Vals xs its.toList
noncomputable def SqT(K:PySem.W.Frag)(H:Hp)(a:Addr)(xs:List V):Prop :=
 Rd H a (.tup xs) ∨
  ∃(o:Obj) (its:Array Value) (n:Nat),K.lookup a=some o/\o.cls = .type "tuple"/\o.data = .seq its n/\its.size<=sizeLine/\Vals xs its.toList
noncomputable def absV:Value->Option V
 | .none=>some .non
 | .bool b=>some (.bl b)
 | .int i _=>some (.int i)
 | .str x _=>some (.str x)
 | .bytes b _=>some (.byt b)
 | .float b _=>some (.flt b)
 | .ref a=>some (.ref a)
 | .type n=>some (.ty n)
 | _=>none
theorem RelV.abs{x:V}{u:Value}(r:RelV x u):absV u=some x:=by
 cases x with
 | non=>cases r;rfl
 | bl _=>cases r;rfl
 | int _=>obtain⟨t,rfl⟩:=r;rfl
 | str _=>obtain⟨t,rfl⟩:=r;rfl
 | byt _=>obtain⟨t,rfl⟩:=r;rfl
 | flt _=>obtain⟨t,rfl⟩:=r;rfl
 | ref _=>cases r;rfl
 | ty _=>cases r;rfl
theorem RelV.inj{x y:V}{u:Value}(r:RelV x u)(q:RelV y u):x=y:=Option.some.inj (r.abs.symm.trans q.abs)
theorem Vals.inj:∀{xs ys:List V} {us:List Value},Vals xs us->Vals ys us->xs=ys
 | _,_,_,.nil,.nil=>rfl
 | _,_,_,.cons r t,.cons r' t'=>by rw[r.inj r',Vals.inj t t']
section
variable {X:Cx}{pins:List (Addr×Obj)}{σ:St}{H:Hp}{s:Shared}{a:Addr}{xs ys:List V}
theorem SqL.of{K:PySem.W.Frag}(h:H a=some (.lst xs)):SqL K H a xs:=.inl (.inl h)
theorem SqT.of{K:PySem.W.Frag}(h:H a=some (.tup xs)):SqT K H a xs:=.inl (.inl h)
theorem Inv.list(I:Inv X pins σ H s)(h:SqL X.K H a xs):∃its:List Value,Vals xs its/\PlainL s.heap a its.toArray/\xs.length<=sizeLine:=by
 rcases h with h | ⟨o,its,n,hk,hc,hd,hs,hz,r⟩
 ·obtain⟨z,its,n,r,e⟩:=h.ok I.hok
  exact⟨its,r,⟨_,n,e,rfl,rfl,rfl⟩,z⟩
 ·refine⟨its.toList,r,⟨o,n,I.kIn a o hk,hc,hd,by simpa using hs⟩,?_⟩
  have e:=r.length
  simp only[Array.length_toList] at e
  lia
theorem Inv.tuple(I:Inv X pins σ H s)(h:SqT X.K H a xs):∃its:List Value,Vals xs its/\IsTup s.heap a its.toArray/\xs.length<=sizeLine:=by
 rcases h with h | ⟨o,its,n,hk,hc,hs,hz,r⟩
 ·obtain⟨z,its,r,p⟩:=h.ok I.hok
  exact⟨its,r,p,z⟩
 ·refine⟨its.toList,r,⟨o,I.kIn a o hk,hc,n,by simpa using hs⟩,?_⟩
  have e:=r.length
  simp only[Array.length_toList] at e
  lia
theorem Inv.list_inj(I:Inv X pins σ H s)(h:SqL X.K H a xs)(h':SqL X.K H a ys):xs=ys:=by
 obtain⟨its,r,⟨o,n,e,_,_,d⟩,_⟩:=I.list h
 obtain⟨its',r',⟨o',n',e',_,_,d'⟩,_⟩:=I.list h'
 rw[e] at e';cases e'
 rw[d] at d'
 injection d' with d1 _
 have:its=its':=by simpa using congrArg Array.toList d1
 subst this
 exact r.inj r'
theorem Inv.tuple_inj(I:Inv X pins σ H s)(h:SqT X.K H a xs)(h':SqT X.K H a ys):xs=ys:=by
 obtain⟨its,r,⟨o,e,_,n,d⟩,_⟩:=I.tuple h
 obtain⟨its',r',⟨o',e',_,n',d'⟩,_⟩:=I.tuple h'
 rw[e] at e';cases e'
 rw[d] at d'
 injection d' with d1 _
 have:its=its':=by simpa using congrArg Array.toList d1
 subst this
 exact r.inj r'
end
noncomputable abbrev Cx.wish (X:Cx) (E:Value->Shared->Prop):Cx:={ X with xe:=E }
noncomputable abbrev Cx.nox (X:Cx):Cx:=X.wish fun _ _=>False
theorem Cx.Ok.wish{X:Cx}(ok:X.Ok)(E:Value->Shared->Prop):(X.wish E).Ok :=
 ⟨ok.mod,ok.kind,ok.glob,ok.blt,ok.above,ok.inj,ok.has,ok.cab,ok.hd,ok.frames,ok.stk,ok.exf,ok.bs,ok.bsz,ok.noex,ok.exfs,ok.funs,ok.frf⟩
theorem Cx.Ok.unwish{X:Cx}{E:Value->Shared->Prop}(ok:(X.wish E).Ok):X.Ok :=
 ⟨ok.mod,ok.kind,ok.glob,ok.blt,ok.above,ok.inj,ok.has,ok.cab,ok.hd,ok.frames,ok.stk,ok.exf,ok.bs,ok.bsz,ok.noex,ok.exfs,ok.funs,ok.frf⟩
section
variable {X:Cx}{pins:List (Addr×Obj)}{σ:St}{H:Hp}{s:Shared}{E:Value->Shared->Prop}
theorem Inv.wish(I:Inv X pins σ H s)(E:Value->Shared->Prop):Inv (X.wish E) pins σ H s:=⟨I.ok.wish E,I.os,I.bare,I.base,I.loc,I.cell,I.free,I.freeC,I.pin,I.hok,I.len⟩
theorem Inv.unwish(I:Inv (X.wish E) pins σ H s):Inv X pins σ H s:=⟨I.ok.unwish,I.os,I.bare,I.base,I.loc,I.cell,I.free,I.freeC,I.pin,I.hok,I.len⟩
end
section
variable {X:Cx}{st:Stmt}{rest:List Stmt}{t u:TS}{e:Expr}{te:TE}{pos:Pos}
theorem Inv.quiet{pins:List (Addr×Obj)}{σ:St}{H:Hp}{s:Shared}(I:Inv X pins σ H s):interactive X.env=false:=by simp[interactive,I.ok.kind]
end
noncomputable abbrev TG:=V->St->Hp->(St->Hp->Prop)->Prop
noncomputable abbrev TGs:=List V->St->Hp->(St->Hp->Prop)->Prop
noncomputable def PG(X:Cx)(target:Expr)(t:TG):Prop :=
 ∀(pins:List (Addr×Obj)) (s:Shared) (σ:St) (H:Hp) (v:V) (u:Value) (Q:St->Hp->Prop),Inv X pins σ H s->RelV v u->t v σ H Q ->
  wpAny (model X.prog X.w) X.A (assign target X.env u) (fun _ s'=>∃σ' H',Inv X pins σ' H' s'/\Q σ' H') X.xe s
noncomputable def PGs(X:Cx)(ts:List Expr)(t:TGs):Prop :=
 ∀(pins:List (Addr×Obj)) (s:Shared) (σ:St) (H:Hp) (vs:List V) (us:List Value) (Q:St->Hp->Prop),Inv X pins σ H s->Vals vs us->t vs σ H Q ->
  wpAny (model X.prog X.w) X.A (assignInOrder ((assignEach ts X.env).map (·.2)) us) (fun _ s'=>∃σ' H',Inv X pins σ' H' s'/\Q σ' H') X.xe s
noncomputable abbrev TSet:=V->V->V->Hp->(Hp->Prop)->Prop
noncomputable def PSet(X:Cx)(t:TSet):Prop :=
 ∀(pins:List (Addr×Obj)) (s:Shared) (σ:St) (H:Hp) (o i v:V) (ov iv u:Value) (Q:Hp->Prop),Inv X pins σ H s->RelV o ov->RelV i iv->RelV v u->t o i v H Q ->
  wpAny (model X.prog X.w) X.A (setItem ov iv u) (fun _ s'=>∃H',Inv X pins σ H' s'/\Q H') X.xe s
section
variable {X:Cx}{pos:Pos}
noncomputable def y7t(i:Nat):TG:=fun v σ H Q=>Q (σ.set i (some v)) H
theorem z6u{i:Nat}{x:Str}(hN:X.N.Nodup)(hi:X.N[i]? = some x)(hx:Loc X.env.scope x)(hf:X.fn x=true∨X.env.scope.names.lookup x=some .local:=by first | exact .inl rfl | exact .inr rfl | assumption):PG X (.Name x pos) (y7t i):=by
 intro pins s σ H v u Q I r h
 exact wpAny_assign_Name (y2g I hN hi hx r (fun s' I'=>⟨_,H,I',h⟩) hf)
noncomputable def gNil:TGs:=fun vs σ H Q=>vs=[]/\Q σ H
noncomputable def gCons(t:TG)(u:TGs):TGs:=fun vs σ H Q=>∃v r,vs=v::r/\t v σ H fun σ' H'=>u r σ' H' Q
theorem y9d:PGs X [] gNil:=by
 intro pins s σ H vs us Q I r h
 obtain⟨e,h⟩:=h
 subst e
 cases r
 exact assignInOrder_nil ⟨σ,H,I,h⟩
theorem z7r{e:Expr}{es:List Expr}{t:TG}{u:TGs}(h1:PG X e t)(h2:PGs X es u)
 (hs:(assignEach (e::es) X.env).map (·.2)=assign e X.env::(assignEach es X.env).map (·.2):=by rfl):PGs X (e::es) (gCons t u):=by
 intro pins s σ H vs us Q I r h
 obtain⟨v,vr,e1,h⟩:=h
 subst e1
 cases r with
 | cons r rr =>
   rw[hs]
   refine assignInOrder_cons (thn (h1 pins s σ H _ _ _ I r h) fun _ s1 ⟨σ1,H1,I1,q1⟩=>?_)
   exact h2 pins s1 σ1 H1 _ _ Q I1 rr q1
noncomputable def gTup(K:PySem.W.Frag)(n:Nat)(t:TGs):TG:=fun v σ H Q=>∃a xs,v = .ref a/\SqT K H a xs/\xs.length=n/\t xs σ H Q
theorem w0o{es:List Expr}{k:Nat}{t:TGs}{n:Nat}(hc:X.calm=true)(h:PGs X es t)
 (hn:(assignEach es X.env).length=n:=by rfl) (hst:(assignEach es X.env).findIdx? (·.1)=none:=by rfl):PG X (.Tuple es k pos) (gTup X.K n t):=by
 intro pins s σ H v u Q I r hw
 obtain⟨a,xs,e1,hq,hl,hw⟩:=hw
 subst e1
 cases r
 obtain⟨its,rv,ht,hz⟩:=I.tuple hq
 refine assign_Tuple_tuple (I.ok.hd hc) ht (by simp[hn,<-hl,rv.length]) hst fun h' hx=>?_
 have I1:Inv X pins σ H { s with heap:=h' }:=I.kept (t':=s.toks) fun b o e=>hx b o (Nat.ne_of_lt (Heap.lt_size e)) e
 exact h pins _ σ H xs _ Q I1 (by simpa using rv) hw
end
section
variable {X:Cx}{pos:Pos}
end
structure It where
 go:Nat->Hp->Prop
 yld:Nat->Hp->V->Hp->Prop
 stop:Nat->Hp->Prop
noncomputable def FpOk(X:Cx)(pins:List (Addr×Obj))(H:Hp)(b:Addr):Prop :=
 H b=none/\b≠X.env.locals/\b ∉ X.fs/\(b∈X.ex∨X.s₀.heap.objs.size<=b)/\(∀x c,X.env.cells.lookup x=some c->c≠b)/\∀p∈X.pn++pins,p.1≠b
theorem Inv.fpOk{X:Cx}{pins:List (Addr×Obj)}{σ:St}{H H':Hp}{s:Shared}{b:Addr}(I:Inv X pins σ H s)(hb:s.heap.objs.size<=b)(hn:H' b=none):FpOk X pins H' b:=by
 refine⟨hn,Nat.ne_of_gt (Nat.lt_of_lt_of_le I.lt hb),I.nofs hb,.inr (Nat.le_trans I.sz hb),fun x c e z=>?_,fun p hp z=>?_⟩
 ·obtain⟨v,q⟩:=I.cell x c e
  exact absurd (Nat.lt_of_lt_of_le q.lt (by rw[z];exact hb)) (Nat.lt_irrefl _)
 ·exact absurd (Nat.lt_of_lt_of_le (Heap.lt_size (I.pin p hp).1) (by rw[z];exact hb)) (Nat.lt_irrefl _)
structure Turn (P:Program) (w:World) (K:PySem.W.Frag) (tg:Expr) (J:It) (fp:List Addr) (it:Addr) (tn:Nat->Heap->Prop):Prop where
 mem:it∈fp
 obj:∀i h,tn i h->∀b∈fp,∃o,h.get? b=some o/\∀v,o.data ≠ .cell v
 keep:∀i h h',tn i h->(∀b∈fp,∀o,h.get? b=some o->h'.get? b=some o)->tn i h'
 item:∀(X:Cx),X.prog=P->X.w=w->X.K=K->X.calm=true->∀(i:Nat) (pins:List (Addr×Obj)) (s:Shared) (σ:St) (H:Hp) (E:Value->Shared->Prop),Inv X pins σ H s->(∀b∈fp,FpOk X pins H b)->tn i s.heap->J.go i H ->
  wpAny (model P w) X.A (pyNext (.ref it)) (fun r s1=>∃u,r=some u /\
   wpAny (model P w) X.A (letOwnedTupleGo tg (.ref it) u) (fun _ s2=>∃x H',Inv X pins σ H' s2/\RelV x u/\J.yld i H x H'/\tn (i+1) s2.heap/\∀b∈fp,H' b=none) E s1) E s
 done:∀(X:Cx),X.prog=P->X.w=w->X.K=K->X.calm=true->∀(i:Nat) (pins:List (Addr×Obj)) (s:Shared) (σ:St) (H:Hp) (E:Value->Shared->Prop),Inv X pins σ H s->(∀b∈fp,FpOk X pins H b)->tn i s.heap->J.stop i H ->
  wpAny (model P w) X.A (pyNext (.ref it)) (fun r s1=>r=none/\Inv X pins σ H s1) E s
 self:∀(A:Around) (i:Nat) (s:Shared) (Q:Value->Shared->Prop) (E:Value->Shared->Prop),tn i s.heap->Q (.ref it) s->wpAny (model P w) A (pyIter (.ref it)) Q E s
noncomputable abbrev TI:=St->Hp->(It->Hp->Prop)->Prop
noncomputable def PIE(X:Cx)(pins:List (Addr×Obj))(σ:St)(tg:Expr)(R:It->Hp->Prop)(itv:Value)(s2:Shared):Prop :=
 ∃(it:Addr) (fp:List Addr) (tn:Nat->Heap->Prop) (J:It) (H':Hp),itv = .ref it/\Inv X pins σ H' s2/\Turn X.prog X.w X.K tg J fp it tn/\tn 0 s2.heap/\(∀b∈fp,FpOk X pins H' b)/\R J H'
noncomputable def PI(X:Cx)(tg iter:Expr)(wi:TI):Prop :=
 ∀(pins:List (Addr×Obj)) (s:Shared) (σ:St) (H:Hp) (R:It->Hp->Prop),Inv X pins σ H s->wi σ H R ->
  wpAny (model X.prog X.w) X.A (eval iter X.env) (fun v s1=>wpAny (model X.prog X.w) X.A (pyIter v) (PIE X pins σ tg R) X.xe s1) X.xe s
theorem x8y{M:Model}{A:Around}{E:Value->Shared->Prop}{s:Shared}{tg:Expr}{it:Addr}{u:Value}{o:Obj}{n:String}{vs:Array Value}{Q:Unit->Shared->Prop}(ho:s.heap.get? it=some o)(hc:o.cls = .type n)(hd:o.data = .fields vs)
 (hn:["enumerate","zip","dict_itemiterator","dict_reverseitemiterator","odict_iterator","itertools.zip_longest","itertools.pairwise"].contains n=false) (hQ:Q () s):wpAny M A (letOwnedTupleGo tg (.ref it) u) Q E s:=by
 unfold letOwnedTupleGo
 cases tg<;>first
  | exact wpAny_pure hQ
  | (cases u<;>first
      | exact wpAny_pure hQ
      | (refine wpAny_bind (wpAny_load ho ?_)
         rw[hc,hd]
         show wpAny M A (if (["enumerate","zip","dict_itemiterator","dict_reverseitemiterator","odict_iterator","itertools.zip_longest","itertools.pairwise"].contains n&&vs[0]? == some (rawInt _))=true then _ else _) Q E s
         rw[if_neg (by intro h;rw[hn,Bool.false_and] at h;cases h)]
         exact wpAny_pure hQ))
noncomputable def Itl(K:PySem.W.Frag)(a:Addr):It :=
 ⟨fun i H=>∃xs x,SqL K H a xs/\xs[i]? = some x,fun i H x H'=>H'=H/\∀xs,SqL K H a xs->xs[i]? = some x,fun i H=>∃xs,SqL K H a xs/\xs.length<=i⟩
noncomputable def Itt(K:PySem.W.Frag)(a:Addr):It :=
 ⟨fun i H=>∃xs x,SqT K H a xs/\xs[i]? = some x,fun i H x H'=>H'=H/\∀xs,SqT K H a xs->xs[i]? = some x,fun i H=>∃xs,SqT K H a xs/\xs.length<=i⟩
noncomputable def Itr(lo:Int)(n:Nat):It:=⟨fun i _=>i<n,fun i H x H'=>H'=H/\x = .int (lo+i),fun i _=>n<=i⟩
theorem x3k{P:Program}{w:World}{K:PySem.W.Frag}{tg:Expr}(a it:Addr):Turn P w K tg (Itl K a) [it] it (fun i h=>h.IsListIter it a i) where
 mem:=by simp
 obj:=fun i h st b hb=>by
  have e:b=it:=by simpa using hb
  subst e
  obtain⟨o,e,c,d⟩:=st
  exact⟨o,e,fun v z=>by rw[d] at z;cases z⟩
 keep:=fun i h h' st k=>st.at fun o e=>k it (by simp) o e
 item:=by
  intro X hP hw hK hc i pins s σ H E I hf st hg
  subst hP hw hK
  obtain⟨xs,x,hq,hx⟩:=hg
  obtain⟨its,rv,p,hz⟩:=I.list hq
  obtain⟨u,hu,ru⟩:=rv.get hx
  obtain⟨f0,f1,f2,f3,f4,f5⟩:=hf it (by simp)
  refine wpAny_pyNext_list_item st p.isList (x:=u) (by simpa using hu) fun h' st' sb=>?_
  have I1:Inv X pins σ H { s with heap:=h' }:=I.turned (t':=s.toks) (fun b o hb e=>(sb.2 b hb).trans e) f0 f1 f3 f4 f5
  obtain⟨o,e,c,d⟩:=id st'
  exact⟨u,rfl,x8y (s:={ s with heap:=h' }) e c d (by decide) ⟨x,H,I1,ru,⟨rfl,fun ys hy=>by rw[I.list_inj hy hq];exact hx⟩,st',fun b hb=>(hf b hb).1⟩⟩
 done:=by
  intro X hP hw hK hc i pins s σ H E I hf st hg
  subst hP hw hK
  obtain⟨xs,hq,hx⟩:=hg
  obtain⟨its,rv,p,hz⟩:=I.list hq
  obtain⟨f0,f1,f2,f3,f4,f5⟩:=hf it (by simp)
  have hl:=rv.length
  exact wpAny_pyNext_list_end (I.ok.hd hc) st p.isList (by simp;lia) fun h' eb=>⟨rfl,I.turned (t':=s.toks) (fun b o hb e=>eb b o hb e) f0 f1 f3 f4 f5⟩
 self:=fun _ _ _ _ _ st h=>wpAny_pyIter_listiter st h
theorem x1k{P:Program}{w:World}{K:PySem.W.Frag}{tg:Expr}(a it:Addr):Turn P w K tg (Itt K a) [it] it (fun i h=>h.IsTupleIter it a i) where
 mem:=by simp
 obj:=fun i h st b hb=>by
  have e:b=it:=by simpa using hb
  subst e
  obtain⟨o,e,c,d⟩:=st
  exact⟨o,e,fun v z=>by rw[d] at z;cases z⟩
 keep:=fun i h h' st k=>st.at fun o e=>k it (by simp) o e
 item:=by
  intro X hP hw hK hc i pins s σ H E I hf st hg
  subst hP hw hK
  obtain⟨xs,x,hq,hx⟩:=hg
  obtain⟨its,rv,p,hz⟩:=I.tuple hq
  obtain⟨u,hu,ru⟩:=rv.get hx
  obtain⟨f0,f1,f2,f3,f4,f5⟩:=hf it (by simp)
  refine wpAny_pyNext_tuple_item st (show s.heap.IsTuple a its.toArray from p) (x:=u) (by simpa using hu) fun h' st' sb=>?_
  have I1:Inv X pins σ H { s with heap:=h' }:=I.turned (t':=s.toks) (fun b o hb e=>(sb.2 b hb).trans e) f0 f1 f3 f4 f5
  obtain⟨o,e,c,d⟩:=id st'
  exact⟨u,rfl,x8y (s:={ s with heap:=h' }) e c d (by decide) ⟨x,H,I1,ru,⟨rfl,fun ys hy=>by rw[I.tuple_inj hy hq];exact hx⟩,st',fun b hb=>(hf b hb).1⟩⟩
 done:=by
  intro X hP hw hK hc i pins s σ H E I hf st hg
  subst hP hw hK
  obtain⟨xs,hq,hx⟩:=hg
  obtain⟨its,rv,p,hz⟩:=I.tuple hq
  obtain⟨f0,f1,f2,f3,f4,f5⟩:=hf it (by simp)
  have hl:=rv.length
  exact wpAny_pyNext_tuple_end (I.ok.hd hc) st (show s.heap.IsTuple a its.toArray from p) (by simp;lia) fun h' eb=>⟨rfl,I.turned (t':=s.toks) (fun b o hb e=>eb b o hb e) f0 f1 f3 f4 f5⟩
 self:=fun _ _ _ _ _ st h=>wpAny_pyIter_tupleiter st h
theorem x1l{P:Program}{w:World}{K:PySem.W.Frag}{tg:Expr}(it:Addr)(lo:Int)(n:Nat):Turn P w K tg (Itr lo n) [it] it (fun i h=>IsRangeIter h it (lo+(i:Nat)*1) ((n:Int)-(i:Nat)) 1) where
 mem:=by simp
 obj:=fun i h st b hb=>by
  have e:b=it:=by simpa using hb
  subst e
  exact⟨_,st,fun v z=>by
   have z':Data.fields _=Data.cell v:=z
   cases z'⟩
 keep:=fun i h h' st k=>k it (by simp) _ st
 item:=by
  intro X hP hw hK hc i pins s σ H E I hf st hg
  subst hP hw hK
  obtain⟨f0,f1,f2,f3,f4,f5⟩:=hf it (by simp)
  have W:=Walks.range (prog:=X.prog) (w:=X.w) (I.ok.hd hc) it lo 1 n
  refine W.item i s _ _ hg st fun v h' tk hv st' kk=>?_
  obtain⟨t,rfl⟩:=hv
  have I1:Inv X pins σ H { s with heap:=h',toks:=tk }:=I.turned (fun b o hb e=>kk b o (by simpa using hb) e) f0 f1 f3 f4 f5
  refine⟨_,rfl,x8y (s:={ s with heap:=h',toks:=tk }) (n:="range_iterator") st' rfl rfl (by decide) ⟨.int (lo+i),H,I1,⟨t,?_⟩,⟨rfl,rfl⟩,st',fun b hb=>(hf b hb).1⟩⟩
  rw[Int.mul_one]
 done:=by
  intro X hP hw hK hc i pins s σ H E I hf st hg
  subst hP hw hK
  obtain⟨f0,f1,f2,f3,f4,f5⟩:=hf it (by simp)
  exact wpAny_pyNext_range_end (I.ok.hd hc) st (by have:n<=i:=hg;lia) fun h' eb=>⟨rfl,I.turned (t':=s.toks) (fun b o hb e=>eb b o hb e) f0 f1 f3 f4 f5⟩
 self:=fun _ _ _ _ _ st h=>wpAny_pyIter_rangeiter st h
end L2
namespace L2
open PySem PySem.Spec PyProof.Rows
section
variable {X:Cx}{tg:Expr}
theorem x0f{pins:List (Addr×Obj)}{σ:St}{H:Hp}{s:Shared}{R:It->Hp->Prop}{E:Value->Shared->Prop}{lo hi:Int}{t u v:Tok}{tk:Nat}(I:Inv X pins σ H s)(h1:-(2^62)<=lo)(h2:lo<2^62)(h3:-(2^62)<=hi)(h4:hi<2^62)
 (q:R (Itr lo (hi-lo).toNat) H):wpAny (model X.prog X.w) X.A (pyIter (.ref s.heap.objs.size)) (PIE X pins σ tg R) E { s with heap:=s.heap.push { cls:=.type "range",data:=.fields #[.int lo t,.int hi u,.int 1 v] },toks:=tk }:=by
 refine wpAny_pyIter_range (IsRange.new ..) (small_one h1 h2 h3 h4) ?_
 have I1:Inv X pins σ H { s with heap:=s.heap.push { cls:=.type "range",data:=.fields #[.int lo t,.int hi u,.int 1 v] },toks:=tk }:=I.kept fun b o e=>Heap.get?_push_of_some _ e
 refine⟨(s.heap.push { cls:=.type "range",data:=.fields #[.int lo t,.int hi u,.int 1 v] }).objs.size,[(s.heap.push { cls:=.type "range",data:=.fields #[.int lo t,.int hi u,.int 1 v] }).objs.size],_,_,H,rfl,
  I1.kept (t':=tk) fun b o e=>Heap.get?_push_of_some _ e,x1l _ lo (hi-lo).toNat,?_,fun b hb=>?_,q⟩
 ·have e1:lo+((0:Nat):Int)*1=lo:=by simp
  have e2:(((hi-lo).toNat:Nat):Int)-((0:Nat):Int)=Builtin.Range.rangeSize lo hi 1:=by rw[rangeSize_one];split<;>lia
  show IsRangeIter _ _ (lo+((0:Nat):Int)*1) ((((hi-lo).toNat:Nat):Int)-((0:Nat):Int)) 1
  rw[e1,e2]
  exact Heap.get?_push_size _ rfl
 ·have e:b=(s.heap.push { cls:=.type "range",data:=.fields #[.int lo t,.int hi u,.int 1 v] }).objs.size:=by simpa using hb
  subst e
  exact I1.fpOk (Nat.le_refl _) (I1.hok.fresh (Nat.le_refl _))
noncomputable def y2s(fp:List Addr)(h:Heap):List (Addr×Obj):=fp.filterMap fun b=>(h.get? b).map fun o=>(b,o)
theorem z2x{fp:List Addr}{h:Heap}{b:Addr}{o:Obj}(hb:b∈fp)(e:h.get? b=some o):(b,o)∈y2s fp h:=List.mem_filterMap.mpr ⟨b,hb,by rw[e];rfl⟩
theorem x4r{fp:List Addr}{h:Heap}{p:Addr×Obj}(hp:p∈y2s fp h):p.1∈fp/\h.get? p.1=some p.2:=by
 obtain⟨b,hb,e⟩:=List.mem_filterMap.mp hp
 cases q:h.get? b with
 | none=>rw[q] at e;cases e
 | some o =>
   rw[q] at e
   have e':(b,o)=p:=Option.some.inj e
   subst e'
   exact⟨hb,q⟩
theorem Inv.pinned{pins:List (Addr×Obj)}{σ:St}{H:Hp}{s:Shared}{fp:List Addr}(I:Inv X pins σ H s)(hf:∀b∈fp,FpOk X pins H b)(ho:∀b∈fp,∃o,s.heap.get? b=some o/\∀v,o.data ≠ .cell v):Inv X (pins++y2s fp s.heap) σ H s :=
 I.pins_of fun p hp=>(List.mem_append.mp hp).elim (fun z=>I.pin p (List.mem_append_right _ z)) fun z=>by
  obtain⟨hb,e⟩:=x4r z
  obtain⟨f0,f1,f2,_⟩:=hf p.1 hb
  obtain⟨o,e',d⟩:=ho p.1 hb
  rw[e] at e';cases e'
  exact⟨e,f0,f1,f2,d⟩
theorem Inv.unpinned{pins pl:List (Addr×Obj)}{σ:St}{H:Hp}{s:Shared}(I:Inv X (pins++pl) σ H s):Inv X pins σ H s:=I.pins_of fun p hp=>I.pin p (List.mem_append_right _ (List.mem_append_left _ hp))
end
end L2
namespace L2
open PySem PySem.Spec PyProof.Rows
noncomputable abbrev R2:=V->V->Hp->VK->Prop
noncomputable def OpR(X:Cx)(f:Value->Value->Sem Value)(r:R2):Prop :=
 ∀(pins:List (Addr×Obj)) (s:Shared) (σ:St) (H:Hp) (x y:V) (v u:Value) (Q:VK),Inv X pins σ H s->RelV x v->RelV y u->r x y H Q ->
  wpAny (model X.prog X.w) X.A (f v u) (EP X pins σ Q) X.xe s
noncomputable def y0d(X:Cx)(f:Value)(r:List V->Hp->VK->Prop):Prop :=
 ∀(pins:List (Addr×Obj)) (s:Shared) (σ:St) (H:Hp) (xs:List V) (us:List Value) (Q:VK),Inv X pins σ H s->Vals xs us->r xs H Q ->
  wpAny (model X.prog X.w) X.A (call f us) (EP X pins σ Q) X.xe s
noncomputable def rI(C:Int->Int->Prop)(g:Int->Int->V):R2:=fun x y H Q=>∃i j,x = .int i/\y = .int j/\C i j/\Q (g i j) H
noncomputable def rI0(g:Int->Int->V):R2:=fun x y H Q=>∃i j,x = .int i/\y = .int j/\Q (g i j) H
section
variable {X:Cx}{a b c:Expr}{ta tb tc:TE}{pos:Pos}
theorem opI{f:Value->Value->Sem Value}{C:Int->Int->Prop}{g:Int->Int->Int}
 (rule:∀(i j:Int) (t u:Tok) (s:Shared) (Q:Value->Shared->Prop) (E:Value->Shared->Prop),C i j->Q (.int (g i j) s.toks) { s with toks:=s.toks+1 }->wpAny (model X.prog X.w) X.A (f (.int i t) (.int j u)) Q E s) :
 OpR X f (rI C fun i j=>.int (g i j)):=by
 intro pins s σ H x y v u Q I rx ry h
 obtain⟨i,j,rfl,rfl,hc,q⟩:=h
 obtain⟨t,rfl⟩:=rx
 obtain⟨t',rfl⟩:=ry
 exact rule i j t t' s _ _ hc ⟨.int (g i j),H,I.tok _,⟨_,rfl⟩,q⟩
theorem opI0{f:Value->Value->Sem Value}{g:Int->Int->Int}
 (rule:∀(i j:Int) (t u:Tok) (s:Shared) (Q:Value->Shared->Prop) (E:Value->Shared->Prop),Q (.int (g i j) s.toks) { s with toks:=s.toks+1 }->wpAny (model X.prog X.w) X.A (f (.int i t) (.int j u)) Q E s) :
 OpR X f (rI0 fun i j=>.int (g i j)):=by
 intro pins s σ H x y v u Q I rx ry h
 obtain⟨i,j,rfl,rfl,q⟩:=h
 obtain⟨t,rfl⟩:=rx
 obtain⟨t',rfl⟩:=ry
 exact rule i j t t' s _ _ ⟨.int (g i j),H,I.tok _,⟨_,rfl⟩,q⟩
theorem opB0{f:Value->Value->Sem Value}{g:Int->Int->Bool}
 (rule:∀(i j:Int) (t u:Tok) (s:Shared) (Q:Value->Shared->Prop) (E:Value->Shared->Prop),Q (.bool (g i j)) s->wpAny (model X.prog X.w) X.A (f (.int i t) (.int j u)) Q E s) :
 OpR X f (rI0 fun i j=>.bl (g i j)):=by
 intro pins s σ H x y v u Q I rx ry h
 obtain⟨i,j,rfl,rfl,q⟩:=h
 obtain⟨t,rfl⟩:=rx
 obtain⟨t',rfl⟩:=ry
 exact rule i j t t' s _ _ ⟨.bl (g i j),H,I,rfl,q⟩
noncomputable def CDiv(i j:Int):Prop:=0<j/\j<1073741824
noncomputable def CPow(i j:Int):Prop:=0<=j/\j<=1000000/\i.natAbs<2^64
noncomputable def CMul(i j:Int):Prop:=(-(2^64)<i/\i<2^64)∨(-(2^64)<j/\j<2^64)
theorem CMul.ok{i j:Int}(h:CMul i j):IntMulOk i j:=by
 rcases h with ⟨h1,h2⟩ | ⟨h1,h2⟩
 ·exact .of_left (intBits_le_64 h1 h2)
 ·exact .of_right (intBits_le_64 h1 h2)
theorem w4w:OpR X (binaryOp .Add) (rI0 fun i j=>.int (i+j)):=opI0 fun _ _ _ _ _ _ _ q=>add_int q
theorem w4s:OpR X (binaryOp .Sub) (rI0 fun i j=>.int (i-j)):=opI0 fun _ _ _ _ _ _ _ q=>sub_int q
theorem w4u:OpR X (binaryOp .Mult) (rI CMul fun i j=>.int (i*j)):=opI fun _ _ _ _ _ _ _ hc q=>mul_int q hc.ok
theorem w2m:OpR X (binaryOp .FloorDiv) (rI CDiv fun i j=>.int (i/j)):=opI fun i j _ _ _ _ _ hc q=>by
 have h1:(0:Int)<j:=hc.1
 have h2:j<1073741824:=hc.2
 exact floordiv_int (by lia) (by rw[Int.fdiv_eq_ediv_of_nonneg i (by lia)];exact q) (.inl (PyProof.noPylong_small (by lia)))
theorem w4v:OpR X (binaryOp .Mod) (rI (fun _ j=>0<j) fun i j=>.int (i%j)):=opI fun i j _ _ _ _ _ hc q=>by
 have h1:(0:Int)<j:=hc
 exact mod_int' (by lia) (by rw[Int.fmod_eq_emod_of_nonneg i (by lia)];exact q)
theorem w4t:OpR X (binaryOp .Pow) (rI CPow fun i j=>.int (i^j.toNat)):=opI fun _ _ _ _ _ _ _ hc q=>pow_int_small hc.1 hc.2.1 hc.2.2 q
end
section
variable {X:Cx}{a b c:Expr}{ta tb tc:TE}{pos:Pos}
theorem w6r:OpR X (compareOp .Lt) (rI0 fun i j=>.bl (decide (i<j))):=opB0 fun _ _ _ _ _ _ _ q=>lt_int q
theorem w6s:OpR X (compareOp .LtE) (rI0 fun i j=>.bl (decide (i<=j))):=opB0 fun _ _ _ _ _ _ _ q=>le_int q
theorem w6t:OpR X (compareOp .Gt) (rI0 fun i j=>.bl (decide (j<i))):=opB0 fun _ _ _ _ _ _ _ q=>gt_int q
theorem w6u:OpR X (compareOp .GtE) (rI0 fun i j=>.bl (decide (j<=i))):=opB0 fun _ _ _ _ _ _ _ q=>ge_int q
theorem OpR.or{f:Value->Value->Sem Value}{r r':R2}(h:OpR X f r)(h':OpR X f r'):OpR X f (fun x y H Q=>r x y H Q∨r' x y H Q):=by
 intro pins s σ H x y v u Q I rx ry q
 rcases q with q | q
 ·exact h pins s σ H x y v u Q I rx ry q
 ·exact h' pins s σ H x y v u Q I rx ry q
theorem z0x(b:Expr){op:CmpOp}(h:op ≠ .In:=by decide)(h2:op ≠ .NotIn:=by decide):behindInMarks op b=false:=by
 have e1:(op==CmpOp.In)=false:=by cases op<;>first | rfl | exact absurd rfl h
 have e2:(op==CmpOp.NotIn)=false:=by cases op<;>first | rfl | exact absurd rfl h2
 cases b<;>simp[behindInMarks,e1,e2]
theorem x0r:(sizeLine:Nat)<2^63:=by rw[sizeLine_eq];decide
theorem y8t{x:V}{us:List Value}(r:Vals [x] us):∃u,us=[u]/\RelV x u:=by
 cases r with
 | cons r1 r2=>cases r2;exact⟨_,rfl,r1⟩
theorem w3x{x y:V}{us:List Value}(r:Vals [x,y] us):∃u w',us=[u,w']/\RelV x u/\RelV y w':=by
 cases r with
 | cons r1 r2 =>
   cases r2 with
   | cons r3 r4=>cases r4;exact⟨_,_,rfl,r1,r3⟩
theorem x6x(hc:X.calm=true):y0d X (.builtin "max") (fun xs H Q=>∃i j,xs=[.int i,.int j]/\Q (.int (if j>i then j else i)) H):=by
 intro pins s σ H xs us Q I r h
 obtain⟨i,j,rfl,q⟩:=h
 obtain⟨u,w',rfl,⟨t,rfl⟩,⟨t',rfl⟩⟩:=w3x r
 refine max_two_ints (I.ok.hd hc) fun h' tk k=>⟨_,H,I.kept k,?_,q⟩
 by_cases hj:j>i
 ·rw[if_pos hj,if_pos hj];exact⟨_,rfl⟩
 ·rw[if_neg hj,if_neg hj];exact⟨_,rfl⟩
theorem x6w(hc:X.calm=true):y0d X (.builtin "min") (fun xs H Q=>∃i j,xs=[.int i,.int j]/\Q (.int (if j<i then j else i)) H):=by
 intro pins s σ H xs us Q I r h
 obtain⟨i,j,rfl,q⟩:=h
 obtain⟨u,w',rfl,⟨t,rfl⟩,⟨t',rfl⟩⟩:=w3x r
 refine min_two_ints (I.ok.hd hc) fun h' tk k=>⟨_,H,I.kept k,?_,q⟩
 by_cases hj:j<i
 ·rw[if_pos hj,if_pos hj];exact⟨_,rfl⟩
 ·rw[if_neg hj,if_neg hj];exact⟨_,rfl⟩
end
end L2
namespace L2
open PySem PySem.Spec PyProof.Rows
structure ObjM (h:Heap) (x dx C:Addr) (mA:Str->Option Value):Prop where
 obj:h.get? x=some (PySem.W.instObj C dx)
 ns:h.Ns1 dx mA
 ne:dx≠x
section
variable {prog:Program}{w:World}{A:Around}{E:Value->Shared->Prop}{s:Shared}{K:PySem.W.Frag}{x dx C f:Addr}{mA:Str->Option Value}{name:Str}{v:Value}
end
section
variable {P:Program}{w:World}{H H':Hp}{h h':Heap}{a C dx:Addr}{fs fs':List (Str×V)}
end
structure Cls (K:PySem.W.Frag) (C:Addr):Prop where
 pg:PySem.W.plainGet K C Str.empty=true
 hd:PySem.W.hasDictIn K C=true
 po:PySem.W.plainOver K C=true
 sa:PySem.W.findIn K (.ref C) "__setattr__"=some (some (.builtin "object.__setattr__"))
structure Con (K:PySem.W.Frag) (C:Addr) (f:Str) (v:V) (u:Value):Prop where
 at_:PySem.W.findIn K (.ref C) f=some (some u)
 rel:RelV v u
 get:PySem.W.specialIn K u "__get__"=some none
 cp:PySem.W.copiedNames.contains f=false
structure Meth (K:PySem.W.Frag) (C:Addr) (m:Str) (f:Addr):Prop where
 at_:PySem.W.findIn K (.ref C) m=some (some (.ref f))
 fn:PySem.W.isFn K (.ref f)=true
 kp:PySem.W.keepIn K (.ref f)=true
section
variable {X:Cx}{pins:List (Addr×Obj)}{σ:St}{H:Hp}{s:Shared}{a C dx:Addr}{fs:List (Str×V)}{f:Str}{v:V}{A:Around}{E:Value->Shared->Prop}
end
section
variable {X:Cx}{o e value:Expr}{f:Str}{pos pos' tpos:Pos}{ta tv:TE}
end
section
variable {X:Cx}{pins:List (Addr×Obj)}{σ:St}{H:Hp}{s:Shared}{A:Around}{E:Value->Shared->Prop}{Q:Value->Shared->Prop}{c:Value}{b:Bool}
inductive TyOf (K:PySem.W.Frag) (H:Hp):V->Value->Prop where
 | non:TyOf K H .non (.type "NoneType")
 | bl (x:Bool):TyOf K H (.bl x) (.type "bool")
 | int (i:Int):TyOf K H (.int i) (.type "int")
 | str (x:Str):TyOf K H (.str x) (.type "str")
 | flt (x:UInt64):TyOf K H (.flt x) (.type "float")
 | lst {a:Addr} {xs:List V} (e:H a=some (.lst xs)):TyOf K H (.ref a) (.type "list")
 | frz {a:Addr} {o:Obj} {xs:List V} (e:H a=some (.frz o (.lst xs))):TyOf K H (.ref a) (.type "list")
 | tup {a:Addr} {xs:List V} (e:H a=some (.tup xs)):TyOf K H (.ref a) (.type "tuple")
 | dK {a:Addr} {kvs:List (Key×V)} (e:H a=some (.dK kvs)):TyOf K H (.ref a) (.type "dict")
 | dT {a:Addr} {kvs:List (List Key×V)} (e:H a=some (.dT kvs)):TyOf K H (.ref a) (.type "dict")
 | ins {a C dx:Addr} {fs:List (Str×V)} (e:H a=some (.ins C dx fs)) (cl:Cls K C) (ha:PySem.W.findIn K (.ref C) "__class__"=some (some (.builtin "object.__class__")))
    (hn:PySem.W.specialIn K (.builtin "object.__class__") "__get__"=some (some (.builtin "getset_descriptor.__get__"))) (htk:PySem.W.takesIn K (.builtin "object.__class__")=some true)
    (hm:PySem.W.mroIn K C (.type "object")=some true):TyOf K H (.ref a) (.ref C)
end
end L2
namespace L2
open PySem PySem.Spec PyProof.Rows
structure Room (k:Nat) (A:Around):Prop where
 hd:A.handled=none
 dp:A.depth+3*k+5<recursionLimit
 un:A.units+16*k+200<cLine
theorem Room.mono{j k:Nat}{A:Around}(r:Room k A)(h:j<=k):Room j A:=⟨r.hd,by have:=r.dp;lia,by have:=r.un;lia⟩
theorem Room.deeper{k:Nat}{A:Around}(r:Room (k+1) A)(env:Env):Room k (A.deeper env) :=
 ⟨r.hd,by have:=r.dp;show A.depth+1+3*k+5<_;lia,by have:=r.un;show A.units+3+16*k+200<_;lia⟩
theorem Room.depth{k:Nat}{A:Around}(r:Room k A):A.depth<recursionLimit:=by have:=r.dp;lia
theorem Room.units{k:Nat}{A:Around}(r:Room k A):A.units+64<cLine:=by have:=r.un;lia
section
variable {X:Cx}{e:Expr}{es:List Expr}{te:TE}{t:TA}{pos:Pos}
end
noncomputable abbrev Sp:=List V->Hp->VK->XK->Prop
noncomputable abbrev CXT:=List Env->Hp->Shared->XK->Value->Shared->Prop
structure Env0 (P:Program) (w:World) (K:PySem.W.Frag) (mg:Str->Option Value) (base:Heap) (A:Around) (outer:List Env) (s:Shared) (H:Hp):Prop where
 frames:A.frames=some outer
 mod:Mod K mg base
 bs:∀b o,base.get? b=some o->s.heap.get? b=some o/\H b=none
 bsz:base.objs.size<=s.heap.objs.size
 funs:s.heap.FunFrames base outer
 frf:∀b∈frs outer,H b=none
 hok:HOk P w H s.heap
 bare:AllBare s.gens
noncomputable def CE(outer:List Env)(P:Program)(w:World)(H:Hp)(s:Shared)(Q:VK)(u:Value)(s':Shared):Prop :=
 ∃v H',s'.os=s.os/\AllBare s'.gens/\Un (frs outer) [] H H' s.heap s'.heap/\HOk P w H' s'.heap/\RelV v u/\Q v H'
noncomputable def CR(CX:CXT)(outer:List Env)(P:Program)(w:World)(H:Hp)(s:Shared)(Q:VK)(E:XK)(r:Result)(s':Shared):Prop :=
 match r with
 | .ok (.ret u)=>CE outer P w H s Q u s'
 | .ok _=>False
 | .error e=>CX outer H s E e s'
structure FnOk (P:Program) (w:World) (K:PySem.W.Frag) (mg:Str->Option Value) (base:Heap) (CX:CXT) (k:Nat) (f:Addr) (fd:FuncData) (ps:List Str) (sp:Sp):Prop where
 len:∀vs H Q E,sp vs H Q E->vs.length=ps.length
 run:∀(A:Around) (outer:List Env) (s:Shared) (H:Hp) (args:Args) (us:List Value) (vs:List V) (Q:VK) (E:XK),Room k A->Env0 P w K mg base A outer s H->BindsTo s fd args (ps.zip us)->Vals vs us->sp vs H Q E ->
  codeAny (model P w) A (.call (.ref f) args) (CR CX outer P w H s Q E) s
theorem FnOk.mono{P:Program}{w:World}{K:PySem.W.Frag}{mg:Str->Option Value}{base:Heap}{CX:CXT}{j k:Nat}{f:Addr}{fd:FuncData}{ps:List Str}{sp:Sp}(F:FnOk P w K mg base CX j f fd ps sp)(h:j<=k) :
 FnOk P w K mg base CX k f fd ps sp:=⟨F.len,fun A outer s H args us vs Q E hr=>F.run A outer s H args us vs Q E (hr.mono h)⟩
theorem FnOk.imp{P:Program}{w:World}{K:PySem.W.Frag}{mg:Str->Option Value}{base:Heap}{CX:CXT}{k:Nat}{f:Addr}{fd:FuncData}{ps:List Str}{sp sp':Sp}(F:FnOk P w K mg base CX k f fd ps sp)
 (h:∀vs H Q E,sp' vs H Q E->sp vs H Q E):FnOk P w K mg base CX k f fd ps sp' :=
 ⟨fun vs H Q E q=>F.len vs H Q E (h _ _ _ _ q),fun A outer s H args us vs Q E hr he hb hv hs=>F.run A outer s H args us vs Q E hr he hb hv (h _ _ _ _ hs)⟩
section
variable {X:Cx}{pins:List (Addr×Obj)}{σ:St}{H:Hp}{s s':Shared}
theorem Inv.env0(I:Inv X pins σ H s):Env0 X.prog X.w X.K X.mg X.base X.A X.stack s H :=
 ⟨I.ok.frames,I.ok.mod,I.bs,Nat.le_trans I.ok.bsz I.sz,I.stack,I.stkFree,I.hok,I.bare⟩
theorem Inv.after{Q:VK}{u:Value}(I:Inv X pins σ H s)(h:CE X.stack X.prog X.w H s Q u s'):EP X pins σ Q u s':=by
 obtain⟨v,H',os,bare,un,hok,r,q⟩:=h
 obtain⟨hh,g,d,t,os'⟩:=s'
 obtain rfl:os'=s.os:=os
 exact⟨v,H',I.call (h':=hh) (g':=g) (d':=d) (t':=t) (ch:=[]) un hok bare (fun b z=>absurd z (by simp)),r,q⟩
end
noncomputable def y4l(K:PySem.W.Frag)(fd:FuncData)(ps:List Str)(ds:List Value):Prop :=
 ∀(s:Shared) (us:List Value),K.In s.heap->(us++ds).length=ps.length->BindsTo s fd ⟨us,[]⟩ (ps.zip (us++ds))
theorem y4l.all{K:PySem.W.Frag}{fd:FuncData}{ps:List Str}(h:∀us:List Value,us.length=ps.length->bindArgs fd ⟨us,[]⟩=pure (ps.zip us)):y4l K fd ps []:=fun s us _ hl=>by
 rw[List.append_nil] at hl ⊢
 exact .of_eq (h us hl)
section
variable {X:Cx}{CX:CXT}{k:Nat}{f C:Addr}{fd:FuncData}{ps:List Str}{sp:Sp}{dvs:List V}{ds:List Value}{E:XK}{x m:Str}{p pos apos:Pos}{e o:Expr}{es:List Expr}{ta:TE}{t:TA}
structure Mk (K:PySem.W.Frag) (C f:Addr):Prop where
 makes:PySem.W.makesIn K C=true
 init:PySem.W.findIn K (.ref C) "__init__"=some (some (.ref f))
 fn:PySem.W.isFn K (.ref f)=true
 kp:PySem.W.keepIn K (.ref C)=true
end
section
variable {X:Cx}{CX:CXT}{k:Nat}{f C:Addr}{fd:FuncData}{ps ks:List Str}{sp:Sp}{E:XK}{x m:Str}{p pos apos kpos:Pos}{e o:Expr}{es:List Expr}{kws:List Keyword}{te ta:TE}{t tk:TA}{nm:Option Str}
structure KBinds (K:PySem.W.Frag) (fd:FuncData) (ps ks:List Str) (g:List Value->List Value->List Value) (gV:List V->List V->List V):Prop where
 to:∀(s:Shared) (us ws:List Value),K.In s.heap->(g us ws).length=ps.length->BindsTo s fd ⟨us,ks.zip ws⟩ (ps.zip (g us ws))
 rel:∀{vs:List V} {us:List Value} {zs:List V} {ws:List Value},Vals vs us->Vals zs ws->Vals (gV vs zs) (g us ws)
variable {g:List Value->List Value->List Value}{gV:List V->List V->List V}
end
structure FnScope (N P:List Str) (sc:Scope):Prop where
 kind:sc.kind = .function
 co:sc.isCoroutine=false
 gen:sc.isGenerator=false
 nd:N.Nodup
 pre:N.take P.length=P
 par:∀x∈P,sc.names.lookup x=some .local∨sc.names.lookup x=some .cell
 nofree:∀y∈sc.names,y.2 ≠ .free
theorem y8h{kindOf:Str->Option NameKind}{x:Str}:∀{binds:List (Str×Value)} {m:Str->Option Value},(∀v,(x,v) ∉ binds)->bindL kindOf binds m x=m x
 | [],_,_=>rfl
 | (n,v)::r,m,h=>by
   unfold bindL
   rw[y8h fun w hw=>h w (List.mem_cons_of_mem _ hw)]
   split
   ·have:x≠n:=by rintro rfl;exact h v List.mem_cons_self
    simp[this]
   ·rfl
theorem y8j{kindOf:Str->Option NameKind}{x:Str}:∀{binds:List (Str×Value)} {m:Str->Option Value},(∀v,(x,v) ∉ binds)->bindC kindOf binds m x=m x
 | [],_,_=>rfl
 | (n,v)::r,m,h=>by
   unfold bindC
   rw[y8j fun w hw=>h w (List.mem_cons_of_mem _ hw)]
   split
   ·rfl
   ·have:x≠n:=by rintro rfl;exact h v List.mem_cons_self
    simp[this]
theorem y8i{kindOf:Str->Option NameKind}{x:Str}{v:Value}:∀{P:List Str} {vs:List Value} {i:Nat} {m:Str->Option Value},P.Nodup->P[i]? = some x->vs[i]? = some v->kindOf x=some .local ->
 bindL kindOf (P.zip vs) m x=some v
 | [],_,_,_,_,h,_,_=>by simp at h
 | _::_,[],_,_,_,_,h,_=>by simp at h
 | p::P,w::vs,0,m,nd,h1,h2,hk=>by
   simp at h1 h2;subst h1;subst h2
   show bindL kindOf ((p,w)::P.zip vs) m p=_
   unfold bindL
   rw[y8h fun v hv=>(List.nodup_cons.mp nd).1 (List.of_mem_zip hv).1,if_pos hk]
   simp
 | p::P,w::vs,i+1,m,nd,h1,h2,hk=>by
   show bindL kindOf ((p,w)::P.zip vs) m x=_
   unfold bindL
   exact y8i (i:=i) (List.nodup_cons.mp nd).2 (by simpa using h1) (by simpa using h2) hk
theorem y8k{kindOf:Str->Option NameKind}{x:Str}{v:Value}:∀{P:List Str} {vs:List Value} {i:Nat} {m:Str->Option Value},P.Nodup->P[i]? = some x->vs[i]? = some v->kindOf x≠some .local ->
 bindC kindOf (P.zip vs) m x=some v
 | [],_,_,_,_,h,_,_=>by simp at h
 | _::_,[],_,_,_,_,h,_=>by simp at h
 | p::P,w::vs,0,m,nd,h1,h2,hk=>by
   simp at h1 h2;subst h1;subst h2
   show bindC kindOf ((p,w)::P.zip vs) m p=_
   unfold bindC
   rw[y8j fun v hv=>(List.nodup_cons.mp nd).1 (List.of_mem_zip hv).1,if_neg hk]
   simp
 | p::P,w::vs,i+1,m,nd,h1,h2,hk=>by
   show bindC kindOf ((p,w)::P.zip vs) m x=_
   unfold bindC
   exact y8k (i:=i) (List.nodup_cons.mp nd).2 (by simpa using h1) (by simpa using h2) hk
noncomputable def start(N:List Str)(vs:List V):St:=vs.map some++List.replicate (N.length-vs.length) none
noncomputable def cxOf(CX:CXT)(P:Program)(w:World)(K:PySem.W.Frag)(mg:Str->Option Value)(base:Heap)(N:List Str)(qual:Str)(scope:Scope)(f:Addr)(cd:Value)(A:Around)(outer:List Env)(s:Shared)(H:Hp)(E:XK):Cx where
 prog:=P
 w:=w
 K:=K
 mg:=mg
 base:=base
 A:=A.deeper (envOfC qual scope s.heap.objs.size f cd)
 N:=N
 s₀:=s
 H₀:=H
 env:=envOfC qual scope s.heap.objs.size f cd
 outer:=outer
 stack:=envOfC qual scope s.heap.objs.size f cd::outer
 ex:=[]
 calm:=true
 fn:=fun _=>true
 pn:=[]
 xe:=fun e s'=>wpAny (model P w) (A.deeper (envOfC qual scope s.heap.objs.size f cd)) (leaving (envOfC qual scope s.heap.objs.size f cd) e) (fun _ s''=>CX outer H s E e s'') (fun e' s''=>CX outer H s E e' s'') s'
theorem x1f{sc:Scope}{n:Nat}{x:Str}(h:sc.names.lookup x=some .cell):∃c,(cellsFrom n sc.names []).lookup x=some c:=by
 have q:=PySem.W.cellsFrom_some sc.names n [] (.inl h)
 exact Option.isSome_iff_exists.mp q
theorem x5s{CX:CXT}{P:Program}{w:World}{K:PySem.W.Frag}{mg:Str->Option Value}{base:Heap}{N ps:List Str}{qual:Str}{scope:Scope}{f:Addr}{cd:Value}{A:Around}{outer:List Env}{s s1:Shared}{H:Hp}{E:XK}{us:List Value}{vs:List V}
 (S:FnScope N ps scope) (hd:A.handled=none) (e0:Env0 P w K mg base A outer s H) (hl:vs.length=ps.length) (r:Vals vs us)
 (x:InCallC s s.heap.objs.size (bindL (envOfC qual scope s.heap.objs.size f cd).kindOf (ps.zip us) fun _=>none) (cellsFrom (s.heap.objs.size+1) scope.names []) (bindC (envOfC qual scope s.heap.objs.size f cd).kindOf (ps.zip us) fun _=>none) s1) :
 Inv (cxOf CX P w K mg base N qual scope f cd A outer s H E) [] (start N vs) H s1:=by
 have hpl:ps.length<=N.length:=by have:=congrArg List.length S.pre;rw[List.length_take] at this;lia
 obtain⟨h1,tk,rfl,hk⟩:=x.done
 have noA:∀b:Addr,b ∉ (cxOf CX P w K mg base N qual scope f cd A outer s H E).ex:=fun b z=>absurd (show b∈([]:List Addr) from z) (by simp)
 refine⟨⟨e0.mod,S.kind,rfl,rfl,Nat.le_refl _,fun y z c h1 h2=>?_,fun y hy=>?_,fun y c _ h=>?_,fun _=>hd,Around.frames_deeper e0.frames,.inr ⟨rfl,rfl⟩,fun b z=>absurd z (noA b),e0.bs,e0.bsz,fun b _ _=>noA b,fun b z=>absurd z (noA b),e0.funs,e0.frf⟩,
  rfl,e0.bare,Un.kept hk,⟨_,x.toInCall.ns,fun i y v h1 h2 h3=>?_⟩,fun y c h=>⟨_,x.cell y c h⟩,e0.hok.fresh (Nat.le_refl _),fun y c h=>?_,fun p hp=>absurd (show p∈([]:List (Addr×Obj)) from hp) (by simp),e0.hok.kept hk,?_⟩
 ·exact name_of_addr x.apart (PySem.mem_of_lookup h1) (PySem.mem_of_lookup h2)
 ·have hy:scope.names.lookup y=some .cell∨scope.names.lookup y=some .free:=hy
  rcases hy with hy | hy
  ·exact x1f hy
  ·exact absurd rfl (S.nofree _ (PySem.mem_of_lookup hy))
 ·exact Nat.le_of_lt (x.above y c (PySem.mem_of_lookup h))
 ·have hi:i<vs.length:=by
   unfold start at h2
   by_cases hi:i<vs.length
   ·exact hi
   ·rw[List.getElem?_append_right (by simpa using hi)] at h2
    rw[List.getElem?_replicate] at h2
    split at h2<;>cases h2
  have ha:vs[i]? = some v:=by
   unfold start at h2
   rw[List.getElem?_append_left (by simpa using hi),List.getElem?_map] at h2
   cases e:vs[i]? with
   | none=>rw[e] at h2;cases h2
   | some a=>rw[e] at h2;cases h2;rfl
  obtain⟨u,hu,rv⟩:=r.get ha
  have hp:ps[i]? = some y:=by
   rw[<-S.pre,List.getElem?_take_of_lt (by lia)];exact h1
  have ndP:ps.Nodup:=by rw[<-S.pre];exact S.nd.sublist (List.take_sublist _ _)
  refine⟨u,rv,?_⟩
  rcases S.par y (List.mem_of_getElem? hp) with k | k
  ·exact .inl ⟨k,y8i ndP hp hu k⟩
  ·obtain⟨c,e⟩:=x1f (n:=s.heap.objs.size+1) k
   refine .inr ⟨.inl k,c,e,?_⟩
   have q:=x.cell y c e
   rw[y8k ndP hp hu (by show scope.names.lookup y≠_;rw[k];decide)] at q
   exact q
 ·exact e0.hok.fresh (Nat.le_of_lt (x.above y c (PySem.mem_of_lookup h)))
 ·unfold start
  show _=N.length
  rw[List.length_append,List.length_map,List.length_replicate]
  lia
theorem x9b{CX:CXT}{P:Program}{w:World}{K:PySem.W.Frag}{mg:Str->Option Value}{base:Heap}{k:Nat}{f:Addr}{name qual:Str}{params:Arguments}{body:List Stmt}{scope:Scope}{dV kV doc pm cdv ct oc:Value}{an od:Option Addr}
 {osl:Array (Option Value)} {N ps:List Str} {sp:Sp} (lk:K.lookup f=some ⟨oc,od,.func (PySem.W.fnOf name qual params body scope dV kV doc pm an cdv ct),osl⟩) (hcd:PySem.W.codeIn K cdv qual=true) (S:FnScope N ps scope)
 (len:∀vs H Q E,sp vs H Q E->vs.length=ps.length)
 (hbody:∀(A:Around) (outer:List Env) (s:Shared) (H:Hp) (vs:List V) (Q:VK) (E:XK),Room k (A.deeper (envOfC qual scope s.heap.objs.size f cdv))->sp vs H Q E ->
   ∃t,PSs (cxOf CX P w K mg base N qual scope f cdv A outer s H E) body t/\t { nx:=fun _ H'=>Q .non H',rt:=Q } (start N vs) H) :
 FnOk P w K mg base CX (k+1) f (PySem.W.fnOf name qual params body scope dV kV doc pm an cdv ct) ps sp:=by
 refine⟨len,fun A outer s H args us vs Q E hr e0 hb r hsp=>?_⟩
 have hl:=len _ _ _ _ hsp
 have KX:K.In s.heap:=e0.mod.kin.keeps fun b o e=>(e0.bs b o e).1
 have lim:s.heap.NoLimit:=e0.mod.nolimit.keeps fun b o e=>(e0.bs b o e).1
 have hkind:∀y∈ps.zip us,scope.names.lookup y.1=some .local∨(scope.names.lookup y.1=some .cell/\((cellsFrom (s.heap.objs.size+1) scope.names []).lookup y.1).isSome=true):=fun⟨n,v⟩ hy=>by
  rcases S.par n (List.of_mem_zip hy).1 with q | q
  ·exact .inl q
  ·exact .inr ⟨q,PySem.W.cellsFrom_some _ _ _ (.inl q)⟩
 refine codeAny_call_function hr.depth (KX _ _ lk) rfl S.co S.gen rfl (PySem.W.codeRec_of KX hcd) (hb _ _ _ _ ?_)
 refine wpAny_newFunctionEnv_cells S.kind hkind fun env he s1 x=>?_
 subst he
 refine⟨lim.keeps x.toInCall.keep,codeAny_func ?_⟩
 obtain⟨t,ht,hq⟩:=hbody A outer s H vs Q E (hr.deeper _) hsp
 have I:Inv (cxOf CX P w K mg base N qual scope f cdv A outer s H E) [] (start N vs) H s1:=x5s S hr.hd e0 hl r x
 refine wpAny_mono (ht [] s1 (start N vs) H _ I hq) (fun fl s' hs=>?_) fun e s' hs=>hs
 have fin:∀{σ':St} {H':Hp} {v:V} {u:Value},Inv (cxOf CX P w K mg base N qual scope f cdv A outer s H E) [] σ' H' s'->RelV v u->Q v H'->CE outer P w H s Q u s' :=
  fun {σ' H' v u} J rv q=>⟨v,H',J.os,J.bare,J.base,J.hok,rv,q⟩
 cases fl with
 | ret u =>
   obtain⟨v,σ',H',J,rv,q⟩:=hs
   exact fin J rv q
 | next =>
   obtain⟨σ',H',J,q⟩:=hs
   exact fin (v:=V.non) (u:=Value.none) J rfl q
 | brk =>
   obtain⟨_,_,_,q⟩:=hs
   exact False.elim q
 | cont =>
   obtain⟨_,_,_,q⟩:=hs
   exact False.elim q
end L2
namespace L2
open PySem PySem.Spec PyProof.Rows
section
variable {X:Cx}{x:Str}{p pos:Pos}{e:Expr}{es:List Expr}{t:TA}{id T:String}{r:List V->Hp->VK->Prop}
end
end L2
namespace HT
open PySem PyProof.Rows
section
open PySem.SeqAt
open PySem.AutoSeq1 (wpAny_loadPart')
open PySem.MeetsSeq PySem.MeetsSeq2 PySem.MeetsSeq3
end
section
variable {prog:Program}{w:World}{A:Around}{E:Value->Shared->Prop}{s:Shared}
theorem cat_tup{t b:Addr}{vs ws:List Value}{Q:Value->Shared->Prop}(ht:IsTup s.heap t vs.toArray)(hb:IsTup s.heap b ws.toArray)(hv:vs≠[])
 (h1:ws=[]->Q (.ref t) s) (h2:ws≠[]->Q (.ref s.heap.objs.size) { s with heap:=s.heap.push { cls:=.type "tuple",data:=.seq (vs++ws).toArray } })
 (hsz:vs.length+ws.length<=sizeLine):wpAny (model prog w) A (binaryOp .Add (.ref t) (.ref b)) Q E s:=by
 obtain⟨⟨cls,dd,data,sl⟩,ho,hc,n,hd⟩:=id ht
 obtain⟨⟨cls2,dd2,data2,sl2⟩,ho2,hc2,n2,hd2⟩:=id hb
 simp only at hc hd hc2 hd2
 subst hc hd hc2 hd2
 have e:vs.toArray++ws.toArray=(vs++ws).toArray:=by simp
 by_cases hw:ws=[]
 ·exact concat_meets ⟨_,ho,rfl⟩ ⟨_,ho2,rfl⟩ noFill_tuple_add seq_tuple_add PySem.F.slot_tuple_add PySem.F.entry_tuple_add (PySem.F.args_tuple_add_2 _ _)
   (tuple_addW1 t b vs.toArray ws.toArray n n2 dd dd2 sl sl2 (by simpa using hv) (by simp[hw])) ⟨ho,ho2,h1 hw⟩
 ·refine concat_meets ⟨_,ho,rfl⟩ ⟨_,ho2,rfl⟩ noFill_tuple_add seq_tuple_add PySem.F.slot_tuple_add PySem.F.entry_tuple_add (PySem.F.args_tuple_add_2 _ _)
   (tuple_addW2 t b vs.toArray ws.toArray n n2 dd dd2 sl sl2 (by simpa using hv) (by simpa using hw) (by rw[List.size_toArray,List.size_toArray];exact hsz)) ⟨ho,ho2,?_⟩
  rw[e]
  exact h2 hw
noncomputable def sIx(n d:Nat):Option Int->Nat
 | none=>d
 | some v=>if v<0 then (v+(n:Int)).toNat else min v.toNat n
theorem w4j(n d:Nat)(hd:d<=n)(o:Option Int):sIx n d o<=n:=by
 cases o with
 | none=>exact hd
 | some v =>
   show(if v<0 then (v+(n:Int)).toNat else min v.toNat n)<=n
   by_cases hv:v<0
   ·rw[if_pos hv];lia
   ·rw[if_neg hv];exact Nat.min_le_right _ _
theorem x6u(v:Int)(n d:Nat):(if v<0 then max (v+(n:Int)) 0 else min v (n:Int))=((sIx n d (some v):Nat):Int):=by
 show(if v<0 then max (v+(n:Int)) 0 else min v (n:Int))=(((if v<0 then (v+(n:Int)).toNat else min v.toNat n):Nat):Int)
 by_cases hv:v<0
 ·simp only[if_pos hv];lia
 ·simp only[if_neg hv];lia
theorem x3b(lo hi:Option Int)(n:Nat):Builtin.Slice.sliceAdjust lo hi 1 (n:Int)=(((sIx n 0 lo:Nat):Int),((sIx n n hi:Nat):Int)):=by
 have h1:¬((1:Int)<0):=by lia
 unfold Builtin.Slice.sliceAdjust
 simp only[h1,if_false]
 refine Prod.ext ?_ ?_
 ·cases lo with
  | none=>rfl
  | some v=>exact x6u v n 0
 ·cases hi with
  | none=>rfl
  | some v=>exact x6u v n n
theorem x2c(i j:Nat):Builtin.Slice.slicePlaces (i:Int) (j:Int) 1=j-i:=by
 unfold Builtin.Slice.slicePlaces
 have h1:(1:Int)>0:=by lia
 simp only[h1,if_true,Int.ediv_one]
 split<;>lia
theorem y4r{v:Value}{o:Option Int}{Q:Option Int->Shared->Prop}(p:IsPart v o)(h:Q o s):wpAny (model prog w) A (Builtin.Slice.slicePartIndex v) Q E s:=by
 cases p with
 | none=>exact slicePart_none h
 | int i t=>exact slicePart_int h
theorem z7x{sl:Addr}{vl vu:Value}{lo hi:Option Int}{n:Nat}{Q:Int×Int×Nat->Shared->Prop}(hs:s.heap.IsSliceOf sl vl vu .none)(pl:IsPart vl lo)(pu:IsPart vu hi)
 (h:Q (((sIx n 0 lo:Nat):Int),1,sIx n n hi-sIx n 0 lo) s):wpAny (model prog w) A (Builtin.Slice.sliceApplied (.ref sl) (pure (n:Int))) Q E s:=by
 obtain⟨os,hos,hcs,hds⟩:=id hs
 unfold Builtin.Slice.sliceApplied Builtin.Slice.sliceFields
 refine wpAny_bind (wpAny_bind (wpAny_field hos hds (x:=vl) rfl (wpAny_bind (wpAny_field hos hds (x:=vu) rfl (wpAny_bind (wpAny_field hos hds (x:=.none) rfl (wpAny_pure ?_)))))))
 refine wpAny_bind (slicePart_none ?_)
 show wpAny _ _ (if ((1:Int)==0)=true then _ else _) _ _ s
 rw[if_neg (by decide)]
 refine wpAny_bind (y4r pl (wpAny_bind (y4r pu (wpAny_bind (wpAny_pure ?_)))))
 show wpAny _ _ (match Builtin.Slice.sliceAdjust lo hi 1 (n:Int) with | (lo,hi)=>pure (lo,(1:Int),Builtin.Slice.slicePlaces lo hi 1)) _ _ s
 rw[x3b lo hi n]
 show wpAny _ _ (pure (((sIx n 0 lo:Nat):Int),(1:Int),Builtin.Slice.slicePlaces ((sIx n 0 lo:Nat):Int) ((sIx n n hi:Nat):Int) 1)) _ _ s
 rw[x2c]
 exact wpAny_pure h
theorem x8g(xs:Array Value)(i k:Nat):((List.range k).filterMap fun(m:Nat)=>xs[((i:Int)+(m:Int)*1).toNat]?).toArray=((xs.toList.drop i).take k).toArray:=by
 have e:(fun(m:Nat)=>xs[((i:Int)+(m:Int)*1).toNat]?)=fun m=>xs[i+m]?:=by
  funext m
  have:((i:Int)+(m:Int)*1).toNat=i+m:=by lia
  rw[this]
 rw[e]
 have:=pick_run xs i k
 rw[List.filterMap_map] at this
 have e2:((fun x=>xs[x]?) ∘ fun x=>i+x)=fun m=>xs[i+m]?:=rfl
 rw[e2] at this
 rw[this]
theorem getItem_tuple_cut{t sl:Addr}{items:Array Value}{vl vu:Value}{lo hi:Option Int}{Q:Value->Shared->Prop}(ht:IsTup s.heap t items)(hs:s.heap.IsSliceOf sl vl vu .none)(pl:IsPart vl lo)(pu:IsPart vu hi)
 (hw:¬(sIx items.size 0 lo=0/\sIx items.size items.size hi=items.size))
 (h:Q (.ref s.heap.objs.size) { s with heap:=s.heap.push { cls:=.type "tuple",data:=.seq ((items.toList.drop (sIx items.size 0 lo)).take (sIx items.size items.size hi-sIx items.size 0 lo)).toArray } })
 (hsz:items.size<=sizeLine):wpAny (model prog w) A (getItem (.ref t) (.ref sl)) Q E s:=by
 have htake:sizeOk (.seq ((items.toList.drop (sIx items.size 0 lo)).take (sIx items.size items.size hi-sIx items.size 0 lo)).toArray):=by
  show((items.toList.drop (sIx items.size 0 lo)).take (sIx items.size items.size hi-sIx items.size 0 lo)).toArray.size<=sizeLine
  rw[List.size_toArray,List.length_take,List.length_drop,Array.length_toList]
  lia
 have hj:sIx items.size items.size hi<=items.size:=w4j _ _ (Nat.le_refl _) hi
 obtain⟨os,hos,hcs,hds⟩:=id hs
 have hTs:s.TypeIs (.ref sl) "slice":=⟨os,hos,hcs⟩
 unfold getItem
 try with_reducible refine wpAny_holding ?_
 first | refine wpAny_bind (wpAny_pure ?_) | skip
 refine wpAny_bind (wpAny_sequenceKey ht.typeIs (by decide) ?_)
 refine wpAny_bind (wpAny_callSpecial?_slot (name:=Str.ofString "__getitem__") ht.typeIs PyProof.Rows.slot_tuple_getitem
  (wpAny_call_entry PyProof.Rows.slot_tuple_getitem ht.typeIs entry_tuple_getitem ?_ (args_tuple_getitem _ _)))
 show wpAny _ _ (Builtin.Tuple.tupleItemsOf (.ref t)>>=_) _ _ s
 refine wpAny_bind (tupleItemsOf_ ht ?_)
 refine wpAny_bind (wpAny_typeOf hTs ?_)
 rw[if_pos (by decide)]
 refine wpAny_bind (z7x hs pl pu ?_)
 have hno:¬((((sIx items.size 0 lo:Nat):Int)==0&&(1:Int)==1&&(sIx items.size items.size hi-sIx items.size 0 lo)==items.size)=true):=by
  intro q
  rw[Bool.and_eq_true,Bool.and_eq_true] at q
  have q1:((sIx items.size 0 lo:Nat):Int)=0:=eq_of_beq q.1.1
  have q2:sIx items.size items.size hi-sIx items.size 0 lo=items.size:=eq_of_beq q.2
  exact hw ⟨by lia,by lia⟩
 show wpAny _ _ (if (((sIx items.size 0 lo:Nat):Int)==0&&(1:Int)==1&&(sIx items.size items.size hi-sIx items.size 0 lo)==items.size)=true then _ else _) _ _ s
 rw[if_neg hno,x8g]
 first
  | exact wpAny_bind (m:=Builtin.Tuple.tupleExact _) (wpAny_newObj_type (wpAny_pure ⟨_,rfl,wpAny_pure h⟩) htake)
  | exact wpAny_bind (m:=Builtin.Tuple.tupleExact _) (wpAny_newObj_type (wpAny_bind (wpAny_pure (wpAny_pure ⟨_,rfl,wpAny_pure h⟩))) htake)
  | exact wpAny_bind (wpAny_bind (m:=Builtin.Tuple.tupleExact _) (wpAny_newObj_type (wpAny_pure (wpAny_pure ⟨_,rfl,wpAny_pure h⟩)) htake))
  | exact wpAny_bind (wpAny_bind (m:=Builtin.Tuple.tupleExact _) (wpAny_newObj_type (wpAny_pure ⟨_,rfl,wpAny_pure h⟩) htake))
end
end HT
namespace L2
open PySem PySem.Spec PyProof.Rows
noncomputable abbrev TO:=St->Hp->(Option Int->Hp->Prop)->Prop
theorem intsAre_of{ns:List Int}:∀{us:List Value},Vals (ns.map V.int) us->IntsAre us ns:=by
 induction ns with
 | nil=>intro us r;rw[List.map_nil] at r;cases r;exact .nil
 | cons n ns ih =>
   intro us r
   rw[List.map_cons] at r
   cases r with
   | cons r1 r2 =>
     obtain⟨t,e⟩:=r1
     subst e
     exact .cons n t (ih r2)
section
variable {X:Cx}{e:Expr}{te:TE}{lo hi:Option Expr}{tl th:TO}{pos p2:Pos}
noncomputable def SlR(X:Cx)(r:V->Option Int->Option Int->Hp->VK->Prop):Prop :=
 ∀(pins:List (Addr×Obj)) (s:Shared) (σ:St) (H:Hp) (x:V) (v vl vu:Value) (lo hi:Option Int) (sl:Addr) (Q:VK),Inv X pins σ H s->RelV x v->s.heap.IsSliceOf sl vl vu .none->IsPart vl lo->IsPart vu hi->r x lo hi H Q ->
  ∃T id,typeLookup (.type T) "__getitem__"=pure (some (.builtin id))/\s.TypeIs v T/\wpAny (model X.prog X.w) X.A (getItem v (.ref sl)) (EP X pins σ Q) X.xe s
theorem SlR.or{r r':V->Option Int->Option Int->Hp->VK->Prop}(h:SlR X r)(h':SlR X r'):SlR X (fun x lo hi H Q=>r x lo hi H Q∨r' x lo hi H Q):=by
 intro pins s σ H x v vl vu lo hi sl Q I rx hs pl pu q
 rcases q with q | q
 ·exact h pins s σ H x v vl vu lo hi sl Q I rx hs pl pu q
 ·exact h' pins s σ H x v vl vu lo hi sl Q I rx hs pl pu q
noncomputable def cutV(xs:List V)(lo hi:Option Int):List V:=(xs.drop (HT.sIx xs.length 0 lo)).take (HT.sIx xs.length xs.length hi-HT.sIx xs.length 0 lo)
theorem y3y(xs:List V)(lo hi:Option Int):(cutV xs lo hi).length<=xs.length:=by
 unfold cutV
 rw[List.length_take,List.length_drop]
 lia
noncomputable def rSlT(K:PySem.W.Frag):V->Option Int->Option Int->Hp->VK->Prop:=fun x lo hi H Q=>∃a xs,x = .ref a/\SqT K H a xs /\
 ¬(HT.sIx xs.length 0 lo=0/\HT.sIx xs.length xs.length hi=xs.length)/\∀p,H p=none->Q (.ref p) (upd H p (.tup (cutV xs lo hi)))
theorem w4e:SlR X (rSlT X.K):=by
 intro pins s σ H x v vl vu lo hi sl Q I rx hs pl pu h
 obtain⟨a,xs,rfl,hx,hw,q⟩:=h
 cases rx
 obtain⟨its,r,ht,hz⟩:=I.tuple hx
 have hlen:its.toArray.size=xs.length:=by rw[List.size_toArray];exact r.length.symm
 refine⟨"tuple",_,PyProof.Rows.slot_tuple_getitem.lookup,ht.typeIs,?_⟩
 refine HT.getItem_tuple_cut ht hs pl pu (by rw[hlen];exact hw) ?_ (by rw[hlen];exact hz)
 rw[hlen]
 refine⟨.ref s.heap.objs.size,_,I.laid (t':=s.toks) (o:=.tup (cutV xs lo hi)) (fun b ob q=>Heap.get?_push_of_some _ q) (Nat.le_refl _) ?_,rfl,q _ (I.hok.fresh (Nat.le_refl _))⟩
 exact⟨Nat.le_trans (y3y xs lo hi) hz,_,(r.drop (HT.sIx xs.length 0 lo)).take (HT.sIx xs.length xs.length hi-HT.sIx xs.length 0 lo),IsTup.new _ _⟩
noncomputable def w6k(K:PySem.W.Frag):R2:=fun x y H Q=>∃a b xs ys,x = .ref a/\y = .ref b/\SqT K H a xs/\SqT K H b ys/\xs≠[]/\xs.length+ys.length<=sizeLine /\
 (ys=[]->Q (.ref a) H)/\(ys≠[]->∀p,H p=none->Q (.ref p) (upd H p (.tup (xs++ys))))
theorem Vals.nil_iff{xs:List V}{us:List Value}(r:Vals xs us):us=[]↔xs=[]:=by
 cases r with
 | nil=>simp
 | cons _ _=>simp
theorem w2n:OpR X (binaryOp .Add) (w6k X.K):=by
 intro pins s σ H x y v u Q I rx ry h
 obtain⟨a,b,xs,ys,rfl,rfl,ha,hb,hx,hz,q1,q2⟩:=h
 cases rx
 cases ry
 obtain⟨its,r1,p1,_⟩:=I.tuple ha
 obtain⟨its2,r2,p2,_⟩:=I.tuple hb
 refine HT.cat_tup p1 p2 (fun z=>hx (r1.nil_iff.mp z)) (fun z=>⟨.ref a,H,I,rfl,q1 (r2.nil_iff.mp z)⟩) (fun z=>?_) (by rw[<-r1.length,<-r2.length];exact hz)
 refine⟨.ref s.heap.objs.size,_,I.laid (t':=s.toks) (o:=.tup (xs++ys)) (fun b ob q=>Heap.get?_push_of_some _ q) (Nat.le_refl _) ?_,rfl,q2 (fun w=>z (r2.nil_iff.mpr w)) _ (I.hok.fresh (Nat.le_refl _))⟩
 exact⟨by rw[List.length_append];exact hz,_,r1.append r2,IsTup.new _ _⟩
end
end L2
namespace L2
open PySem PySem.Spec PyProof.Rows
noncomputable def ixN(n:Nat)(i:Int):Option Nat:=if 0<=i then (if i<n then some i.toNat else none) else if -(n:Int)<=i then some (i+n).toNat else none
noncomputable def atI{α:Type}(xs:List α)(i:Int):Option α:=(ixN xs.length i).bind fun j=>xs[j]?
theorem x5r{n:Nat}{i:Int}{j:Nat}(h:ixN n i=some j):seqIndex? i n=some j/\j<n /\ -(n:Int)<=i/\i<n:=by
 unfold ixN at h
 by_cases h0:0<=i
 ·rw[if_pos h0] at h
  by_cases h1:i<n
  ·rw[if_pos h1] at h
   have e:i.toNat=j:=Option.some.inj h
   exact⟨by rw[seqIndex_of h0 h1,e],by lia,by lia,h1⟩
  ·rw[if_neg h1] at h;cases h
 ·rw[if_neg h0] at h
  by_cases h1:-(n:Int)<=i
  ·rw[if_pos h1] at h
   have e:(i+n).toNat=j:=Option.some.inj h
   exact⟨by rw[seqIndex_neg (by lia) h1,e],by lia,h1,by lia⟩
  ·rw[if_neg h1] at h;cases h
theorem x7d{α:Type}{xs:List α}{i:Int}{v:α}(h:atI xs i=some v):∃j,seqIndex? i xs.length=some j/\xs[j]? = some v/\j<xs.length /\ -(xs.length:Int)<=i/\i<xs.length:=by
 unfold atI at h
 cases e:ixN xs.length i with
 | none=>rw[e] at h;cases h
 | some j =>
   rw[e] at h
   obtain⟨h1,h2,h3,h4⟩:=x5r e
   exact⟨j,h1,h,h2,h3,h4⟩
noncomputable def w3w(b:Expr):Prop:=∀o i,subscripted b false o i=operate [o,i] (getItem o i)
noncomputable def IxR(X:Cx)(r:R2):Prop :=
 ∀(value slice:Expr) (pins:List (Addr×Obj)) (s:Shared) (σ:St) (H:Hp) (x y:V) (v u:Value) (Q:VK),Inv X pins σ H s->RelV x v->RelV y u->r x y H Q ->
  subscripted slice false v u=operate [v,u] (getItem v u)->wpAny (model X.prog X.w) X.A (subscriptTail value slice v u) (EP X pins σ Q) X.xe s
section
variable {X:Cx}{a b:Expr}{ta tb:TE}{pos:Pos}
noncomputable def rIxL(K:PySem.W.Frag):R2:=fun x y H Q=>∃p xs i v,x = .ref p/\y = .int i/\SqL K H p xs/\atI xs i=some v/\Q v H
noncomputable def rIxT(K:PySem.W.Frag):R2:=fun x y H Q=>∃p xs i v,x = .ref p/\y = .int i/\SqT K H p xs/\atI xs i=some v/\Q v H
theorem w3f:IxR X (rIxL X.K):=by
 intro value slice pins s σ H x y v u Q I rx ry h hs
 obtain⟨p,xs,i,z,rfl,rfl,hq,he,q⟩:=h
 cases rx
 obtain⟨t,rfl⟩:=ry
 obtain⟨its,r,pl,hz⟩:=I.list hq
 obtain⟨j,h1,h2,h3,h4,h5⟩:=x7d he
 obtain⟨w,ew,rw'⟩:=r.get h2
 have hl:=r.length
 have hn:=x0r
 have fin:EP X pins σ Q w s:=⟨z,H,I,rw',q⟩
 by_cases h0:0<=i
 ·have hj:i.toNat=j:=by
   rw[seqIndex_of h0 h5] at h1
   exact Option.some.inj h1
  exact item_listR pl.isList h0 (by lia) (by rw[hj];simpa using ew) fin hs
 ·have hj:(i+(its.toArray.size:Int)).toNat=j:=by
   rw[seqIndex_neg (by lia) h4] at h1
   rw[List.size_toArray,<-hl]
   exact Option.some.inj h1
  exact subscriptTail_builtinR (x:=w) pl.isList.typeIs slot_list_getitem.lookup
   (wpAny_getItem_list_neg (Q:=fun r s'=>r=w/\EP X pins σ Q r s') pl.isList (by lia) (by rw[List.size_toArray]<;>lia) (by lia) (by rw[hj];simpa using ew) ⟨rfl,fin⟩) hs
theorem w5p:IxR X (rIxT X.K):=by
 intro value slice pins s σ H x y v u Q I rx ry h hs
 obtain⟨p,xs,i,z,rfl,rfl,hq,he,q⟩:=h
 cases rx
 obtain⟨t,rfl⟩:=ry
 obtain⟨its,r,pl,hz⟩:=I.tuple hq
 obtain⟨j,h1,h2,h3,h4,h5⟩:=x7d he
 obtain⟨w,ew,rw'⟩:=r.get h2
 have hl:=r.length
 have hn:=x0r
 have fin:EP X pins σ Q w s:=⟨z,H,I,rw',q⟩
 exact subscriptTail_builtinR (x:=w) pl.typeIs slot_tuple_getitem.lookup
  (getItem_tuple (j:=j) (Q:=fun r s'=>r=w/\EP X pins σ Q r s') pl (by lia) (by lia) (by rw[List.size_toArray,<-hl];exact h1) (by simpa using ew) ⟨rfl,fin⟩) hs
theorem x2i(its:List Value)(n j:Nat)(u:Value):Obj.mapSeq (·.setIfInBounds j u) { cls:=.type "list",data:=.seq its.toArray n }={ cls:=.type "list",data:=.seq (its.set j u).toArray n }:=by
 simp[Obj.mapSeq]
theorem Inv.lst{pins:List (Addr×Obj)}{σ:St}{H:Hp}{s:Shared}{p:Addr}{xs:List V}(I:Inv X pins σ H s)(h:H p=some (.lst xs)) :
 ∃(its:List Value) (n:Nat),Vals xs its/\s.heap.get? p=some { cls:=.type "list",data:=.seq its.toArray n }/\xs.length<=sizeLine:=by
 obtain⟨z,its,n,r,e⟩:=I.hok p _ h
 exact⟨its,n,r,e,z⟩
theorem Inv.lstUpd{pins:List (Addr×Obj)}{σ:St}{H:Hp}{s:Shared}{p:Addr}{xs ys:List V}{its its':List Value}{n n':Nat}{f:Obj->Obj}(I:Inv X pins σ H s)(h:H p=some (.lst xs))
 (ho:s.heap.get? p=some { cls:=.type "list",data:=.seq its.toArray n }) (hf:f { cls:=.type "list",data:=.seq its.toArray n }={ cls:=.type "list",data:=.seq its'.toArray n' }) (r:Vals ys its') (hz:ys.length<=sizeLine) (t:Nat) :
 Inv X pins σ (upd H p (.lst ys)) { s with heap:=s.heap.update p f,toks:=t }:=by
 have e:(s.heap.update p f).get? p=some { cls:=.type "list",data:=.seq its'.toArray n' }:=by
  rw[Heap.get?_update_self f ho (by rw[hf]<;>rfl),hf]
 refine I.write (x:=p) (e:=p) (by rw[h];trivial) (.inl rfl) (fun b u hb q=>(Heap.get?_update_other _ _ (Ne.symm hb)).trans q) ⟨_,e⟩ ?_
 exact⟨hz,its',n',r,e⟩
noncomputable def w6i:V->V->V->Hp->(Hp->Prop)->Prop:=fun o i v H Q=>∃p xs k j,o = .ref p/\i = .int k/\H p=some (.lst xs)/\ixN xs.length k=some j/\Q (upd H p (.lst (xs.set j v)))
theorem x7t:PSet X w6i:=by
 intro pins s σ H o i v ov iv u Q I ro ri rv h
 obtain⟨p,xs,k,j,rfl,rfl,hp,hj,q⟩:=h
 cases ro
 obtain⟨t,rfl⟩:=ri
 obtain⟨its,n,r,ho,hz⟩:=I.lst hp
 obtain⟨h1,h2,h3,h4⟩:=x5r hj
 have hl:=r.length
 have hn:=x0r
 have I':Inv X pins σ (upd H p (.lst (xs.set j v))) { s with heap:=s.heap.update p (Obj.mapSeq (·.setIfInBounds j u)) } :=
  I.lstUpd hp ho (x2i its n j u) (r.set rv j) (by rw[List.length_set];exact hz) s.toks
 by_cases h0:0<=k
 ·have hk:k.toNat=j:=by
   rw[seqIndex_of h0 h4] at h1
   exact Option.some.inj h1
  exact PySem.W.ki_setAt ho h0 (by lia) (by rw[List.size_toArray,<-hl];exact h4) (by rw[hk];exact⟨_,I',q⟩)
 ·have hk:(k+(its.toArray.size:Int)).toNat=j:=by
   rw[seqIndex_neg (by lia) h3] at h1
   rw[List.size_toArray,<-hl]
   exact Option.some.inj h1
  exact PySem.W.ki_setBack ho (by lia) (by rw[List.size_toArray,<-hl];exact h3) (by lia) (by rw[hk];exact⟨_,I',q⟩)
theorem y7a(lo hi:Option Int)(n:Nat):(sliceBounds lo hi none n).1=((HT.sIx n 0 lo:Nat):Int)/\(sliceBounds lo hi none n).2.1=((HT.sIx n n hi:Nat):Int)/\(sliceBounds lo hi none n).2.2=1:=by
 refine⟨?_,?_,rfl⟩
 ·cases lo with
  | none=>simp[sliceBounds,HT.sIx]
  | some i =>
    simp only[sliceBounds,HT.sIx,Option.getD_none,show(1:Int)>0 by decide,if_true]
    by_cases h:i<0
    ·simp only[h,if_true]<;>lia
    ·simp only[h,if_false]<;>lia
 ·cases hi with
  | none=>simp[sliceBounds,HT.sIx]
  | some i =>
    simp only[sliceBounds,HT.sIx,Option.getD_none,show(1:Int)>0 by decide,if_true]
    by_cases h:i<0
    ·simp only[h,if_true]<;>lia
    ·simp only[h,if_false]<;>lia
theorem y5j(its:List Value)(lo hi:Option Int):slicePick its.toArray lo hi none=((its.drop (HT.sIx its.length 0 lo)).take (HT.sIx its.length its.length hi-HT.sIx its.length 0 lo)).toArray:=by
 obtain⟨h1,h2,h3⟩:=y7a lo hi its.toArray.size
 unfold slicePick
 rw[h1,h2,h3]
 simp only[sliceRange_one,pick_run,List.size_toArray]<;>rfl
noncomputable def rSlL(K:PySem.W.Frag):V->Option Int->Option Int->Hp->VK->Prop:=fun x lo hi H Q=>∃a xs,x = .ref a/\SqL K H a xs/\∀p,H p=none->Q (.ref p) (upd H p (.lst (cutV xs lo hi)))
theorem w1q:SlR X (rSlL X.K):=by
 intro pins s σ H x v vl vu lo hi sl Q I rx hs pl pu h
 obtain⟨a,xs,rfl,hx,q⟩:=h
 cases rx
 obtain⟨its,r,ht,hz⟩:=I.list hx
 have hlen:=r.length
 refine⟨"list",_,slot_list_getitem.lookup,ht.isList.typeIs,?_⟩
 refine wpAny_getItem_list_slice ht.isList hs pl pu .none (by simp) ?_ (by rw[List.size_toArray]<;>lia)
 rw[y5j,<-hlen]
 refine⟨.ref s.heap.objs.size,_,I.laid (t':=s.toks) (o:=.lst (cutV xs lo hi)) (fun b ob q=>Heap.get?_push_of_some _ q) (Nat.le_refl _) ?_,rfl,q _ (I.hok.fresh (Nat.le_refl _))⟩
 exact⟨Nat.le_trans (y3y xs lo hi) hz,_,0,(r.drop (HT.sIx xs.length 0 lo)).take (HT.sIx xs.length xs.length hi-HT.sIx xs.length 0 lo),Heap.get?_push_size _ rfl⟩
theorem y8e:y0d X (.builtin "len") (fun xs H Q=>∃p ys,xs=[.ref p]/\(SqL X.K H p ys∨SqT X.K H p ys)/\Q (.int ys.length) H):=by
 intro pins s σ H xs us Q I r h
 obtain⟨p,ys,rfl,hq,q⟩:=h
 obtain⟨u,rfl,rx⟩:=y8t r
 cases rx
 have hn:=x0r
 rcases hq with hq | hq
 ·obtain⟨its,r',pl,hz⟩:=I.list hq
  have hlen:=r'.length
  exact Calls.call_len_list pl.isList (by simp only[List.size_toArray]<;>lia) ⟨.int ys.length,H,I.tok _,⟨s.toks+1,by rw[List.size_toArray,hlen]⟩,q⟩
 ·obtain⟨its,r',pl,hz⟩:=I.tuple hq
  have hlen:=r'.length
  exact len_tuple pl (by simp only[List.size_toArray]<;>lia) ⟨.int ys.length,H,I.tok _,⟨s.toks+1,by rw[List.size_toArray,hlen]⟩,q⟩
theorem y0d.or{f:Value}{r r':List V->Hp->VK->Prop}(h:y0d X f r)(h':y0d X f r'):y0d X f (fun xs H Q=>r xs H Q∨r' xs H Q):=by
 intro pins s σ H xs us Q I rs q
 rcases q with q | q
 ·exact h pins s σ H xs us Q I rs q
 ·exact h' pins s σ H xs us Q I rs q
theorem y8d:y0d X (.type "list") (fun xs H Q=>∃p ys,xs=[.ref p]/\(SqL X.K H p ys∨SqT X.K H p ys)/\∀l,H l=none->Q (.ref l) (upd H l (.lst ys))):=by
 intro pins s σ H xs us Q I r h
 obtain⟨p,ys,rfl,hq,q⟩:=h
 obtain⟨u,rfl,rx⟩:=y8t r
 cases rx
 have fin:∀(its:List Value),Vals ys its->ys.length<=sizeLine->∀(h':Heap) (c':Nat),(∀b o',s.heap.get? b=some o'->h'.get? b=some o') ->
  h'.get? s.heap.objs.size=some { cls:=.type "list",dict:=none,data:=.seq its.toArray c',slots:=#[] }->EP X pins σ Q (.ref s.heap.objs.size) { s with heap:=h' }:=fun its r' hz h' c' kp e =>
  ⟨.ref s.heap.objs.size,_,I.laid (t':=s.toks) kp (Nat.le_refl _) (show z7k X.prog X.w _ h' _ (.lst ys) from⟨hz,its,c',r',e⟩),rfl,q _ (I.hok.fresh (Nat.le_refl _))⟩
 rcases hq with hq | hq
 ·obtain⟨its,r',pl,hz⟩:=I.list hq
  have hlen:=r'.length
  obtain⟨o,ho,hc,n,hd⟩:=pl.isList
  exact call_list_seq p (.inl rfl) ho hc hd (fun h' c' kp e=>fin its r' hz h' c' kp e) (by simp only[List.size_toArray]<;>lia)
 ·obtain⟨its,r',pl,hz⟩:=I.tuple hq
  have hlen:=r'.length
  obtain⟨o,ho,hc,n,hd⟩:=pl
  exact call_list_seq p (.inr rfl) ho hc hd (fun h' c' kp e=>fin its r' hz h' c' kp e) (by simp only[List.size_toArray]<;>lia)
theorem y6i:y0d X (.type "tuple") (fun xs H Q=>∃p ys,xs=[.ref p]/\((SqL X.K H p ys/\∀l,H l=none->Q (.ref l) (upd H l (.tup ys)))∨(SqT X.K H p ys/\Q (.ref p) H))):=by
 intro pins s σ H xs us Q I r h
 obtain⟨p,ys,rfl,h⟩:=h
 obtain⟨u,rfl,rx⟩:=y8t r
 cases rx
 rcases h with ⟨hq,q⟩ | ⟨hq,q⟩
 ·obtain⟨its,r',pl,hz⟩:=I.list hq
  have hlen:=r'.length
  refine call_tuple_list pl.isList (fun h' kp=>?_) (by simp only[List.size_toArray]<;>lia)
  have I1:Inv X pins σ H { s with heap:=h' }:=I.kept (t':=s.toks) kp
  have I2:Inv X pins σ (upd H h'.objs.size (.tup ys)) { s with heap:=h'.push { cls:=.type "tuple",data:=.seq its.toArray } } :=
   I1.laid (t':=s.toks) (fun b o e=>Heap.get?_push_of_some _ e) (Nat.le_refl _) (show z7k X.prog X.w _ _ _ (.tup ys) from⟨hz,its,r',IsTup.new _ _⟩)
  exact⟨.ref h'.objs.size,_,I2,rfl,q _ (I1.hok.fresh (Nat.le_refl _))⟩
 ·obtain⟨its,r',pl,hz⟩:=I.tuple hq
  exact call_tuple_same pl ⟨.ref p,H,I,rfl,q⟩
noncomputable def tyV(K:PySem.W.Frag)(T:String)(x:V)(H:Hp):Prop:=match x with
 | .str _=>T="str"
 | .int _=>T="int"
 | .ref p=>(T="list"/\∃xs,SqL K H p xs)∨(T="tuple"/\∃o,K.lookup p=some o/\o.cls = .type "tuple"/\o.dict=none) ∨
    (T="dict"/\((∃kvs,H p=some (.dK kvs))∨∃kvs,H p=some (.dT kvs)))∨(T="set"/\∃S n,H p=some (.set S n))
 | _=>False
theorem x3i{pins:List (Addr×Obj)}{σ:St}{H:Hp}{s:Shared}{T:String}{x:V}{v:Value}(I:Inv X pins σ H s)(r:RelV x v)(ty:tyV X.K T x H) :
 s.TypeIs v T/\∀a,v = .ref a->∃ob,s.heap.get? a=some ob/\ob.dict=none:=by
 cases x with
 | str z =>
   obtain⟨t,rfl⟩:=r
   cases (show T="str" from ty)
   exact⟨typeIs_str s z t,fun _ e=>nomatch e⟩
 | int i =>
   obtain⟨t,rfl⟩:=r
   cases (show T="int" from ty)
   exact⟨typeIs_int s i t,fun _ e=>nomatch e⟩
 | ref p =>
   cases r
   rcases ty with ⟨rfl,xs,hq⟩ | ⟨rfl,o,hk,hc,hd⟩ | ⟨rfl,hk⟩ | ⟨rfl,S,n,hk⟩
   ·obtain⟨its,_,pl,_⟩:=I.list hq
    refine⟨pl.isList.typeIs,fun a e=>?_⟩
    cases e
    obtain⟨o,n,e,c,hd,_⟩:=pl
    exact⟨o,e,hd⟩
   ·refine⟨⟨o,I.kIn p o hk,hc⟩,fun a e=>?_⟩
    cases e
    exact⟨o,I.kIn _ o hk,hd⟩
   ·have z:∃o,s.heap.get? p=some o/\o.ExactDict:=by
     rcases hk with ⟨kvs,hk⟩ | ⟨kvs,hk⟩
     ·obtain⟨_,_,_,_,o,_,_,e,ex,_⟩:=I.hok p _ hk
      exact⟨o,e,ex⟩
     ·obtain⟨_,_,_,_,o,_,_,e,ex,_⟩:=I.hok p _ hk
      exact⟨o,e,ex⟩
    obtain⟨o,e,ex⟩:=z
    refine⟨⟨o,e,ex.1⟩,fun a e2=>?_⟩
    cases e2
    exact⟨o,e,ex.2.1⟩
   ·obtain⟨o,_,_,_,e,ex,_⟩:=I.hok p _ hk
    refine⟨⟨o,e,ex.1⟩,fun a e2=>?_⟩
    cases e2
    exact⟨o,e,ex.2.1⟩
 | _=>exact False.elim ty
variable {o e:Expr}{es:List Expr}{to:TE}{t:TA}{name:Str}{apos cpos:Pos}{T id:String}{r:V->List V->Hp->VK->Prop}
end
end L2
namespace L2
open PySem PySem.Spec PyProof.Rows
noncomputable def MtM(X:Cx)(id:String)(r:V->List V->Hp->VK->Prop):Prop :=
 ∀(pins:List (Addr×Obj)) (s:Shared) (σ:St) (H:Hp) (x:V) (xs:List V) (v:Value) (us:List Value) (Q:VK),Inv X pins σ H s->RelV x v->Vals xs us->r x xs H Q ->
  wpAny (model X.prog X.w) X.A (call (.builtin id) (v::us)) (EP X pins σ Q) X.xe s
theorem Vals.one:∀{x:V} {us:List Value},Vals [x] us->∃u,us=[u]/\RelV x u
 | _,_,.cons r .nil=>⟨_,rfl,r⟩
theorem Vals.rep{xs:List V}{us:List Value}(h:Vals xs us):∀k:Nat,Vals (List.replicate k xs).flatten (List.replicate k us).flatten
 | 0=>.nil
 | k+1=>by
   rw[List.replicate_succ,List.replicate_succ,List.flatten_cons,List.flatten_cons]
   exact Vals.append h (Vals.rep h k)
theorem y7v(its:List Value):∀(k:Nat) (acc:List Value),
 List.foldl (fun x1 x2=>x1++x2) acc.toArray (List.replicate k its.toArray)=(acc++(List.replicate k its).flatten).toArray
 | 0,acc=>by simp
 | k+1,acc=>by
   have e:acc.toArray++its.toArray=(acc++its).toArray:=by simp
   have e2:(acc++its)++(List.replicate k its).flatten=acc++(List.replicate (k+1) its).flatten:=by
    rw[List.replicate_succ,List.flatten_cons,List.append_assoc]
   rw[<-e2,<-y7v its k (acc++its),<-e,List.replicate_succ,List.foldl_cons]
section
variable {X:Cx}{pins:List (Addr×Obj)}{σ:St}{H:Hp}{s:Shared}{l b:Addr}{xs ys zs:List V}
theorem Inv.lset{its its':List Value}{n:Nat}{f:Array Value->Array Value}{t':Nat}(I:Inv X pins σ H s)(hH:H l=some (.lst xs))
 (e:s.heap.get? l=some { cls:=.type "list",data:=.seq its.toArray n }) (hf:f its.toArray=its'.toArray) (hv:Vals ys its') (hz:ys.length<=sizeLine) :
 Inv X pins σ (upd H l (.lst ys)) { s with heap:=s.heap.update l (Obj.mapSeq f),toks:=t' }:=by
 have q:=PySem.IsL.update e f
 rw[hf] at q
 refine I.write (x:=l) (e:=l) (by rw[hH];exact trivial) (.inl rfl) (fun b' u hb hu=>(Heap.get?_update_other s.heap (Obj.mapSeq f) (Ne.symm hb)).trans hu) ⟨_,q⟩ ?_
 exact⟨hz,its',_,hv,q⟩
theorem Inv.lnew{its:List Value}{t':Nat}(I:Inv X pins σ H s)(hv:Vals ys its)(hz:ys.length<=sizeLine) :
 Inv X pins σ (upd H s.heap.objs.size (.lst ys)) { s with heap:=s.heap.push { cls:=.type "list",data:=.seq its.toArray },toks:=t' } :=
 I.laid (fun _ _ q=>Heap.get?_push_of_some _ q) (Nat.le_refl _) ⟨hz,its,0,hv,Heap.get?_push_size _ rfl⟩
theorem Inv.fresh(I:Inv X pins σ H s):H s.heap.objs.size=none:=I.hok.fresh (Nat.le_refl _)
theorem Inv.lstM(I:Inv X pins σ H s)(hH:H l=some (.lst xs)):xs.length<=sizeLine/\∃(its:List Value) (n:Nat),Vals xs its/\xs.length=its.length/\s.heap.get? l=some { cls:=.type "list",data:=.seq its.toArray n }:=by
 obtain⟨z,its,n,r,e⟩:=I.hok l _ hH
 exact⟨z,its,n,r,r.length,e⟩
theorem x8l{n:Nat}(h:n<=sizeLine):Builtin.List.listTooLong n=false:=by
 unfold Builtin.List.listTooLong
 exact decide_eq_false (by lia)
end
section
variable {X:Cx}
noncomputable def w2c:V->List V->Hp->VK->Prop:=fun x vs H Q=>∃l xs y,x = .ref l/\vs=[y]/\H l=some (.lst xs)/\xs.length<sizeLine/\Q .non (upd H l (.lst (xs++[y])))
theorem x5a:MtM X "list.append" w2c:=by
 intro pins s σ H x vs v us Q I rx rv h
 obtain⟨l,xs,y,rfl,rfl,hH,hz,q⟩:=h
 cases rx
 obtain⟨u,rfl,ru⟩:=rv.one
 obtain⟨z,its,n,r,hl,e⟩:=I.lstM hH
 refine call_meets F.slot_list_append ⟨_,e,rfl⟩ F.entry_list_append (F.args_list_append_2 _ _) (PySem.list_append l its.toArray n u (by rw[List.size_toArray];lia)) ⟨e,?_⟩
 refine⟨.non,_,I.lset (its':=its++[u]) hH e (by simp) (r.append (.cons ru .nil)) ?_,rfl,q⟩
 rw[List.length_append,List.length_singleton]
 lia
noncomputable def w2b:V->List V->Hp->VK->Prop:=fun x vs H Q=>∃l b xs zs,x = .ref l/\vs=[.ref b]/\H l=some (.lst xs)/\H b=some (.lst zs)/\xs.length+zs.length<=sizeLine/\Q .non (upd H l (.lst (xs++zs)))
theorem x4z:MtM X "list.extend" w2b:=by
 intro pins s σ H x vs v us Q I rx rv h
 obtain⟨l,b,xs,zs,rfl,rfl,hH,hB,hz,q⟩:=h
 cases rx
 obtain⟨u,rfl,ru⟩:=rv.one
 cases ru
 obtain⟨z,its,n,r,hl,e⟩:=I.lstM hH
 obtain⟨z2,its2,n2,r2,hl2,e2⟩:=I.lstM hB
 have hsz:its.toArray.size+its2.toArray.size<=sizeLine:=by rw[List.size_toArray,List.size_toArray];lia
 have hlong:¬(!its.toArray.isEmpty&&Builtin.List.listTooLong (its.toArray.size+its2.toArray.size))=true:=by
  rw[x8l hsz,Bool.and_false]
  exact Bool.false_ne_true
 refine call_meets F.slot_list_extend ⟨_,e,rfl⟩ F.entry_list_extend (F.args_list_extend_2 _ _)
  (AutoSeq1.list_extend_list_list_0 l its.toArray n b its2.toArray n2 hlong (by rw[List.size_toArray];lia) (by lia)) ⟨e,e2,?_⟩
 refine⟨.non,_,I.lset (its':=its++its2) hH e (by simp) (r.append r2) ?_,rfl,q⟩
 rw[List.length_append]
 lia
theorem x5i{α:Type}(xs:List α)(k:Nat):(List.replicate k xs).flatten.length=k*xs.length:=by
 induction k with
 | zero=>simp
 | succ k ih=>rw[List.replicate_succ,List.flatten_cons,List.length_append,ih,Nat.succ_mul,Nat.add_comm]
end
section
variable {prog:Program}{w:World}{A:Around}{E:Value->Shared->Prop}{s:Shared}
end
section
variable {X:Cx}
end
end L2
namespace Att
open PySem PySem.W PySem.Calls PyProof.Rows
theorem y3m{P:Params}{h:Heap}:∀(ns:List Int) (vs:List Value),WellAll P h vs (ns.map WData.int)->IntsAre vs ns:=by
 intro ns
 induction ns with
 | nil =>
   intro vs w
   rw[List.map_nil] at w
   cases w
   exact .nil
 | cons n ns ih =>
   intro vs w
   rw[List.map_cons] at w
   cases w with
   | cons a b =>
     cases a
     exact .cons _ _ (ih _ b)
theorem x3z{l:OpenLaw}{n:Nat}(hn:l.most=some n){P:Params}{h:Heap}{args:List WData}{vals:List Value}
 (hpre:l.row.toRowW.claim.pre args=true) (hwl:WellAll P h vals args) :
 ∃a vs ns,vals=[Value.ref a]/\args=[WData.list (ns.map WData.int)]/\h.get? a=some { cls:=.type "list",data:=.seq vs.toArray }/\IntsAre vs ns/\ns.length<=n:=by
 have hsh:WShape.hasAll [] args [.list .int]=true:=(pre_splitW hpre).1
 have hc:l.pre.holds [] { args:=args }=true:=(pre_splitW hpre).2
 obtain⟨d,r,rfl,h1,h2⟩:=hasAllW_cons hsh
 obtain rfl:=hasAllW_nil h2
 obtain⟨xs,rfl,h3⟩:=hasW_list h1
 obtain⟨ns,rfl⟩:=items_int h3
 have hlen:ns.length<=n:=by
  unfold OpenLaw.pre at hc
  have h4:(WTm.not (.lt (.lit (.int (n:Int))) (.len (.arg 0)))).holds [] { args:=[.list (ns.map .int)] }=true:=by
   have h4:=(holds_andW hc).1
   rw[hn] at h4
   exact h4
  have h5:=condW_of h4 (w_not (w_lt w_lit (w_len_list (w_arg rfl))))
  rw[List.length_map] at h5
  refine Nat.le_of_not_lt fun q=>?_
  have q':(n:Int)<((ns.length:Nat):Int):=by lia
  first
   | (rw[decide_eq_true q'] at h5;exact absurd h5 (by decide))
   | (simp at h5;lia)
 cases hwl with
 | cons w1 w2 =>
   cases w2
   cases w1 with
   | list ho hall=>exact⟨_,_,ns,rfl,rfl,ho,y3m ns _ hall,hlen⟩
theorem x4k(l:OpenLaw)(args:List WData):l.row.toRowW.claim.post args (.bool true) args=true :=
 postW_of (r:=l.row.toRowW) (X:=(true==true))
  (show WShape.has [] (.bool true) .bool=true by first | rfl | decide | simp[WShape.has,WShape.arms,WShape.armsAll])
  (show(WTm.eq .res (.lit (.bool true))).value [] { args:=args,res:=some (.bool true),after:=args }=some (.bool (true==true)) from w_eq_bool (w_res rfl) w_lit) rfl
theorem attach_call{l:OpenLaw}{n:Nat}{q:Program}{loose:List Str}{XP:(Str->Option Value)->Heap->Prop}{YP:World->Heap->Prop}{d:DefRec}
 (hn:l.most=some n) (hdf:d.params.defaults=[])
 (call:∀(w:World) (s₀ s₁:Shared) (mg mb:Str->Option Value) (fa:Addr) (o:Obj) (pm cd doc:Value) (a:Addr) (vs:List Value) (ns:List Int),
   Ground q loose [] XP w s₀ mg mb s₁.heap->YP w s₁.heap ->
   s₁.heap.get? fa=some o->o.data = .func (docDef d.name d.params d.body d.scope pm cd doc)->s₁.heap.CodeRec cd d.name->mg d.name=some (.ref fa) ->
   s₁.heap.get? a=some { cls:=.type "list",data:=.seq vs.toArray }->IntsAre vs ns->ns.length<=n->s₁.gens=#[] ->
   codeAny (model l.prog w) callerA (.call (.ref fa) ⟨[.ref a],[]⟩) (fun r s'=>r = .ok (.ret (.bool true))/\OldK s₁.heap s'.heap/\s'.os=s₁.os/\AllBare s'.gens) s₁) :
 WalkO q loose XP YP l.row.toRowW d [] (fun f vs=>PySem.call f vs):=by
 intro w s₀ s₁ mg mb G Y fa o pm cd doc dV kV ho hd hcd hD hmg hg args vals as hpre hlay hrd hwl hlo
 obtain rfl:dV = .none:=Dflts.none hD hdf
 obtain rfl:kV = .none:=Dflts.noKw hD
 obtain⟨a,vs,ns,rfl,rfl,hobj,hints,hlen⟩:=x3z hn hpre hwl
 refine enter_call (codeAny_mono (call w s₀ s₁ mg mb fa o pm cd doc a vs ns G Y ho (fd_plain hd) hcd hmg hobj hints hlen hg) fun r s' hq=>?_)
 obtain⟨rfl,h2,h3,h4⟩:=hq
 exact⟨.inl ⟨.bool true,.bool true,[],rfl,fun _=>rfl,.bool true,x4k l _,fun _=>⟨List.Pairwise.nil,fun _ hm=>(nomatch hm)⟩⟩,h2,h3,h4⟩
section
variable {prog:Program}{w:World}{A:Around}{E:Value->Shared->Prop}{s:Shared}{K:Frag}
end
end Att
namespace L2
open PySem PySem.Spec PyProof.Rows
theorem vals_ints:∀{vs:List Value} {ns:List Int},IntsAre vs ns->Vals (ns.map V.int) vs
 | _,_,.nil=>.nil
 | _,_,.cons n t h=>.cons ⟨t,rfl⟩ (vals_ints h)
noncomputable def Only(H:Hp):Prop:=∀b,H b=none∨∃o xs,H b=some (.frz o (.lst xs))
theorem x8s{P:Program}{w:World}{K:PySem.W.Frag}{mg mb:Str->Option Value}{CX:CXT}{k:Nat}{fa a:Addr}{fd:FuncData}{x:Str}{sp:Sp}{s₁:Shared}{vs:List Value}{ns:List Int}
 (KX:K.In s₁.heap) (hns:s₁.heap.Ns mainGlobals mg) (hb:s₁.heap.Ns builtinsNs mb) (hbb:∀x:Str,x≠"__name__"->mb x=bootBuiltins x) (hlim:s₁.heap.NoLimit) (hg:s₁.gens=#[])
 (ha:s₁.heap.get? a=some { cls:=.type "list",data:=.seq vs.toArray }) (hi:IntsAre vs ns) (hl:ns.length<=sizeLine) (hr:Room k callerA)
 (F:∀base:Heap,K.In base->base.Ns mainGlobals mg->FnOk P w K mg base CX k fa fd [x] sp) (hbind:∀(s:Shared) (u:Value),BindsTo s fd ⟨[u],[]⟩ [(x,u)])
 (hsp:∀H:Hp,Only H->SqL K H a (ns.map V.int)->sp [.ref a] H (fun v _=>v = .bl true) fun _ _ _=>False)
 (hCX:∀H e s',CX [] H s₁ (fun _ _ _=>False) e s'->False) :
 codeAny (model P w) callerA (.call (.ref fa) ⟨[.ref a],[]⟩) (fun r s'=>r = .ok (.ret (.bool true))/\OldK s₁.heap s'.heap/\s'.os=s₁.os/\AllBare s'.gens) s₁:=by
 have rv:=vals_ints hi
 have lenV:=hi.length
 have core:∀H:Hp,Only H->SqL K H a (ns.map V.int)->HOk P w H s₁.heap->(∀b,H b≠none->b=a)->(H a≠none->K.lookup a=none) ->
  codeAny (model P w) callerA (.call (.ref fa) ⟨[.ref a],[]⟩) (fun r s'=>r = .ok (.ret (.bool true))/\OldK s₁.heap s'.heap/\s'.os=s₁.os/\AllBare s'.gens) s₁:=by
  intro H hO hS hok hA hK
  have base_of:∀{b:Addr} {o:Obj},s₁.heap.get? b=some o->H b=none->(hidT s₁.heap H).get? b=some o:=fun e n=>y6d e n
  have noA:∀{b:Addr} {o:Obj} {es:Array DictEntry} {ep:Nat},s₁.heap.get? b=some o->o.data = .dict es ep->H b=none:=fun {b o es ep} e d=>by
   cases q:H b with
   | none=>rfl
   | some u =>
     have e':b=a:=hA b (by rw[q];simp)
     subst e'
     rw[ha] at e;cases e
     have d':Data.seq vs.toArray _=Data.dict es ep:=d
     cases d'
  have nsK:∀{b:Addr} {m:Str->Option Value},s₁.heap.Ns b m->(hidT s₁.heap H).Ns b m:=fun {b m} ⟨o,es,ep,e,d,r⟩=>⟨o,es,ep,base_of e (noA e d),d,r⟩
  have hKb:K.In (hidT s₁.heap H):=fun b o e=>base_of (KX b o e) (by
   cases q:H b with
   | none=>rfl
   | some u =>
     have e':b=a:=hA b (by rw[q];simp)
     subst e'
     rw[hK (by rw[q];simp)] at e;cases e)
  have hM:Mod K mg (hidT s₁.heap H):=⟨hKb,nsK hns,⟨mb,nsK hb,hbb⟩,let ⟨mc,h1,h2⟩:=hlim;⟨mc,nsK h1,h2⟩⟩
  have e0:Env0 P w K mg (hidT s₁.heap H) callerA [] s₁ H:=⟨rfl,hM,fun b o e=>y9h e,Nat.le_of_eq (x5x _ _),trivial,fun b hb=>absurd (show b∈([]:List Addr) from hb) (by simp),hok,.of_eq hg⟩
  refine codeAny_mono ((F _ hKb (nsK hns)).run callerA [] s₁ H ⟨[.ref a],[]⟩ [.ref a] [.ref a] _ _ hr e0 (hbind s₁ (.ref a)) (.cons rfl .nil) (hsp H hO hS)) fun r s' h=>?_
  cases r with
  | error e=>exact(hCX H e s' h).elim
  | ok fl =>
    cases fl with
    | next=>exact False.elim h
    | brk=>exact False.elim h
    | cont=>exact False.elim h
    | ret u =>
      obtain⟨v,H',os,bare,un,hok',r',q⟩:=h
      have q':v = .bl true:=q
      subst q'
      obtain rfl:u=Value.bool true:=r'
      refine⟨rfl,OldK.of_keep fun b o e=>?_,os,bare⟩
      cases q:H b with
      | none=>exact un.keep b o e q (by intro z;exact absurd (show b∈([]:List Addr) from z) (by simp)) (by simp)
      | some u =>
        rcases hO b with z | ⟨ob,xs,z⟩
        ·rw[q] at z;cases z
        ·have z2:=un.frzs b ob _ z
         obtain⟨e1,_⟩:=hok b _ z
         obtain⟨e2,_⟩:=hok' b _ z2
         rw[e] at e1;cases e1
         exact e2
 cases hk:K.lookup a with
 | some o =>
   have e:=KX a o hk
   rw[ha] at e
   cases e
   refine core (fun _=>none) (fun _=>.inl rfl) (.inr ⟨_,vs.toArray,_,hk,rfl,rfl,rfl,by rw[List.size_toArray,lenV];exact hl,by simpa using rv⟩) (fun b u z=>by have z':(none:Option HO)=some u:=z;cases z') (fun b z=>absurd rfl z) fun z=>absurd rfl z
 | none =>
   refine core (fun b=>if b=a then some (.frz { cls:=.type "list",data:=.seq vs.toArray } (.lst (ns.map V.int))) else none) (fun b=>?_) (.inl (.inr ⟨{ cls:=.type "list",data:=.seq vs.toArray },if_pos rfl⟩)) (fun b u z=>?_) (fun b z=>?_) fun _=>hk
   ·by_cases hb:b=a
    ·exact .inr ⟨_,_,if_pos hb⟩
    ·exact .inl (if_neg hb)
   ·by_cases hb:b=a
    ·have z':=(if_pos hb).symm.trans z
     cases z'
     subst hb
     exact⟨ha,by rw[List.length_map];exact hl,vs,_,rv,ha⟩
    ·have z':=(if_neg hb).symm.trans z
     cases z'
   ·by_cases hb:b=a
    ·exact hb
    ·exact absurd (if_neg hb) z
end L2
namespace L2
open PySem PySem.Spec PyProof.Rows
noncomputable abbrev KOf {K:PySem.W.Frag} {h:Heap} (_:K.In h):PySem.W.Frag:=K
theorem walk_of{l:PySem.W.OpenLaw}{n k:Nat}{q:Program}{loose:List Str}{XP:(Str->Option Value)->Heap->Prop}{YP:World->Heap->Prop}{d:DefRec}{K:Params->PySem.W.Frag}{CX:World->CXT}{sp:World->Sp}{x:Str}
 (hn:l.most=some n) (hn2:n<=sizeLine) (hdf:d.params.defaults=[]) (hr:Room k callerA)
 (hY:∀(w:World) (h:Heap),YP w h->(K w.params).In h)
 (F:∀(w:World) (mg:Str->Option Value) (fa:Addr) (h:Heap),(K w.params).In h->h.Ns mainGlobals mg->mg d.name=some (.ref fa) ->
   ∃fd:FuncData,(∀(s:Shared) (u:Value),BindsTo s fd ⟨[u],[]⟩ [(x,u)]) /\
    ∀base:Heap,(K w.params).In base->base.Ns mainGlobals mg->FnOk l.prog w (K w.params) mg base (CX w) k fa fd [x] (sp w))
 (hsp:∀(w:World) (H:Hp) (a:Addr) (ns:List Int),ns.length<=n->Only H->SqL (K w.params) H a (ns.map V.int)->sp w [.ref a] H (fun v _=>v = .bl true) fun _ _ _=>False)
 (hCX:∀(w:World) (H:Hp) (s:Shared) (e:Value) (s':Shared),CX w [] H s (fun _ _ _=>False) e s'->False) :
 PySem.W.WalkO q loose XP YP l.row.toRowW d [] (fun f vs=>PySem.call f vs):=by
 refine Att.attach_call hn hdf fun w s₀ s₁ mg mb fa o pm cd doc a vs ns G Y ho hd hcd hmg hobj hints hlen hg=>?_
 have KX:=hY w _ Y
 obtain⟨fd,hb,hF⟩:=F w mg fa _ KX G.T.g hmg
 exact x8s KX G.T.g G.T.b G.T.builtins G.T.nolimit hg hobj hints (Nat.le_trans hlen hn2) hr hF hb (fun H hO hS=>hsp w H a ns hlen hO hS) fun H e s'=>hCX w H s₁ e s'
end L2
/- THE LAST THEOREM (shape;LID,My.* are yours):
   My.Adr: a structure of the addresses that your layer names (classes,functions);My.Txt K t: a structure (Prop) of the equations over K;
   My.txt_mk:{K} {implicit addresses ..} (e1:nsIn K mainGlobals "law"=some (some (.ref f))) (e2:K.lookup f=some ⟨oc,od,.func (fnOf "law" "law" params body scope dV kV doc pm an cdv ct),sl⟩) (e3:codeIn K cdv "law"=true) ..:∃t,My.Txt K t
set_option maxRecDepth 100000 in
set_option maxHeartbeats 0 in
theorem PySem.Challenge.cw_LID_holds : PySem.Challenge.rw_LID.Holds := by
 w_on;o_law;k_head;(case hw=>w_witness2)
 k_fill
 refine L2.walk_of (l:=PySem.Challenge.rw_LID) (n:=63) (k:=40) (x:="script") (CX:=fun w=>..) (sp:=fun _=>My.sp_law) rfl (by decide) rfl ⟨rfl,by decide,by decide⟩ (fun w h Y=>PySem.W.kIn_of Y) ?F ?S ?C
 case F =>
  intro w mg fa h KX G hmg
  have T:∃t,My.Txt (L2.KOf KX) t:=by
   dsimp only[L2.KOf]                          -- K must stand as «<heap const> w.params» for k_is
   refine' My.txt_mk ?e1 ?e2 ?e3 ..
   (case e1=>PySem.W.k_is)                    -- in the order: a name->its address->its object->its parts
   (case e2=>PySem.W.k_is)
   ..
  obtain⟨t,T⟩:=T
  have e0:=hmg.symm.trans (PySem.W.mg_of KX G T.law)
  cases e0                                       -- fa is the law's own address
  exact⟨_,fun s u=>.of_eq rfl,fun base kb nb=>My.law_fn T kb nb⟩     -- if «.of_eq rfl» comes too early: refine' ⟨_,?b,fun base kb nb=>My.law_fn T kb nb⟩;exact fun s u=>.of_eq rfl
 case S=>exact fun w H a ns hl hO hS=>..
 case C=>exact ..
(the tactic k_is has no namespace: write k_is) -/
namespace L2
open PySem PySem.Spec PyProof.Rows
noncomputable def y3v(s:Stmt):Arguments:=match s with
 | .FunctionDef _ a _ _ _ _ _ _ _ _=>a
 | _=>{ posonlyargs:=[],args:=[],vararg:=none,kwonlyargs:=[],kw_defaults:=[],kwarg:=none,defaults:=[] }
noncomputable def z6y(s:Stmt):List Stmt:=match s with
 | .FunctionDef _ _ b _ _ _ _ _ _ _=>b
 | _=>[]
noncomputable def z0h(s:Stmt):Scope:=match s with
 | .FunctionDef _ _ _ _ _ _ sc _ _ _=>sc
 | _=>{ kind:=.function,names:=[],isGenerator:=false,isCoroutine:=false }
structure Fun (K:PySem.W.Frag) (x qual:Str) (st:Stmt) (f:Addr) (fd:FuncData):Prop where
 ex:∃(oc:Value) (od:Option Addr) (kV doc pm:Value) (an:Option Addr) (cdv ct:Value) (osl:Array (Option Value)),
  fd=PySem.W.fnOf x qual (y3v st) (z6y st) (z0h st) .none kV doc pm an cdv ct/\K.lookup f=some ⟨oc,od,.func fd,osl⟩/\PySem.W.codeIn K cdv qual=true
 kp:PySem.W.keepIn K (.ref f)=true
section
variable {P:Program}{w:World}{K:PySem.W.Frag}{mg:Str->Option Value}{base:Heap}
theorem Fun.binds{x qual:Str}{st:Stmt}{f:Addr}{fd:FuncData}{ps:List Str}(F:Fun K x qual st f fd)
 (h:∀(kV doc pm:Value) (an:Option Addr) (cdv ct:Value) (us:List Value),us.length=ps.length->bindArgs (PySem.W.fnOf x qual (y3v st) (z6y st) (z0h st) .none kV doc pm an cdv ct) ⟨us,[]⟩=pure (ps.zip us)):y4l K fd ps []:=by
 obtain⟨oc,od,kV,doc,pm,an,cdv,ct,osl,rfl,lk,hcd⟩:=F.ex
 exact .all (h kV doc pm an cdv ct)
end
theorem x3x{n:Nat}(h:n<=1000):n<sizeLine:=Nat.lt_of_le_of_lt h (by decide)
section
variable {X:Cx}
end
noncomputable def Same(H H':Hp):Prop:=∀b o,H b=some o->H' b=some o
theorem Same.refl(H:Hp):Same H H:=fun _ _ h=>h
theorem Same.trans{H H1 H2:Hp}(a:Same H H1)(b:Same H1 H2):Same H H2:=fun c o h=>b c o (a c o h)
theorem Same.free{H H':Hp}(e:Same H H'){l:Addr}(h:H' l=Option.none):H l=Option.none:=by
 cases q:H l with
 | none=>rfl
 | some o =>
   rw[e l o q] at h
   cases h
theorem Same.seq{K:PySem.W.Frag}{H H':Hp}{a:Addr}{xs:List V}(e:Same H H')(h:SqL K H a xs):SqL K H' a xs:=by
 rcases h with (h | ⟨o,h⟩) | h
 ·exact .inl (.inl (e _ _ h))
 ·exact .inl (.inr ⟨o,e _ _ h⟩)
 ·exact .inr h
end L2
namespace L3
open PySem
noncomputable section
inductive Er where
 | noPrime | noNumber | noProgram | tooLong | lossy | noText
 deriving DecidableEq
noncomputable def Er.nm:Er->Str
 | .noPrime=>"NoPrime" | .noNumber=>"NoNumber" | .noProgram=>"NoProgram" | .tooLong=>"TooLong" | .lossy=>"Lossy" | .noText=>"NoText"
inductive D where
 | non | bl (b:Bool) | int (i:Int) | str (x:Str) | tup (ds:List D) | lst (ds:List D) | dct | exc (c:Er)
mutual
noncomputable def D.noL:D->Bool
 | .lst _=>false
 | .dct=>false
 | .tup ds=>D.noLs ds
 | _=>true
noncomputable def D.noLs:List D->Bool
 | []=>true
 | d::ds=>d.noL&&D.noLs ds
end
theorem z4j:D.noLs []=true:=by unfold D.noLs;rfl
theorem y5w:∀ds:List D,D.noLs ds=ds.all D.noL
 | []=>by unfold D.noLs;rfl
 | d::ds=>by unfold D.noLs;rw[y5w ds];rfl
theorem z1s(i:Int):D.noL (.int i)=true:=by simp[D.noL]
theorem z3s(i:Bool):D.noL (.bl i)=true:=by simp[D.noL]
theorem z6d(i:Str):D.noL (.str i)=true:=by simp[D.noL]
theorem z6e:D.noL .non=true:=by simp[D.noL]
theorem x4w(ds:List D):D.noL (.tup ds)=D.noLs ds:=by simp[D.noL]
theorem w2t{ds:List D}(h:∀d∈ds,d.noL=true):D.noLs ds=true:=by rw[y5w,List.all_eq_true];exact h
theorem x8m{ds:List D}(h:D.noLs ds=true){d:D}(hd:d∈ds):d.noL=true:=by rw[y5w,List.all_eq_true] at h;exact h d hd
theorem z9h{α:Type}{f:α->D}{l:List α}(h:∀x∈l,(f x).noL=true):D.noLs (l.map f)=true:=w2t fun d hd=>by
 obtain⟨x,hx,rfl⟩:=List.mem_map.mp hd;exact h x hx
theorem z1b(ns:List Int):D.noLs (ns.map D.int)=true:=z9h fun _ _=>z1s _
theorem z3d(ns:List Int):D.noL (.tup (ns.map D.int))=true:=by rw[x4w];exact z1b ns
inductive R (α:Type) where
 | no | ok (a:α) | er (c:Er)
noncomputable def R.bind{α β:Type}(r:R α)(k:α->R β):R β:=match r with
 | .no=>.no
 | .ok a=>k a
 | .er c=>.er c
noncomputable instance:Monad R where
 pure:=R.ok
 bind:=R.bind
@[simp] theorem R.bind_no {α β:Type} (k:α->R β):(R.no>>=k)=R.no:=rfl
@[simp] theorem R.bind_ok {α β:Type} (a:α) (k:α->R β):(R.ok a>>=k)=k a:=rfl
@[simp] theorem R.bind_er {α β:Type} (c:Er) (k:α->R β):(R.er c>>=k)=R.er c:=rfl
@[simp] theorem R.pure_ok {α:Type} (a:α):(pure a:R α)=R.ok a:=rfl
theorem R.left{α β:Type}{r:R α}{k:α->R β}(h:(r>>=k) ≠ .no):r ≠ .no:=fun e=>h (by rw[e];rfl)
theorem R.next{α β:Type}{r:R α}{k:α->R β}{a:α}(h:(r>>=k) ≠ .no)(e:r = .ok a):k a ≠ .no:=by
 rw[e] at h;exact h
theorem R.step{α β:Type}{r:R α}{a:α}(e:r = .ok a)(k:α->R β):(r>>=k)=k a:=by rw[e];rfl
theorem R.stop{α β:Type}{r:R α}{c:Er}(e:r = .er c)(k:α->R β):(r>>=k) = .er c:=by rw[e];rfl
noncomputable def R.guard{α:Type}(p:Prop)(r:R α):R α:=@ite _ p (Classical.propDecidable p) r .no
theorem R.guard_pos{α:Type}{p:Prop}{r:R α}(h:p):R.guard p r=r:=if_pos h
theorem R.guard_ne{α:Type}{p:Prop}{r:R α}(h:R.guard p r ≠ .no):p/\R.guard p r=r:=by
 unfold R.guard at h ⊢
 by_cases q:p
 ·exact⟨q,if_pos q⟩
 ·rw[if_neg q] at h;exact absurd rfl h
theorem z2n{α:Type}{r:R α}:R.guard True r=r:=R.guard_pos trivial
theorem z0o{α:Type}{p:Prop}{r:R α}(h:p):R.guard p r=r:=R.guard_pos h
inductive En where
 | no | ro (d:D) | own (ds:List D)
noncomputable abbrev G:=List En
noncomputable def lk(Γ:G)(i:Nat):R D:=match Γ[i]? with
 | some (.ro d)=>.ok d
 | some (.own ds)=>.ok (.lst ds)
 | _=>.no
noncomputable def lkr(Γ:G)(i:Nat):R D:=match Γ[i]? with
 | some (.ro d)=>.ok d
 | _=>.no
theorem w6w{Γ:G}{i:Nat}(h:lk Γ i ≠ .no):∃d,lk Γ i = .ok d:=by
 cases e:lk Γ i with
 | no=>exact absurd e h
 | ok d=>exact⟨d,rfl⟩
 | er c =>
   unfold lk at e
   cases q:Γ[i]? with
   | none=>rw[q] at e;cases e
   | some en=>rw[q] at e;cases en<;>cases e
theorem w5e{Γ:G}{i:Nat}(h:lkr Γ i ≠ .no):∃d,lkr Γ i = .ok d:=by
 cases e:lkr Γ i with
 | no=>exact absurd e h
 | ok d=>exact⟨d,rfl⟩
 | er c =>
   unfold lkr at e
   cases q:Γ[i]? with
   | none=>rw[q] at e;cases e
   | some en=>rw[q] at e;cases en<;>cases e
theorem y3i(d:D)(Γ:G):lk (En.ro d::Γ) 0 = .ok d:=rfl
theorem z8l(ds:List D)(Γ:G):lk (En.own ds::Γ) 0 = .ok (.lst ds):=rfl
theorem z6g(e:En)(Γ:G)(i:Nat):lk (e::Γ) (i+1)=lk Γ i:=rfl
theorem z8k(d:D)(Γ:G):lkr (En.ro d::Γ) 0 = .ok d:=rfl
theorem z4k(e:En)(Γ:G)(i:Nat):lkr (e::Γ) (i+1)=lkr Γ i:=rfl
noncomputable def gV(i:Nat):G->R D:=fun Γ=>lk Γ i
noncomputable def gVr(i:Nat):G->R D:=fun Γ=>lkr Γ i
noncomputable def gC(d:D):G->R D:=fun _=>.ok d
noncomputable def gNL(g:G->R D):G->R D:=fun Γ=>g Γ>>=fun d=>R.guard (d.noL=true) (.ok d)
noncomputable def gL(g:G->R (List D)):G->R D:=fun Γ=>g Γ>>=fun ds=>.ok (.lst ds)
noncomputable def gBin(g:D->D->R D)(ga gb:G->R D):G->R D:=fun Γ=>ga Γ>>=fun x=>gb Γ>>=fun y=>g x y
noncomputable def asB(d:D):R Bool:=match d with
 | .bl b=>.ok b
 | _=>.no
theorem x7e{d:D}(h:asB d ≠ .no):∃b,d = .bl b/\asB d = .ok b:=by
 cases d<;>first | exact⟨_,rfl,rfl⟩ | exact absurd rfl h
theorem z9a(b:Bool):asB (.bl b) = .ok b:=rfl
noncomputable def gT(g:G->R D):G->R Bool:=fun Γ=>g Γ>>=asB
noncomputable def gAnd(ga gb:G->R Bool):G->R Bool:=fun Γ=>ga Γ>>=fun k=>if k=true then gb Γ else .ok false
noncomputable def gOr(ga gb:G->R Bool):G->R Bool:=fun Γ=>ga Γ>>=fun k=>if k=true then .ok true else gb Γ
noncomputable def gNot(ga:G->R Bool):G->R Bool:=fun Γ=>ga Γ>>=fun k=>.ok (!k)
noncomputable def z8t(ga gb:G->R D):G->R D:=fun Γ=>ga Γ>>=fun d=>asB d>>=fun k=>if k=true then gb Γ else .ok (.bl false)
noncomputable def y1j(ga:G->R D):G->R D:=fun Γ=>ga Γ>>=fun d=>asB d>>=fun k=>.ok (.bl (!k))
noncomputable def dNeg(d:D):R D:=match d with | .int i=>.ok (.int (-i)) | _=>.no
noncomputable def gNeg(ga:G->R D):G->R D:=fun Γ=>ga Γ>>=dNeg
noncomputable def gIf(gc:G->R Bool)(ga gb:G->R D):G->R D:=fun Γ=>gc Γ>>=fun k=>if k=true then ga Γ else gb Γ
noncomputable def gNil:G->R (List D):=fun _=>.ok []
noncomputable def gCons(g:G->R D)(gs:G->R (List D)):G->R (List D):=fun Γ=>g Γ>>=fun d=>gs Γ>>=fun ds=>.ok (d::ds)
noncomputable def y2c(ns:List Int):G->R (List D):=fun _=>.ok (ns.map D.int)
noncomputable def gTup(gs:G->R (List D)):G->R D:=fun Γ=>gs Γ>>=fun ds=>R.guard (ds.length<=1000) (.ok (.tup ds))
noncomputable def gLst(gs:G->R (List D)):G->R (List D):=fun Γ=>gs Γ>>=fun ds=>R.guard (ds.length<=1000/\D.noLs ds=true) (.ok ds)
noncomputable def y2d(i:Int):Prop:=-18446744073709551616<i/\i<18446744073709551616
noncomputable instance (i:Int):Decidable (y2d i):=by unfold y2d;exact inferInstance
noncomputable def z9x(i j:Int):Prop:=y2d i∨y2d j
noncomputable instance (i j:Int):Decidable (z9x i j):=by unfold z9x;exact inferInstance
noncomputable def x1y(j:Int):Prop:=-4611686018427387904<=j/\j<4611686018427387904
noncomputable instance (j:Int):Decidable (x1y j):=by unfold x1y;exact inferInstance
theorem z0s{j:Int}(h:-4611686018427387904<=j/\j<4611686018427387904):x1y j:=h
theorem z1e{j:Int}(h:-18446744073709551616<j/\j<18446744073709551616):y2d j:=h
theorem z3k{i j:Int}(h:y2d i):z9x i j:=.inl h
theorem z3j{i j:Int}(h:y2d j):z9x i j:=.inr h
noncomputable def dAdd(x y:D):R D:=match x,y with
 | .int i,.int j=>.ok (.int (i+j))
 | .tup xs,.tup ys=>R.guard (xs.length+ys.length<=1000) (.ok (.tup (xs++ys)))
 | _,_=>.no
noncomputable def dSub(x y:D):R D:=match x,y with
 | .int i,.int j=>.ok (.int (i-j))
 | _,_=>.no
noncomputable def dMul(x y:D):R D:=match x,y with
 | .int i,.int j=>R.guard (z9x i j) (.ok (.int (i*j)))
 | .tup xs,.int j=>R.guard (0<=j/\j<1000000/\xs.length*j.toNat<=1000) (.ok (.tup (List.replicate j.toNat xs).flatten))
 | _,_=>.no
noncomputable def dDiv(x y:D):R D:=match x,y with
 | .int i,.int j=>R.guard (0<j/\j<1073741824) (.ok (.int (i/j)))
 | _,_=>.no
noncomputable def dMod(x y:D):R D:=match x,y with
 | .int i,.int j=>R.guard (0<j) (.ok (.int (i%j)))
 | _,_=>.no
noncomputable def dPow(x y:D):R D:=match x,y with
 | .int i,.int j=>R.guard (0<=j/\j<=1000000/\i.natAbs<18446744073709551616) (.ok (.int (i^j.toNat)))
 | _,_=>.no
noncomputable def dLt(x y:D):R D:=match x,y with
 | .int i,.int j=>.ok (.bl (decide (i<j)))
 | _,_=>.no
noncomputable def dLe(x y:D):R D:=match x,y with
 | .int i,.int j=>.ok (.bl (decide (i<=j)))
 | _,_=>.no
noncomputable def dGt(x y:D):R D:=match x,y with
 | .int i,.int j=>.ok (.bl (decide (j<i)))
 | _,_=>.no
noncomputable def dGe(x y:D):R D:=match x,y with
 | .int i,.int j=>.ok (.bl (decide (j<=i)))
 | _,_=>.no
noncomputable def sOk(x:Str):Bool:=x.cps.all (·<0x110000)
mutual
noncomputable def D.lay:Nat->D->Bool
 | n+1,.tup ds=>D.lays n ds
 | n+1,.lst ds=>D.lays n ds
 | 0,.tup _=>false
 | 0,.lst _=>false
 | _,.dct=>false
 | _,.exc _=>false
 | _,.str x=>sOk x
 | _,_=>true
noncomputable def D.lays:Nat->List D->Bool
 | _,[]=>true
 | n,d::ds=>D.lay n d&&D.lays n ds
end
theorem D.lays_all(n:Nat):∀ds:List D,D.lays n ds=ds.all (D.lay n)
 | []=>by unfold D.lays;rfl
 | d::ds=>by unfold D.lays;rw[D.lays_all n ds];rfl
theorem z4c(n:Nat)(i:Int):D.lay n (.int i)=true:=by cases n<;>simp[D.lay]
theorem z8p(n:Nat)(i:Bool):D.lay n (.bl i)=true:=by cases n<;>simp[D.lay]
theorem y1f(n:Nat)(x:Str):D.lay n (.str x)=sOk x:=by cases n<;>simp[D.lay]
theorem z8o(n:Nat)(ds:List D):D.lay (n+1) (.tup ds)=ds.all (D.lay n):=by rw[D.lay,D.lays_all]
theorem w2y(n:Nat)(ds:List D):D.lay (n+1) (.lst ds)=ds.all (D.lay n):=by rw[D.lay,D.lays_all]
theorem z2u(n:Nat)(ns:List Int):D.lay (n+1) (.tup (ns.map D.int))=true:=by
 rw[z8o,List.all_map,List.all_eq_true];intro x _;exact z4c n x
mutual
noncomputable def eqD:D->D->Bool
 | .non,y=>(match y with | .non=>true | _=>false)
 | .bl a,y=>(match y with | .bl b=>a==b | .int j=>(if a then 1 else 0)==j | _=>false)
 | .int i,y=>(match y with | .bl b=>i==(if b then 1 else 0) | .int j=>i==j | _=>false)
 | .str x,y=>(match y with | .str z=>x==z | _=>false)
 | .tup xs,y=>(match y with | .tup ys=>eqDs xs ys | _=>false)
 | .lst xs,y=>(match y with | .lst ys=>eqDs xs ys | _=>false)
 | .dct,_=>false
 | .exc _,_=>false
noncomputable def eqDs:List D->List D->Bool
 | [],[]=>true
 | x::xs,y::ys=>eqD x y&&eqDs xs ys
 | [],_::_=>false
 | _::_,[]=>false
end
theorem z6h(i j:Int):eqD (.int i) (.int j)=(i==j):=by rw[eqD]
theorem z8v(i j:Bool):eqD (.bl i) (.bl j)=(i==j):=by rw[eqD]
theorem z7u(i j:Str):eqD (.str i) (.str j)=(i==j):=by rw[eqD]
mutual
noncomputable def D.pl:D->Bool
 | .bl _=>false
 | .dct=>false
 | .exc _=>false
 | .tup ds=>D.pls ds
 | .lst ds=>D.pls ds
 | _=>true
noncomputable def D.pls:List D->Bool
 | []=>true
 | d::ds=>d.pl&&D.pls ds
end
theorem x4l:∀ds:List D,D.pls ds=ds.all D.pl
 | []=>by unfold D.pls;rfl
 | d::ds=>by unfold D.pls;rw[x4l ds];rfl
theorem w0m(i:Int):D.pl (.int i)=true:=by simp[D.pl]
theorem x0g(ds:List D):D.pl (.tup ds)=ds.all D.pl:=by rw[D.pl,x4l]
theorem x4m(ns:List Int):D.pl (.tup (ns.map D.int))=true:=by
 rw[x0g,List.all_map,List.all_eq_true];intro x _;exact w0m x
mutual
theorem y3r:∀(x y:D),x.pl=true->y.pl=true->(eqD x y=true↔x=y)
 | .non,y,_,hy=>by cases y<;>simp_all [eqD,D.pl]
 | .bl _,y,hx,hy=>by simp[D.pl] at hx
 | .int i,y,_,hy=>by cases y<;>simp_all [eqD,D.pl]
 | .str i,y,_,hy=>by cases y<;>simp_all [eqD,D.pl]
 | .dct,y,hx,hy=>by simp[D.pl] at hx
 | .exc _,y,hx,hy=>by simp[D.pl] at hx
 | .tup xs,y,hx,hy=>by
   cases y with
   | tup ys=>rw[eqD,eqDs_iff xs ys (by simpa [D.pl] using hx) (by simpa [D.pl] using hy)];simp
   | _=>simp_all [eqD,D.pl]
 | .lst xs,y,hx,hy=>by
   cases y with
   | lst ys=>rw[eqD,eqDs_iff xs ys (by simpa [D.pl] using hx) (by simpa [D.pl] using hy)];simp
   | _=>simp_all [eqD,D.pl]
theorem eqDs_iff:∀(xs ys:List D),D.pls xs=true->D.pls ys=true->(eqDs xs ys=true↔xs=ys)
 | [],[],_,_=>by simp[eqDs]
 | [],y::ys,_,_=>by simp[eqDs]
 | x::xs,[],_,_=>by simp[eqDs]
 | x::xs,y::ys,hx,hy=>by
   have hx':x.pl=true/\D.pls xs=true:=by simpa [D.pls] using hx
   have hy':y.pl=true/\D.pls ys=true:=by simpa [D.pls] using hy
   rw[eqDs,Bool.and_eq_true,y3r x y hx'.1 hy'.1,eqDs_iff xs ys hx'.2 hy'.2];simp
end
theorem x1d{x:D}(h:x.pl=true):eqD x x=true:=(y3r x x h h).mpr rfl
theorem x6n{x y:D}(hx:x.pl=true)(hy:y.pl=true){p:Prop}[Decidable p](h:x=y↔p):eqD x y=decide p:=by
 by_cases q:p
 ·rw[decide_eq_true q];exact(y3r x y hx hy).mpr (h.mpr q)
 ·rw[decide_eq_false q]
  cases e:eqD x y with
  | false=>rfl
  | true=>exact absurd (h.mp ((y3r x y hx hy).mp e)) q
noncomputable def dEq(x y:D):R D:=R.guard (D.lay 40 x=true/\D.lay 40 y=true) (.ok (.bl (eqD x y)))
noncomputable def dNe(x y:D):R D:=R.guard (D.lay 40 x=true/\D.lay 40 y=true) (.ok (.bl (!eqD x y)))
noncomputable def ixN(n:Nat)(i:Int):Option Nat:=if 0<=i then (if i<n then some i.toNat else none) else if -(n:Int)<=i then some (i+n).toNat else none
noncomputable def atI{α:Type}(xs:List α)(i:Int):Option α:=(ixN xs.length i).bind fun j=>xs[j]?
theorem z3q{α:Type}{ds:List α}(i:Nat):atI ds (i:Int)=ds[i]?:=by
 unfold atI ixN
 rw[if_pos (by lia)]
 by_cases h:(i:Int)<ds.length
 ·rw[if_pos h];simp
 ·rw[if_neg h]
  have:ds.length<=i:=by lia
  rw[List.getElem?_eq_none this];rfl
theorem w1k{α:Type}{ds:List α}{i:Int}(h:0<=i):atI ds i=ds[i.toNat]?:=by
 obtain⟨n,rfl⟩:∃n:Nat,i=(n:Int):=⟨i.toNat,by lia⟩
 rw[z3q];rfl
theorem w3u{α:Type}{ds:List α}{i:Int}(h:i<0)(h2:-(ds.length:Int)<=i):atI ds i=ds[(i+ds.length).toNat]?:=by
 unfold atI ixN
 rw[if_neg (by lia),if_pos h2];rfl
theorem z3p{α:Type}(a:α)(ds:List α):atI (a::ds) 0=some a:=z3q 0
theorem z4u{α:Type}(a b:α)(ds:List α):atI (a::b::ds) 1=some b:=z3q 1
theorem z4t{α:Type}(a b c:α)(ds:List α):atI (a::b::c::ds) 2=some c:=z3q 2
theorem z2p{α:Type}(a b c d:α)(ds:List α):atI (a::b::c::d::ds) 3=some d:=z3q 3
noncomputable def dIx(x y:D):R D:=match x,y with
 | .tup ds,.int i=>(match atI ds i with | some d=>.ok d | none=>.no)
 | .lst ds,.int i=>(match atI ds i with | some d=>.ok d | none=>.no)
 | _,_=>.no
noncomputable def sIx(n d:Nat):Option Int->Nat
 | none=>d
 | some v=>if v<0 then (v+(n:Int)).toNat else min v.toNat n
theorem sIx_none(n d:Nat):sIx n d none=d:=rfl
theorem sIx_nat(n d k:Nat):sIx n d (some (k:Int))=min k n:=by
 show(if (k:Int)<0 then ((k:Int)+(n:Int)).toNat else min (k:Int).toNat n)=min k n
 rw[if_neg (by lia),Int.toNat_natCast]
noncomputable def cutL{α:Type}(xs:List α)(lo hi:Option Int):List α:=(xs.drop (sIx xs.length 0 lo)).take (sIx xs.length xs.length hi-sIx xs.length 0 lo)
noncomputable def gON:G->R (Option Int):=fun _=>.ok none
noncomputable def dOS(d:D):R (Option Int):=match d with | .int i=>.ok (some i) | _=>.no
noncomputable def gOS(g:G->R D):G->R (Option Int):=fun Γ=>g Γ>>=dOS
noncomputable def dCut(d:D)(lo hi:Option Int):R D:=match d with
 | .tup xs=>.ok (.tup (cutL xs lo hi))
 | .lst xs=>.ok (.lst (cutL xs lo hi))
 | _=>.no
noncomputable def gSl(ga:G->R D)(lo hi:G->R (Option Int)):G->R D:=fun Γ=>ga Γ>>=fun d=>lo Γ>>=fun l=>hi Γ>>=fun h=>dCut d l h
theorem x9p{α β:Type}(f:α->β)(xs:List α)(lo hi:Option Int):cutL (xs.map f) lo hi=(cutL xs lo hi).map f:=by
 unfold cutL;rw[List.length_map,List.map_take,List.map_drop]
theorem z8x{α:Type}(xs:List α)(k:Nat):cutL xs (some (k:Int)) none=xs.drop k:=by
 unfold cutL
 rw[sIx_none,sIx_nat]
 by_cases h:k<=xs.length
 ·rw[Nat.min_eq_left h,List.take_of_length_le (by rw[List.length_drop];lia)]
 ·rw[Nat.min_eq_right (by lia),List.drop_length,List.drop_of_length_le (by lia)];simp
theorem y3z{α:Type}(xs:List α)(k:Nat):cutL xs none (some (k:Int))=xs.take k:=by
 unfold cutL
 rw[sIx_none,sIx_nat,Nat.sub_zero,List.drop_zero]
 by_cases h:k<=xs.length
 ·rw[Nat.min_eq_left h]
 ·rw[Nat.min_eq_right (by lia),List.take_length,List.take_of_length_le (by lia)]
inductive Cl where
 | noPrime | noNumber | noProgram | tooLong | lossy | noText | longError | valueError
noncomputable def z0g(g:List D->R D)(gs:G->R (List D)):G->R D:=fun Γ=>gs Γ>>=g
noncomputable def dLen(ds:List D):R D:=match ds with
 | [.tup xs]=>.ok (.int xs.length)
 | [.lst xs]=>.ok (.int xs.length)
 | _=>.no
noncomputable def z2r(ds:List D):R D:=match ds with
 | [.tup xs]=>.ok (.tup xs)
 | [.lst xs]=>.ok (.tup xs)
 | _=>.no
noncomputable def dMin(ds:List D):R D:=match ds with
 | [.int i,.int j]=>.ok (.int (if j<i then j else i))
 | _=>.no
noncomputable def ints?:List D->Option (List Int)
 | []=>some []
 | .int i::ds=>(ints? ds).map (i::·)
 | _::_=>none
theorem ints?_some:∀{ds:List D} {ns:List Int},ints? ds=some ns->ds=ns.map D.int
 | [],ns,h=>by unfold ints? at h;cases h;rfl
 | d::ds,ns,h=>by
   cases d with
   | int i =>
     unfold ints? at h
     cases q:ints? ds with
     | none=>rw[q] at h;cases h
     | some ms=>rw[q] at h;cases h;rw[ints?_some q];rfl
   | _=>unfold ints? at h;cases h
theorem ints?_map:∀ns:List Int,ints? (ns.map D.int)=some ns
 | []=>rfl
 | n::ns=>by show(ints? (ns.map D.int)).map (n::·)=_;rw[ints?_map ns];rfl
noncomputable def bools?:List D->Option (List Bool)
 | []=>some []
 | .bl i::ds=>(bools? ds).map (i::·)
 | _::_=>none
theorem bools?_some:∀{ds:List D} {ns:List Bool},bools? ds=some ns->ds=ns.map D.bl
 | [],ns,h=>by unfold bools? at h;cases h;rfl
 | d::ds,ns,h=>by
   cases d with
   | bl i =>
     unfold bools? at h
     cases q:bools? ds with
     | none=>rw[q] at h;cases h
     | some ms=>rw[q] at h;cases h;rw[bools?_some q];rfl
   | _=>unfold bools? at h;cases h
theorem bools?_map:∀ns:List Bool,bools? (ns.map D.bl)=some ns
 | []=>rfl
 | n::ns=>by show(bools? (ns.map D.bl)).map (n::·)=_;rw[bools?_map ns];rfl
noncomputable def dSum(ds:List D):R D:=match ds with
 | [.lst xs]=>(match ints? xs with | some ns=>.ok (.int ns.sum) | none=>.no)
 | _=>.no
theorem z4q(ns:List Int):dSum [.lst (ns.map D.int)] = .ok (.int ns.sum):=by simp only[dSum,ints?_map]
noncomputable def dAny(ds:List D):R D:=match ds with
 | [.lst xs]=>(match bools? xs with | some bs=>.ok (.bl (bs.any (fun b=>b))) | none=>.no)
 | _=>.no
theorem z4r(ns:List Bool):dAny [.lst (ns.map D.bl)] = .ok (.bl (ns.any fun b=>b)):=by simp only[dAny,bools?_map]
noncomputable def dAll(ds:List D):R D:=match ds with
 | [.lst xs]=>(match bools? xs with | some bs=>.ok (.bl (bs.all (fun b=>b))) | none=>.no)
 | _=>.no
theorem z3y(ns:List Bool):dAll [.lst (ns.map D.bl)] = .ok (.bl (ns.all fun b=>b)):=by simp only[dAll,bools?_map]
noncomputable def noEr(φ:List D->R D):List D->R D:=fun ds=>match φ ds with
 | .ok d=>.ok d
 | _=>.no
theorem x4x{φ:List D->R D}{ds:List D}(h:noEr φ ds ≠ .no):∃d,φ ds = .ok d/\noEr φ ds = .ok d:=by
 unfold noEr at h ⊢
 cases q:φ ds with
 | ok d=>exact⟨d,rfl,rfl⟩
 | no=>rw[q] at h;exact absurd rfl h
 | er c=>rw[q] at h;exact absurd rfl h
noncomputable def z3e(φ:List D->R (List D))(gs:G->R (List D)):G->R (List D):=fun Γ=>gs Γ>>=fun ds=>φ ds>>=fun es=>R.guard (D.noLs es=true) (.ok es)
noncomputable def y2e(d:D):R (List D):=match d with
 | .tup ds=>R.guard (D.noLs ds=true) (.ok ds)
 | .lst ds=>R.guard (D.noLs ds=true) (.ok ds)
 | _=>.no
noncomputable def z7t(g:G->R D):G->R (List D):=fun Γ=>g Γ>>=y2e
noncomputable def y2f(x y:D):R (List D):=match x,y with
 | .lst xs,.lst ys=>R.guard (xs.length+ys.length<=1000/\D.noLs (xs++ys)=true) (.ok (xs++ys))
 | _,_=>.no
noncomputable def y0a(ga gb:G->R D):G->R (List D):=fun Γ=>ga Γ>>=fun x=>gb Γ>>=fun y=>y2f x y
noncomputable def D.ty:D->String
 | .non=>"NoneType"
 | .bl _=>"bool"
 | .int _=>"int"
 | .str _=>"str"
 | .tup _=>"tuple"
 | .lst _=>"list"
 | .dct=>"dict"
 | .exc _=>""
noncomputable def D.noX:D->Bool
 | .exc _=>false
 | _=>true
noncomputable def dIsi(f:String->Bool)(d:D):R D:=match d with
 | .exc _=>.no
 | d=>.ok (.bl (f d.ty))
noncomputable def gIsi(f:String->Bool)(g:G->R D):G->R D:=fun Γ=>g Γ>>=dIsi f
theorem w3q{f:String->Bool}{d:D}(h:dIsi f d ≠ .no):d.noX=true/\dIsi f d = .ok (.bl (f d.ty)):=by
 cases d<;>first | exact⟨rfl,rfl⟩ | exact absurd rfl h
noncomputable def z6s(t:String):Bool:=t=="int"||t=="bool"
noncomputable def z4o(t:String):Bool:=t=="bool"
noncomputable def z2k(t:String):Bool:=t=="tuple"
noncomputable def z3a(t:String):Bool:=t=="list"
noncomputable def dSeq(d:D):R (List D):=match d with
 | .tup ds=>.ok ds
 | .lst ds=>.ok ds
 | _=>.no
noncomputable def gSeq(g:G->R D):G->R (List D):=fun Γ=>g Γ>>=dSeq
noncomputable def z5i(g:G->R D):G->R (List D):=fun Γ=>g Γ>>=fun d=>dSeq d>>=fun ds=>R.guard (D.noLs ds=true) (.ok ds)
noncomputable def z3r(lo:Int)(n:Nat):List D:=(List.range n).map fun(i:Nat)=>D.int (lo+(i:Int))
theorem z0j(lo:Int)(n:Nat):(z3r lo n).length=n:=by unfold z3r;simp
theorem y0z(lo:Int)(n i:Nat)(h:i<n):(z3r lo n)[i]? = some (.int (lo+(i:Int))):=by unfold z3r;simp[h]
theorem z1v(lo:Int):z3r lo 0=[]:=rfl
noncomputable def y0y(lo:Int)(step:Int)(n:Nat):List D:=(List.range n).map fun(i:Nat)=>D.int (lo+step*(i:Int))
noncomputable def y0f(lo hi step:Int):Nat:=((hi-lo+step-1)/step).toNat
noncomputable def z5v(g:G->R D):G->R (List D):=fun Γ=>g Γ>>=fun d=>match d with
 | .int j=>R.guard (x1y j) (.ok (z3r 0 j.toNat))
 | _=>.no
noncomputable def z9z(ga gb:G->R D):G->R (List D):=fun Γ=>ga Γ>>=fun d=>gb Γ>>=fun d'=>match d,d' with
 | .int i,.int j=>R.guard (x1y i/\x1y j) (.ok (z3r i (j-i).toNat))
 | _,_=>.no
noncomputable def y1i(ga gb gc:G->R D):G->R (List D):=fun Γ=>ga Γ>>=fun d=>gb Γ>>=fun d'=>gc Γ>>=fun d''=>match d,d',d'' with
 | .int i,.int j,.int k=>R.guard ((-1073741824<=i/\i<1073741824)/\(-1073741824<=j/\j<1073741824)/\0<k/\k<1073741824) (.ok (y0y i k (y0f i j k)))
 | _,_,_=>.no
noncomputable def z0y(f:D->R (Option D)):List D->List D->R (List D)
 | [],acc=>.ok acc
 | d::r,acc=>match f d with
   | .ok (some e)=>z0y f r (acc++[e])
   | .ok none=>z0y f r acc
   | _=>.no
theorem z2o(f:D->R (Option D))(acc:List D):z0y f [] acc = .ok acc:=rfl
theorem y0b(f:D->R (Option D))(d:D)(r acc:List D):z0y f (d::r) acc=match f d with
 | .ok (some e)=>z0y f r (acc++[e])
 | .ok none=>z0y f r acc
 | _=>.no:=rfl
theorem z8y{f:D->R (Option D)}:∀{ds acc:List D},z0y f ds acc ≠ .no->∃es,z0y f ds acc = .ok es
 | [],acc,_=>⟨acc,rfl⟩
 | d::r,acc,h=>by
   unfold z0y at h ⊢
   cases q:f d with
   | no=>rw[q] at h;exact absurd rfl h
   | er c=>rw[q] at h;exact absurd rfl h
   | ok o =>
     rw[q] at h
     cases o with
     | none=>exact z8y h
     | some e=>exact z8y h
theorem z1w{α:Type}{f:D->R (Option D)}{k h:α->D}{l:List α}(q:∀x∈l,f (k x) = .ok (some (h x))):z0y f (l.map k) [] = .ok (l.map h):=by
 suffices H:∀(l:List α) (acc:List D),(∀x∈l,f (k x) = .ok (some (h x)))->z0y f (l.map k) acc = .ok (acc++l.map h) by
  have:=H l [] q;simpa using this
 intro l
 induction l with
 | nil=>intro acc _;simp[z0y]
 | cons x l ih =>
   intro acc q
   rw[List.map_cons,y0b,q x List.mem_cons_self]
   simp only
   rw[ih _ fun y hy=>q y (List.mem_cons_of_mem _ hy)]
   simp
theorem z9u{α:Type}{f:D->R (Option D)}{k:α->D}{h:α->Option D}{l:List α}(q:∀x∈l,f (k x) = .ok (h x)):z0y f (l.map k) [] = .ok (l.filterMap h):=by
 suffices H:∀(l:List α) (acc:List D),(∀x∈l,f (k x) = .ok (h x))->z0y f (l.map k) acc = .ok (acc++l.filterMap h) by
  have:=H l [] q;simpa using this
 intro l
 induction l with
 | nil=>intro acc _;simp[z0y]
 | cons x l ih =>
   intro acc q
   rw[List.map_cons,y0b,q x List.mem_cons_self]
   cases e:h x with
   | none=>simp only;rw[ih _ fun y hy=>q y (List.mem_cons_of_mem _ hy)];simp[e]
   | some z=>simp only;rw[ih _ fun y hy=>q y (List.mem_cons_of_mem _ hy)];simp[e]
theorem z5j{f:D->R (Option D)}{lo:Int}{n:Nat}{h:Nat->D}(q:∀i,i<n->f (.int (lo+(i:Int))) = .ok (some (h i))):z0y f (z3r lo n) [] = .ok ((List.range n).map h) :=
 z1w (k:=fun(i:Nat)=>D.int (lo+(i:Int))) fun i hi=>q i (List.mem_range.mp hi)
noncomputable def fElt(ge:G->R D):D->G->R (Option D):=fun d Γ=>ge (.ro d::Γ)>>=fun e=>.ok (some e)
noncomputable def z7f(gc:G->R Bool)(ge:G->R D):D->G->R (Option D):=fun d Γ=>gc (.ro d::Γ)>>=fun k=>if k=true then ge (.ro d::Γ)>>=fun e=>.ok (some e) else .ok none
noncomputable def z2z(gi:G->R (List D))(f:D->G->R (Option D)):G->R (List D):=fun Γ=>gi Γ>>=fun items=>R.guard (items.length<=100000) (z0y (fun d=>f d Γ) items [])
inductive Fl where
 | nx (Γ:G) | rt (d:D) | rtF (ds:List D) | bk (Γ:G) | ct (Γ:G) | ex (c:Er) (Γ:G)
noncomputable def lift{α:Type}(r:R α)(Γ:G)(k:α->R Fl):R Fl:=match r with
 | .no=>.no
 | .er c=>.ok (.ex c Γ)
 | .ok a=>k a
theorem z2d{α:Type}{r:R α}{Γ:G}{k:α->R Fl}(h:lift r Γ k ≠ .no):r ≠ .no:=fun e=>h (by rw[e];rfl)
theorem z4b{α:Type}{r:R α}{Γ:G}{k:α->R Fl}{a:α}(e:r = .ok a):lift r Γ k=k a:=by rw[e];rfl
theorem z8m{α:Type}{r:R α}{Γ:G}{k:α->R Fl}{a:α}(h:lift r Γ k ≠ .no)(e:r = .ok a):k a ≠ .no:=by rw[e] at h;exact h
theorem z2i{α:Type}(a:α)(Γ:G)(k:α->R Fl):lift (.ok a) Γ k=k a:=rfl
theorem z4l{α:Type}(c:Er)(Γ:G)(k:α->R Fl):lift (.er c:R α) Γ k = .ok (.ex c Γ):=rfl
noncomputable def frz(i:Nat)(Γ:G):G:=match Γ[i]? with
 | some (.own ds)=>Γ.set i (.ro (.lst ds))
 | _=>Γ
noncomputable def z1i:G->R Fl:=fun Γ=>.ok (.nx Γ)
noncomputable def gSt(t u:G->R Fl):G->R Fl:=fun Γ=>t Γ>>=fun r=>match r with
 | .nx Γ'=>u Γ'
 | r=>.ok r
noncomputable def z8a(g:G->R (List D)):G->R Fl:=fun Γ=>lift (g Γ) Γ fun ds=>.ok (.rtF ds)
noncomputable def z7d(i:Nat):G->R Fl:=fun Γ=>match Γ[i]? with
 | some (.own ds)=>.ok (.rtF ds)
 | _=>.no
noncomputable def setAll:List Nat->List D->G->G
 | i::is,d::ds,Γ=>setAll is ds (Γ.set i (.ro d))
 | _,_,Γ=>Γ
noncomputable def z6r(c:Er):G->R Fl:=fun Γ=>.ok (.ex c Γ)
noncomputable def gRet(g:G->R D):G->R Fl:=fun Γ=>lift (g Γ) Γ fun d=>.ok (.rt d)
noncomputable def gIfS(gc:G->R Bool)(t u:G->R Fl):G->R Fl:=fun Γ=>lift (gc Γ) Γ fun k=>if k=true then t Γ else u Γ
noncomputable def gSet(i:Nat)(g:G->R D):G->R Fl:=fun Γ=>lift (g Γ) Γ fun d=>.ok (.nx (Γ.set i (.ro d)))
noncomputable def z2q(i:Nat)(g:G->R (List D)):G->R Fl:=fun Γ=>lift (g Γ) Γ fun ds=>.ok (.nx (Γ.set i (.own ds)))
noncomputable def gApp(i:Nat)(g:G->R D):G->R Fl:=fun Γ=>match Γ[i]? with
 | some (.own ds)=>lift (g Γ) Γ fun d=>R.guard (ds.length<=100000) (.ok (.nx (Γ.set i (.own (ds++[d])))))
 | _=>.no
noncomputable def gPut(i:Nat)(gi g:G->R D):G->R Fl:=fun Γ=>match Γ[i]? with
 | some (.own ds)=>lift (g Γ) Γ fun d=>lift (gi Γ) Γ fun k=>(match k with
   | .int j=>(match ixN ds.length j with | some j'=>.ok (.nx (Γ.set i (.own (ds.set j' d)))) | none=>.no)
   | _=>.no)
 | _=>.no
noncomputable def z4h(gb:G->R Fl)(i:Nat):List D->G->R Fl
 | [],Γ=>.ok (.nx Γ)
 | d::r,Γ=>match gb (Γ.set i (.ro d)) with
   | .ok (.nx Γ')=>z4h gb i r Γ'
   | .ok (.ct Γ')=>z4h gb i r Γ'
   | .ok (.bk Γ')=>.ok (.nx Γ')
   | .ok (.rt d)=>.ok (.rt d)
   | .ok (.rtF d)=>.ok (.rtF d)
   | .ok (.ex c Γ')=>.ok (.ex c Γ')
   | _=>.no
noncomputable def gFor(i:Nat)(gi:G->R (List D))(gb:G->R Fl):G->R Fl:=fun Γ=>lift (gi Γ) Γ fun ds=>z4h gb i ds Γ
noncomputable def whGo(gc:G->R Bool)(gb:G->R Fl):Nat->G->R Fl
 | 0,_=>.no
 | n+1,Γ=>lift (gc Γ) Γ fun k=>if k=true then (match gb Γ with
    | .ok (.nx Γ')=>whGo gc gb n Γ'
    | .ok (.ct Γ')=>whGo gc gb n Γ'
    | .ok (.bk Γ')=>.ok (.nx Γ')
    | .ok (.rt d)=>.ok (.rt d)
    | .ok (.rtF d)=>.ok (.rtF d)
    | .ok (.ex c Γ')=>.ok (.ex c Γ')
    | _=>.no) else .ok (.nx Γ)
theorem z3n(gb:G->R Fl)(i:Nat)(Γ:G):z4h gb i [] Γ = .ok (.nx Γ):=rfl
theorem y1k(gb:G->R Fl)(i:Nat)(d:D)(ds:List D)(Γ:G):z4h gb i (d::ds) Γ=match gb (Γ.set i (.ro d)) with
 | .ok (.nx Γ')=>z4h gb i ds Γ'
 | .ok (.ct Γ')=>z4h gb i ds Γ'
 | .ok (.bk Γ')=>.ok (.nx Γ')
 | .ok (.rt d)=>.ok (.rt d)
 | .ok (.rtF d)=>.ok (.rtF d)
 | .ok (.ex c Γ')=>.ok (.ex c Γ')
 | _=>.no:=rfl
theorem z7e{gb:G->R Fl}{i:Nat}(I:Nat->G->Prop):∀(ds:List D) (k:Nat) (Γ:G),I k Γ ->
 (∀(j:Nat) (d:D) (Γ:G),ds[j]? = some d->I (k+j) Γ->∃Γ',(gb (Γ.set i (.ro d)) = .ok (.nx Γ')∨gb (Γ.set i (.ro d)) = .ok (.ct Γ'))/\I (k+j+1) Γ') ->
 ∃Γ',z4h gb i ds Γ = .ok (.nx Γ')/\I (k+ds.length) Γ'
 | [],k,Γ,h,_=>⟨Γ,rfl,h⟩
 | d::ds,k,Γ,h,q=>by
   obtain⟨Γ1,e1,h1⟩:=q 0 d Γ rfl h
   obtain⟨Γ2,e2,h2⟩:=z7e I ds (k+1) Γ1 h1 fun j d' Γ' hd hI=>by
    have:=q (j+1) d' Γ' (by simpa using hd) (by rw[show k+(j+1)=k+1+j by lia];exact hI)
    rw[show k+(j+1)=k+1+j by lia] at this
    exact this
   refine⟨Γ2,?_,by rw[List.length_cons,show k+(ds.length+1)=k+1+ds.length by lia];exact h2⟩
   rw[y1k]
   rcases e1 with e1 | e1<;>rw[e1]<;>exact e2
theorem x6d{gb:G->R Fl}{i:Nat}(S:Nat->G)(ds:List D)(q:∀(j:Nat) (d:D),ds[j]? = some d->gb ((S j).set i (.ro d)) = .ok (.nx (S (j+1)))):z4h gb i ds (S 0) = .ok (.nx (S ds.length)):=by
 obtain⟨Γ',e,h⟩:=z7e (gb:=gb) (i:=i) (fun k Γ=>Γ=S k) ds 0 (S 0) rfl fun j d Γ hd hI=>by
  rw[Nat.zero_add] at hI ⊢
  subst hI
  exact⟨_,.inl (q j d hd),rfl⟩
 rw[Nat.zero_add] at h
 rw[e,h]
theorem x2q{gb:G->R Fl}{i:Nat}{Γ:G}(S:Nat->G){ds:List D}(h0:Γ=S 0)(q:∀(j:Nat) (d:D),ds[j]? = some d->gb ((S j).set i (.ro d)) = .ok (.nx (S (j+1)))):z4h gb i ds Γ = .ok (.nx (S ds.length)):=by
 rw[h0];exact x6d S ds q
theorem y9m{gb:G->R Fl}{i:Nat}{Γ:G}(S:Nat->G){lo:Int}{n:Nat}(h0:Γ=S 0)(q:∀(j:Nat),j<n->gb ((S j).set i (.ro (.int (lo+(j:Int))))) = .ok (.nx (S (j+1)))):z4h gb i (z3r lo n) Γ = .ok (.nx (S n)):=by
 rw[x2q S h0,z0j]
 intro j d hd
 have hj:j<n:=by
  have:=(List.getElem?_eq_some_iff.mp hd).1
  rw[z0j] at this;exact this
 rw[y0z lo _ _ hj] at hd
 cases hd
 exact q j hj
theorem x3f(gc:G->R Bool)(gb:G->R Fl)(n:Nat)(Γ:G):whGo gc gb (n+1) Γ=lift (gc Γ) Γ fun k=>if k=true then (match gb Γ with
 | .ok (.nx Γ')=>whGo gc gb n Γ'
 | .ok (.ct Γ')=>whGo gc gb n Γ'
 | .ok (.bk Γ')=>.ok (.nx Γ')
 | .ok (.rt d)=>.ok (.rt d)
 | .ok (.rtF d)=>.ok (.rtF d)
 | .ok (.ex c Γ')=>.ok (.ex c Γ')
 | _=>.no) else .ok (.nx Γ):=rfl
theorem z5a{gc:G->R Bool}{gb:G->R Fl}(I:Nat->G->Prop)(Q:R Fl->Prop)(q:∀m Γ,I m Γ->(gc Γ = .ok false/\Q (.ok (.nx Γ)))∨(gc Γ = .ok true /\
 ((∃Γ' m',m'<m/\(gb Γ = .ok (.nx Γ')∨gb Γ = .ok (.ct Γ'))/\I m' Γ')∨(∃Γ',gb Γ = .ok (.bk Γ')/\Q (.ok (.nx Γ')))∨(∃d,gb Γ = .ok (.rt d)/\Q (.ok (.rt d)))∨(∃d,gb Γ = .ok (.rtF d)/\Q (.ok (.rtF d)))∨(∃c Γ',gb Γ = .ok (.ex c Γ')/\Q (.ok (.ex c Γ')))))) :
 ∀(n m:Nat) (Γ:G),m<n->I m Γ->Q (whGo gc gb n Γ)
 | 0,m,Γ,h,_=>absurd h (Nat.not_lt_zero _)
 | n+1,m,Γ,h,hI=>by
   rw[x3f]
   rcases q m Γ hI with ⟨e,hq⟩ | ⟨e,h2⟩
   ·rw[e,z2i,if_neg Bool.false_ne_true];exact hq
   ·rw[e,z2i,if_pos rfl]
    rcases h2 with ⟨Γ',m',hm,e',h'⟩ | ⟨Γ',e',h'⟩ | ⟨d,e',h'⟩ | ⟨d,e',h'⟩ | ⟨c,Γ',e',h'⟩
    ·rcases e' with e' | e'<;>rw[e']<;>exact z5a I Q q n m' Γ' (by lia) h'
    ·rw[e'];exact h'
    ·rw[e'];exact h'
    ·rw[e'];exact h'
    ·rw[e'];exact h'
noncomputable def ini(n:Nat)(ds:List D):G:=ds.map En.ro++List.replicate (n-ds.length) En.no
noncomputable def fin(r:R Fl):R D:=match r with
 | .ok (.rt d)=>.ok d
 | .ok (.nx _)=>.ok .non
 | .ok (.ex c _)=>.er c
 | _=>.no
noncomputable def finF(r:R Fl):R (List D):=match r with
 | .ok (.rtF d)=>.ok d
 | .ok (.ex c _)=>.er c
 | _=>.no
noncomputable def fnC(p n:Nat)(g:G->R Fl):List D->R D:=fun ds=>if ds.length=p then fin (g (ini n ds)) else .no
theorem z8u{p n:Nat}{g:G->R Fl}{ds:List D}(h:fnC p n g ds ≠ .no):ds.length=p:=by
 unfold fnC at h
 by_cases q:ds.length=p
 ·exact q
 ·rw[if_neg q] at h;exact absurd rfl h
theorem y4y{p n:Nat}{g:G->R Fl}{ds:List D}(h:ds.length=p):fnC p n g ds=fin (g (ini n ds)):=if_pos h
noncomputable def fnF(p n:Nat)(g:G->R Fl):List D->R (List D):=fun ds=>if ds.length=p then finF (g (ini n ds)) else .no
theorem x6e{p n:Nat}{g:G->R Fl}{ds:List D}(h:fnF p n g ds ≠ .no):ds.length=p:=by
 unfold fnF at h
 by_cases q:ds.length=p
 ·exact q
 ·rw[if_neg q] at h;exact absurd rfl h
theorem w1b{p n:Nat}{g:G->R Fl}{ds:List D}(h:ds.length=p):fnF p n g ds=finF (g (ini n ds)):=if_pos h
theorem y3f:((0:Nat):Int)=0:=rfl
theorem y3e:((1:Nat):Int)=1:=rfl
theorem y3d:((2:Nat):Int)=2:=rfl
theorem y3c:((3:Nat):Int)=3:=rfl
theorem y3b:((4:Nat):Int)=4:=rfl
end
noncomputable def maxI:List Int->Int
 | []=>0
 | [a]=>a
 | a::b::r=>if maxI (b::r)>a then maxI (b::r) else a
theorem x0q:∀{ns:List Int},ns≠[]->maxI ns∈ns
 | [a],_=>by simp[maxI]
 | a::b::r,_=>by
   have ih:=x0q (ns:=b::r) (by simp)
   unfold maxI
   split
   ·exact List.mem_cons_of_mem _ ih
   ·exact List.mem_cons_self
theorem x5e:∀{ns:List Int} {a:Int},a∈ns->a<=maxI ns
 | [b],a,h=>by simp only[List.mem_singleton] at h;subst h;exact Int.le_refl _
 | b::c::r,a,h=>by
   unfold maxI
   rcases List.mem_cons.mp h with rfl | h
   ·split<;>lia
   ·have:=x5e h
    split<;>lia
theorem y7p{ns:List Int}{m:Int}(h:m∈ns)(g:∀a∈ns,a<=m):m=maxI ns:=Int.le_antisymm (x5e h) (g _ (x0q fun z=>by rw[z] at h;cases h))
noncomputable def x2t(ds:List D):R D:=match ds with
 | [.lst xs]=>(match ints? xs with | some (n::ns)=>.ok (.int (maxI (n::ns))) | _=>.no)
 | [.int i,.int j]=>.ok (.int (if j>i then j else i))
 | _=>.no
theorem z8w(n:Int)(ns:List Int):x2t [.lst (D.int n::ns.map D.int)] = .ok (.int (maxI (n::ns))):=by
 have h:=ints?_map (n::ns)
 rw[List.map_cons] at h
 simp only[x2t,h]
noncomputable def bigN:Nat:=10^1200
noncomputable def y0p(i j:Int):Prop:=i.natAbs<bigN/\j.natAbs<bigN
noncomputable instance (i j:Int):Decidable (y0p i j):=by unfold y0p;exact inferInstance
theorem w1j{n:Nat}(h:n<=10^300):n<bigN:=Nat.lt_of_le_of_lt h (Nat.pow_lt_pow_right (by decide) (by decide))
noncomputable def y9o(x y:D):R D:=match x,y with
 | .int i,.int j=>R.guard (y0p i j) (.ok (.int (i*j)))
 | _,_=>.no
noncomputable def D.isNon:D->Bool
 | .non=>true
 | _=>false
noncomputable def x9o(x y:D):R D:=match y with
 | .non=>.ok (.bl (!x.isNon))
 | _=>.no
noncomputable def x7a(n:Int):Nat:=if n==0 then 0 else n.natAbs.log2+1
noncomputable def x2u(d:D):R D:=match d with
 | .int n=>.ok (.int (x7a n))
 | _=>.no
noncomputable def y9l(ga:G->R D):G->R D:=fun Γ=>ga Γ>>=x2u
noncomputable def dShr(x y:D):R D:=match x,y with
 | .int i,.int j=>R.guard (0<=i/\0<=j) (.ok (.int (i/2^j.toNat)))
 | _,_=>.no
noncomputable def x6k(ge:G->R D):D->D->G->R (Option D):=fun d d2 Γ=>ge (.ro d :: .ro d2::Γ)>>=fun e=>.ok (some e)
noncomputable def y4z(gc:G->R Bool)(ge:G->R D):D->D->G->R (Option D):=fun d d2 Γ=>gc (.ro d :: .ro d2::Γ)>>=fun k=>if k=true then ge (.ro d :: .ro d2::Γ)>>=fun e=>.ok (some e) else .ok none
noncomputable def y1a(f:D->D->G->R (Option D))(Γ:G)(d:D):R (Option D):=match d with
 | .tup [a,b]=>f a b Γ
 | _=>.no
noncomputable def y3p(gi:G->R (List D))(f:D->D->G->R (Option D)):G->R (List D):=fun Γ=>gi Γ>>=fun items=>R.guard (items.length<=100000) (z0y (y1a f Γ) items [])
noncomputable def zipD:List D->List D->List D
 | x::xs,y::ys=>.tup [x,y]::zipD xs ys
 | _,_=>[]
noncomputable def gZip(ga gb:G->R D):G->R (List D):=fun Γ=>ga Γ>>=fun a=>gb Γ>>=fun b=>dSeq a>>=fun xs=>dSeq b>>=fun ys=>R.guard (D.noLs xs=true/\D.noLs ys=true) (.ok (zipD xs ys))
noncomputable def z3v(gb:G->R Fl)(i j:Nat):List D->G->R Fl
 | [],Γ=>.ok (.nx Γ)
 | .tup [a,b]::ds,Γ=>match gb ((Γ.set i (.ro a)).set j (.ro b)) with
   | .ok (.nx Γ')=>z3v gb i j ds Γ'
   | .ok (.ct Γ')=>z3v gb i j ds Γ'
   | .ok (.bk Γ')=>.ok (.nx Γ')
   | .ok (.rt d)=>.ok (.rt d)
   | .ok (.rtF d)=>.ok (.rtF d)
   | .ok (.ex c Γ')=>.ok (.ex c Γ')
   | _=>.no
 | _::_,_=>.no
noncomputable def x2p(i j:Nat)(gs:G->R (List D))(gb:G->R Fl):G->R Fl:=fun Γ=>lift (gs Γ) Γ fun ds=>z3v gb i j ds Γ
noncomputable def z4w:Nat->List D->List D
 | _,[]=>[]
 | k,x::xs=>.tup [.int k,x]::z4w (k+1) xs
noncomputable def y7u(ga:G->R D):G->R (List D):=fun Γ=>ga Γ>>=fun a=>match a with
 | .lst xs=>R.guard (D.noLs xs=true) (.ok (z4w 0 xs))
 | _=>.no
noncomputable def w3r(ds:List D):R D:=match ds with
 | [.tup xs]=>(match ints? xs with | some ns=>.ok (.bl (ns.any (fun n=>n != 0))) | none=>.no)
 | _=>.no
theorem y3x(ns:List Int):w3r [.tup (ns.map D.int)] = .ok (.bl (ns.any (fun n=>n != 0))):=by simp only[w3r,ints?_map]
noncomputable def frzAt(i:Nat)(Γ:G):G:=match Γ[i]? with
 | some (.own ds)=>Γ.set i (.ro (.lst ds))
 | _=>Γ
noncomputable def gFrz(i:Nat)(g:G->R Fl):G->R Fl:=fun Γ=>g (frzAt i Γ)
noncomputable def z7z(φ:List D->R D)(gs:G->R (List D)):G->R D:=fun Γ=>gs Γ>>=fun ds=>match φ ds with | .ok d=>.ok d | _=>.no
noncomputable def y6e(is:List Nat)(g:G->R D):G->R Fl:=fun Γ=>lift (g Γ) Γ fun d=>lift (dSeq d) Γ fun ds=>R.guard (ds.length=is.length) (.ok (.nx (setAll is ds Γ)))
noncomputable def gExt(i:Nat)(gs:G->R (List D)):G->R Fl:=fun Γ=>match Γ[i]? with
 | some (.own ds)=>lift (gs Γ) Γ fun es=>R.guard (ds.length+es.length<=100000) (.ok (.nx (Γ.set i (.own (ds++es)))))
 | _=>.no
theorem w7a{i:Nat}{gs:G->R (List D)}{Γ:G}{ds es:List D}(hi:Γ[i]? = some (.own ds))(h:gs Γ = .ok es)(hl:ds.length+es.length<=100000):gExt i gs Γ = .ok (.nx (Γ.set i (.own (ds++es)))):=by
 unfold gExt;rw[hi]
 show lift (gs Γ) Γ _=_
 rw[h,z2i,z0o hl]
noncomputable def insU(x:Int):List Int->List Int
 | []=>[x]
 | y::l=>if x<y then x::y::l else if x=y then y::l else y::insU x l
noncomputable def z5k:List Int->List Int
 | []=>[]
 | x::l=>insU x (z5k l)
theorem y5x{x z:Int}:∀{l:List Int},z∈insU x l↔z=x∨z∈l
 | []=>by simp[insU]
 | y::l=>by
   unfold insU
   by_cases h:x<y
   ·rw[if_pos h];simp
   ·rw[if_neg h]
    by_cases e:x=y
    ·rw[if_pos e];subst e;simp
    ·rw[if_neg e]
     simp only[List.mem_cons,y5x (l:=l)]
     constructor
     ·rintro(q | q | q)
      ·exact .inr (.inl q)
      ·exact .inl q
      ·exact .inr (.inr q)
     ·rintro(q | q | q)
      ·exact .inr (.inl q)
      ·exact .inl q
      ·exact .inr (.inr q)
theorem z7c{z:Int}:∀{l:List Int},z∈z5k l↔z∈l
 | []=>by simp[z5k]
 | x::l=>by rw[z5k,y5x,z7c (l:=l),List.mem_cons]
theorem x5u{x:Int}:∀{l:List Int},l.Pairwise (·<·)->(insU x l).Pairwise (·<·)
 | [],_=>by simp[insU]
 | y::l,h=>by
   obtain⟨h1,h2⟩:=List.pairwise_cons.mp h
   unfold insU
   by_cases q:x<y
   ·rw[if_pos q]
    refine List.pairwise_cons.mpr ⟨fun z hz=>?_,h⟩
    rcases List.mem_cons.mp hz with e | e
    ·rw[e];exact q
    ·exact Int.lt_trans q (h1 z e)
   ·rw[if_neg q]
    by_cases e:x=y
    ·rw[if_pos e];exact h
    ·rw[if_neg e]
     refine List.pairwise_cons.mpr ⟨fun z hz=>?_,x5u h2⟩
     rcases y5x.mp hz with w | w
     ·rw[w];lia
     ·exact h1 z w
theorem y5i:∀l:List Int,(z5k l).Pairwise (·<·)
 | []=>.nil
 | x::l=>x5u (y5i l)
noncomputable def x8z(ga:G->R D):G->R (List D):=fun Γ=>ga Γ>>=fun d=>match d with
 | .lst xs=>(match ints? xs with | some ns=>R.guard (ns.length<64) (.ok ((z5k ns).map D.int)) | none=>.no)
 | _=>.no
theorem x6c{ga:G->R D}{Γ:G}{ns:List Int}(h:ga Γ = .ok (.lst (ns.map D.int)))(hl:ns.length<64):x8z ga Γ = .ok ((z5k ns).map D.int):=by
 unfold x8z
 rw[h]
 show(match ints? (ns.map D.int) with | some ns=>R.guard (ns.length<64) (.ok ((z5k ns).map D.int)) | none=>.no)=_
 rw[ints?_map]
 show R.guard _ _=_
 rw[z0o hl]
noncomputable def dIn(x c:D):R D:=match c with
 | .lst ys=>R.guard (D.lay 40 x=true/\D.lay 40 (.lst ys)=true) (.ok (.bl (ys.any fun y=>eqD y x)))
 | .tup ys=>R.guard (D.lay 40 x=true/\D.lay 40 (.tup ys)=true) (.ok (.bl (ys.any fun y=>eqD y x)))
 | _=>.no
noncomputable def y3w(ys:List D)(x:D):R D:=match ys.findIdx? fun y=>eqD y x with
 | some j=>R.guard (D.lay 40 x=true/\D.lay 40 (.lst ys)=true/\ys.length<=100000) (.ok (.int (j:Int)))
 | none=>.no
noncomputable def z9t(ga gb:G->R D):G->R D:=fun Γ=>ga Γ>>=fun a=>match a with
 | .lst ys=>gb Γ>>=fun x=>y3w ys x
 | _=>.no
noncomputable def x0z(g:G->R D):G->R (List D):=fun Γ=>g Γ>>=fun d=>match d with
 | .lst ds=>.ok (z4w 1 ds)
 | _=>.no
noncomputable def D.isRow:D->Bool
 | .tup ds=>ds.all fun d=>match d with | .int _=>true | _=>false
 | _=>false
noncomputable def x6b(i j:Nat):G->R Fl:=fun Γ=>match Γ[i]?,Γ[j]? with
 | some (.ro (.lst xs)),some (.ro (.lst ys))=>R.guard (xs.all D.isRow=true/\ys.all D.isRow=true/\xs.length<=20000/\ys.length<=20000) (.ok (.rt (.bl (!(ys.any fun y=>xs.any fun x=>eqD x y)))))
 | _,_=>.no
end L3
namespace L3
section
variable {Γ Γ':G}{i:Nat}{g gk:G->R D}{gs:G->R (List D)}{gc:G->R Bool}{t u e gb:G->R Fl}{r:R Fl}{d k:D}{ds:List D}{c:Er}
theorem z5o(h:t Γ = .ok (.nx Γ'))(h2:u Γ'=r):gSt t u Γ=r:=by unfold gSt;rw[h];exact h2
theorem y4e(h:t Γ = .ok (.rt d)):gSt t u Γ = .ok (.rt d):=by unfold gSt;rw[h];rfl
theorem w7g(h:t Γ = .ok (.ex c Γ')):gSt t u Γ = .ok (.ex c Γ'):=by unfold gSt;rw[h];rfl
theorem z6m(h:g Γ = .ok d):gSet i g Γ = .ok (.nx (Γ.set i (.ro d))):=by unfold gSet;rw[h];rfl
theorem w5f(h:gs Γ = .ok ds):z2q i gs Γ = .ok (.nx (Γ.set i (.own ds))):=by unfold z2q;rw[h];rfl
theorem x2l(ho:Γ[i]? = some (.own ds))(h:g Γ = .ok d)(hl:ds.length<=100000):gApp i g Γ = .ok (.nx (Γ.set i (.own (ds++[d])))):=by
 unfold gApp;rw[ho];simp only[h,z2i,z0o hl]
theorem w5g{j:Int}{n:Nat}(ho:Γ[i]? = some (.own ds))(h:g Γ = .ok d)(hk:gk Γ = .ok (.int j))(hn:ixN ds.length j=some n):gPut i gk g Γ = .ok (.nx (Γ.set i (.own (ds.set n d)))):=by
 unfold gPut;rw[ho];simp only[h,hk,z2i,hn]
theorem z8q(hc:gc Γ = .ok true)(h:t Γ=r):gIfS gc t u Γ=r:=by unfold gIfS;rw[hc];exact h
theorem w5h(hc:gc Γ = .ok false)(h:u Γ=r):gIfS gc t u Γ=r:=by unfold gIfS;rw[hc];exact h
theorem y1t(hc:gc Γ = .ok false):gIfS gc t z1i Γ = .ok (.nx Γ):=w5h hc rfl
theorem w5i(hi:gs Γ = .ok ds)(h:z4h gb i ds Γ=r):gFor i gs gb Γ=r:=by unfold gFor;rw[hi];exact h
theorem z2g(h:g Γ = .ok d):gRet g Γ = .ok (.rt d):=by unfold gRet;rw[h];rfl
theorem x0v(h:gs Γ = .ok ds):z8a gs Γ = .ok (.rtF ds):=by unfold z8a;rw[h];rfl
theorem w0t(h:Γ[i]? = some (.own ds)):z7d i Γ = .ok (.rtF ds):=by unfold z7d;rw[h]
theorem z0w(hg:g Γ = .ok d)(h:u (Γ.set i (.ro d))=r):gSt (gSet i g) u Γ=r:=z5o (z6m hg) h
theorem z1z(hg:gs Γ = .ok ds)(h:u (Γ.set i (.own ds))=r):gSt (z2q i gs) u Γ=r:=z5o (w5f hg) h
theorem z1u(hc:gc Γ = .ok false)(h:u Γ=r):gSt (gIfS gc t z1i) u Γ=r:=z5o (y1t hc) h
theorem w6b(hc:gc Γ = .ok true)(ht:t Γ = .ok (.nx Γ'))(h:u Γ'=r):gSt (gIfS gc t e) u Γ=r:=z5o (z8q hc ht) h
theorem y8f(hi:gs Γ = .ok ds)(hf:z4h gb i ds Γ = .ok (.nx Γ'))(h:u Γ'=r):gSt (gFor i gs gb) u Γ=r:=z5o (w5i hi hf) h
theorem z1k{p n:Nat}(hl:ds.length=p)(h:t (ini n ds) = .ok (.rt d)):fnC p n t ds = .ok d:=by rw[y4y hl,h];rfl
theorem w5w{p n:Nat}(hl:ds.length=p)(h:t (ini n ds) = .ok (.ex c Γ)):fnC p n t ds = .er c:=by rw[y4y hl,h];rfl
theorem y0s{p n:Nat}{es:List D}(hl:ds.length=p)(h:t (ini n ds) = .ok (.rtF es)):fnF p n t ds = .ok es:=by rw[w1b hl,h];rfl
noncomputable def Ends(r:R Fl)(I:G->Prop):Prop:=∃Γ',(r = .ok (.nx Γ')∨r = .ok (.ct Γ'))/\I Γ'
theorem Ends.nx{I:G->Prop}{r:R Fl}(h:r = .ok (.nx Γ))(hI:I Γ):Ends r I:=⟨Γ,.inl h,hI⟩
theorem z7w(I:Nat->G->Prop)(hi:gs Γ = .ok ds)(h0:I 0 Γ)(hq:∀(j:Nat) (d:D) (Γ:G),ds[j]? = some d->I j Γ->Ends (gb (Γ.set i (.ro d))) (I (j+1)))(h:∀Γ',I ds.length Γ'->u Γ'=r):gSt (gFor i gs gb) u Γ=r:=by
 obtain⟨Γ',e,h'⟩:=z7e I ds 0 Γ h0 fun j d Γ hd hI=>by rw[Nat.zero_add] at hI ⊢;exact hq j d Γ hd hI
 rw[Nat.zero_add] at h'
 exact y8f hi e (h Γ' h')
end
noncomputable def sumN(f:Nat->Int):Nat->Int
 | 0=>0
 | n+1=>sumN f n+f n
theorem y6p(f:Nat->Int):sumN f 0=0:=rfl
theorem z0t(f:Nat->Int)(n:Nat):sumN f (n+1)=sumN f n+f n:=rfl
theorem z0m{f g:Nat->Int}:∀{n:Nat},(∀i,i<n->f i=g i)->sumN f n=sumN g n
 | 0,_=>rfl
 | n+1,h=>by rw[z0t,z0t,z0m fun i hi=>h i (by lia),h n (by lia)]
theorem z9e(f g:Nat->Int):∀n:Nat,sumN (fun i=>f i+g i) n=sumN f n+sumN g n
 | 0=>rfl
 | n+1=>by rw[z0t,z0t,z0t,z9e f g n];lia
theorem z5z(c:Int)(f:Nat->Int):∀n:Nat,sumN (fun i=>c*f i) n=c*sumN f n
 | 0=>by simp[sumN]
 | n+1=>by rw[z0t,z0t,z5z c f n,Int.mul_add]
theorem x3p(c:Int)(f:Nat->Int)(n:Nat):sumN (fun i=>f i*c) n=sumN f n*c:=by
 rw[z0m (g:=fun i=>c*f i) fun i _=>Int.mul_comm _ _,z5z,Int.mul_comm]
theorem z6a:∀n:Nat,sumN (fun _=>0) n=0
 | 0=>rfl
 | n+1=>by rw[z0t,z6a n];rfl
theorem y6q(f:Nat->Nat->Int)(m:Nat):∀n:Nat,sumN (fun i=>sumN (fun j=>f i j) m) n=sumN (fun j=>sumN (fun i=>f i j) n) m
 | 0=>by simp only[y6p,z6a]
 | n+1=>by
   rw[z0t,y6q f m n,<-z9e]
   rfl
theorem z3z{f:Nat->Int}{k:Nat}:∀{n:Nat},k<n->(∀i,i<n->i≠k->f i=0)->sumN f n=f k
 | 0,h,_=>absurd h (Nat.not_lt_zero _)
 | n+1,h,q=>by
   rw[z0t]
   by_cases e:k=n
   ·subst e
    rw[z0m (g:=fun _=>0) fun i hi=>q i (by lia) (by lia),z6a];lia
   ·rw[z3z (by lia) fun i hi hk=>q i (by lia) hk,q n (by lia) (Ne.symm e)];lia
theorem z5y{f:Nat->Int}{n:Nat}(q:∀i,i<n->f i=0):sumN f n=0:=by
 rw[z0m (g:=fun _=>0) q,z6a]
theorem y2p(f:Nat->Int):∀n:Nat,((List.range n).map f).sum=sumN f n
 | 0=>rfl
 | n+1=>by rw[List.range_succ,List.map_append,List.sum_append,y2p f n,z0t];simp
noncomputable def cg(P a b:Int):Prop:=a%P=b%P
theorem cg.refl{P a:Int}:cg P a a:=rfl
theorem cg.symm{P a b:Int}(h:cg P a b):cg P b a:=Eq.symm h
theorem cg.trans{P a b c:Int}(h:cg P a b)(g:cg P b c):cg P a c:=Eq.trans h g
theorem cg.of_eq{P a b:Int}(h:a=b):cg P a b:=by rw[h];exact cg.refl
theorem z7h{P a:Int}:cg P (a%P) a:=by unfold cg;exact Int.emod_emod_of_dvd a (Int.dvd_refl P)
theorem cg.add{P a b c d:Int}(h:cg P a b)(g:cg P c d):cg P (a+c) (b+d):=by unfold cg at *;rw[Int.add_emod,h,g,<-Int.add_emod]
theorem cg.sub{P a b c d:Int}(h:cg P a b)(g:cg P c d):cg P (a-c) (b-d):=by unfold cg at *;rw[Int.sub_emod,h,g,<-Int.sub_emod]
theorem cg.mul{P a b c d:Int}(h:cg P a b)(g:cg P c d):cg P (a*c) (b*d):=by unfold cg at *;rw[Int.mul_emod,h,g,<-Int.mul_emod]
theorem cg.sumN{P:Int}{f g:Nat->Int}:∀{n:Nat},(∀i,i<n->cg P (f i) (g i))->cg P (L3.sumN f n) (L3.sumN g n)
 | 0,_=>cg.refl
 | n+1,h=>(cg.sumN fun i hi=>h i (by lia)).add (h n (by lia))
theorem cg.eq_of{P a b:Int}(h:cg P a b)(ha:0<=a)(ha':a<P)(hb:0<=b)(hb':b<P):a=b:=by
 unfold cg at h;rw[Int.emod_eq_of_lt ha ha',Int.emod_eq_of_lt hb hb'] at h;exact h
theorem w1f{P a b:Int}:cg P a b↔(a-b)%P=0:=by
 unfold cg
 constructor
 ·intro h;rw[Int.sub_emod,h,Int.sub_self,Int.zero_emod]
 ·intro h
  have:cg P (a-b+b) (0+b):=cg.add (by unfold cg;rw[h,Int.zero_emod]) cg.refl
  unfold cg at this
  rw[show a-b+b=a by lia,Int.zero_add] at this
  exact this
theorem z6i{w P:Int}(h:0<P):0<=w%P:=Int.emod_nonneg _ (by lia)
theorem z6j{w P:Int}(h:0<P):w%P<P:=Int.emod_lt_of_pos _ h
end L3
namespace L3
open PySem
noncomputable section
noncomputable def g_s:G->R Fl :=
 (gSt (gIfS (gT (gBin dLt (gV 1) (z0g dLen (gCons (gV 0) gNil)))) (gRet (gBin dIx (gV 0) (gV 1))) z1i)
 (gRet (gC (.int 0))))
noncomputable def c_s:List D->R D:=fnC 2 2 g_s
noncomputable def g_h:G->R Fl :=
 (gSt (z2q 3 (gLst gNil))
 (gSt (gFor 4 (z5v (gV 2))
 (gSt (gApp 3 (gNL (gBin dMod (gV 0) (gV 1))))
 (gSet 0 (gNL (gBin dDiv (gV 0) (gV 1))))))
 (gRet (z0g z2r (gCons (gV 3) gNil)))))
noncomputable def c_h:List D->R D:=fnC 3 5 g_h
noncomputable def g_m:G->R Fl :=
 (gSt (gIfS (gT (gBin dEq (gBin dMod (gV 0) (gC (.int 2))) (gC (.int 0)))) (gRet (gBin dIx (gTup (y2c [3,5,7,11,13,17,19,23])) (gBin dMod (gBin dDiv (gV 0) (gC (.int 2))) (gC (.int 8))))) z1i)
 (gSt (gSet 1 (gNL (gBin dAdd (gC (.int 3)) (gBin dMod (gBin dDiv (gV 0) (gC (.int 2))) (gC (.int 9971))))))
 (gSt (whGo (gT (z0g dAny (gCons (gL (z2z (z9z (gC (.int 2)) (gC (.int 100))) (z7f (gT (gBin dLt (gV 0) (gV 2))) (gNL (gBin dEq (gBin dMod (gV 2) (gV 0)) (gC (.int 0))))))) gNil))) (gSet 1 (gNL (gBin dAdd (gV 1) (gC (.int 1))))) 10000)
 (gRet (gV 1)))))
noncomputable def c_m:List D->R D:=fnC 1 2 g_m
noncomputable def g_r:G->R Fl :=
 (gRet (z8t (gIsi z6s (gV 0)) (y1j (gIsi z4o (gV 0)))))
noncomputable def c_r:List D->R D:=fnC 1 1 g_r
noncomputable def g_on:G->R Fl :=
 (gRet (gBin dMod (gV 1) (gV 0)))
noncomputable def c_on:List D->R D:=fnC 2 2 g_on
noncomputable def g_H:G->R Fl :=
 (gSt (gSet 3 (gNL (z0g dLen (gCons (gV 2) gNil))))
 (gRet (z0g c_on (gCons (gV 0) (gCons (gBin dAdd (z0g dSum (gCons (gL (z2z (z5v (gV 3)) (fElt (gNL (gBin dMul (gBin dIx (gV 2) (gV 0)) (gBin dIx (gV 3) (gV 0))))))) gNil)) (gBin dIx (gV 1) (gV 3))) gNil)))))
noncomputable def c_H:List D->R D:=fnC 3 4 g_H
noncomputable def g_F:G->R Fl :=
 (gRet (z0g z2r (gCons (gL (z2z (z5i (gV 1)) (fElt (gNL (z0g (noEr c_H) (gCons (gV 1) (gCons (gV 0) (gCons (gV 3) gNil)))))))) gNil)))
noncomputable def c_F:List D->R D:=fnC 3 3 g_F
noncomputable def g_q:G->R Fl :=
 (gRet (z0g dSum (gCons (gL (z2z (z5v (z0g dLen (gCons (gV 1) gNil))) (fElt (gNL (gBin dMul (gBin dIx (gV 1) (gV 0)) (gBin dIx (gBin dIx (gV 2) (gV 0)) (gV 3))))))) gNil)))
noncomputable def c_q:List D->R D:=fnC 3 3 g_q
noncomputable def g_p:G->R Fl :=
 (gSt (gSet 3 (gNL (z0g dLen (gCons (gV 1) gNil))))
 (gSt (z2q 4 (z2z (z5v (gBin dAdd (gV 3) (gC (.int 1)))) (fElt (gNL (z0g (noEr c_q) (gCons (gV 3) (gCons (gV 2) (gCons (gV 0) gNil))))))))
 (gSt (gPut 4 (gV 3) (gNL (gBin dAdd (gBin dIx (gV 4) (gV 3)) (gBin dIx (gV 2) (gV 3)))))
 (gRet (z0g z2r (gCons (gL (z2z (z5i (gV 4)) (fElt (gNL (z0g (noEr c_on) (gCons (gV 1) (gCons (gV 0) gNil))))))) gNil))))))
noncomputable def c_p:List D->R D:=fnC 3 5 g_p
noncomputable def g_M:G->R Fl :=
 (gRet (z0g z2r (gCons (gL (z2z (z5i (gV 2)) (fElt (gNL (z0g (noEr c_p) (gCons (gV 1) (gCons (gV 2) (gCons (gV 0) gNil)))))))) gNil)))
noncomputable def c_M:List D->R D:=fnC 3 3 g_M
noncomputable def g_G:G->R Fl :=
 (gRet (z0g z2r (gCons (gL (z2z (z5v (gV 0)) (fElt (gNL (gIf (gT (gBin dEq (gV 0) (gV 2))) (gC (.int 1)) (gC (.int 0))))))) gNil)))
noncomputable def c_G:List D->R D:=fnC 2 2 g_G
noncomputable def g_J:G->R Fl :=
 (gRet (z0g z2r (gCons (gL (z2z (z5v (gV 0)) (fElt (gNL (z0g (noEr c_G) (gCons (gBin dAdd (gV 1) (gC (.int 1))) (gCons (gV 0) gNil))))))) gNil)))
noncomputable def c_J:List D->R D:=fnC 1 1 g_J
noncomputable def g_z:G->R Fl :=
 (gSt (z2q 3 (z7t (z0g c_J (gCons (gV 0) gNil))))
 (gSt (gPut 3 (gV 1) (gNL (z0g z2r (gCons (gV 2) gNil))))
 (gRet (z0g z2r (gCons (gV 3) gNil)))))
noncomputable def c_z:List D->R D:=fnC 3 4 g_z
noncomputable def x6a:G->R Fl :=
 (gSt (gSet 2 (gNL (z0g c_on (gCons (gV 0) (gCons (gV 1) gNil)))))
 (gSt (gIfS (gT (gBin dEq (gV 2) (gC (.int 0)))) (z6r .noNumber) z1i)
 (gSt (gSet 3 (gNL (gC (.int 1))))
 (gSt (whGo (gT (gBin dNe (gV 2) (gC (.int 1)))) (gSt (gSet 3 (gNL (z0g c_on (gCons (gV 0) (gCons (gBin dMul (gNeg (gV 3)) (gBin dDiv (gV 0) (gV 2))) gNil)))))
 (gSet 2 (gNL (gBin dMod (gV 0) (gV 2))))) 100000)
 (gRet (gV 3))))))
noncomputable def y4d:List D->R D:=fnC 2 4 x6a
end
def wkL (e : String) : Lean.MacroM (Lean.TSyntax `tactic) := do let l <- (("L3.fin L3.finF L3.fnC L3.fnF L3.gV L3.gVr L3.gC L3.gNil L3.y2c L3.z1i L3.gSt L3.gSet L3.z2q L3.gNL L3.z0g L3.z3e L3.gCons L3.gRet L3.z8a L3.z7d L3.setAll L3.gBin L3.gL L3.z2z L3.z5v L3.z9z L3.y1i L3.fElt L3.z7f L3.gT L3.gAnd L3.gOr L3.gNot L3.z8t L3.y1j L3.gNeg L3.dNeg L3.gIf L3.gIfS L3.gTup L3.gLst L3.gSeq L3.z5i L3.dSeq L3.gFor L3.gApp L3.gPut L3.gIsi L3.dIsi L3.z6r L3.gSl L3.gON L3.gOS L3.dOS L3.dCut L3.y0a L3.y2f L3.z7t L3.y2e L3.D.ty L3.z6s L3.z4o L3.z2k L3.z3a L3.z2i L3.z4l L3.y3i L3.z8l L3.z6g L3.z8k L3.z4k L3.ini L3.dLen L3.z2r L3.dAdd L3.dSub L3.dMul L3.dDiv L3.dMod L3.dPow L3.dLt L3.dLe L3.dGt L3.dGe L3.dEq L3.dNe L3.dIx L3.dMin L3.noEr L3.z9a R.bind_ok R.bind_er R.bind_no L3.z0o L3.z2n L3.z3n Bool.not_true Bool.not_false if_true if_false Bool.false_eq_true beq_self_eq_true ite_true ite_false Int.reduceToNat L3.z0j L3.y3f L3.y3e L3.y3d L3.y3c L3.y3b L3.z1s L3.z3s L3.z6d L3.z6e L3.z4j L3.z4c L3.z8p and_true true_and and_self List.map_cons List.map_nil List.length_cons List.length_nil List.length_map List.length_range List.length_set List.length_append List.length_replicate List.cons_append List.nil_append List.append_assoc List.replicate List.set_cons_zero List.set_cons_succ List.getElem?_cons_zero List.getElem?_cons_succ L3.ints?_map L3.bools?_map L3.z4q L3.z4r L3.z3y L3.z6h L3.z8v Nat.reduceAdd Nat.reduceSub Nat.reduceMul Int.reduceAdd Int.reduceSub Int.reduceMul Int.reduceNeg Int.toNat_natCast L3.z1v L3.z2o L3.z3p L3.z4u L3.z4t L3.z2p Option.map_some Int.add_zero Nat.reduceEqDiff Nat.reduceLeDiff Nat.zero_add Nat.add_zero Nat.sub_zero Nat.sub_self" ++ e).splitOn " ").toArray.mapM fun n => `(Lean.Parser.Tactic.simpLemma| $(Lean.mkIdent n.toName):term); `(tactic| try simp (disch := first | decide | omega | exact z1s _ | exact z3s _ | exact z3d _ | exact z1b _ | exact z2u _ _ | exact z0s (by omega) | exact ⟨z0s (by omega), z0s (by omega)⟩ | exact z3k (by first | assumption | exact z1e (by omega)) | exact z3j (by first | assumption | exact z1e (by omega)) | assumption) only [$l,*])
local macro_rules | `(tactic| walk_at "ev") => wkL ""
noncomputable def z5n(ns:List Int)(k:Int):Int:=(ns[k.toNat]?).getD 0
theorem y9t{ns:List Int}{k:Int}(h0:0<=k)(h:k<(ns.length:Int)):atI (ns.map D.int) k=some (.int (z5n ns k)):=by
 rw[w1k h0,List.getElem?_map]
 unfold z5n
 rw[List.getElem?_eq_getElem (by lia)];rfl
theorem x9v{ns:List Int}{k:Int}(h0:0<=k)(h:¬k<(ns.length:Int)):z5n ns k=0:=by
 unfold z5n
 rw[List.getElem?_eq_none (by lia)];rfl
theorem z9o{ns:List Int}{k:Int}(h0:0<=k):c_s [.lst (ns.map D.int),.int k] = .ok (.int (z5n ns k)):=by
 unfold c_s g_s
 by_cases h:k<(ns.length:Int)
 ·have e1:=y9t h0 h
  have e2:decide (k<(ns.length:Int))=true:=decide_eq_true h
  walk_at "ev"
  simp only[e1,e2]
  walk_at "ev"
 ·have e2:decide (k<(ns.length:Int))=false:=decide_eq_false h
  have e3:=x9v h0 h
  walk_at "ev"
  simp only[e2,e3]
  walk_at "ev"
noncomputable def z4n:D->Bool
 | .int _=>true
 | _=>false
theorem w1t{d:D}(h:d.noX=true):c_r [d] = .ok (.bl (z4n d)):=by
 unfold c_r g_r
 cases d<;>first | rfl | (simp[D.noX] at h)
theorem z3w(i:Int):c_r [.int i] = .ok (.bl true):=w1t rfl
noncomputable def z4p(P:Int):Nat->Int->List Int
 | 0,_=>[]
 | n+1,c=>c%P::z4p P n (c/P)
theorem z5d(P:Int):∀(n:Nat) (c:Int),(z4p P n c).length=n
 | 0,_=>rfl
 | n+1,c=>by rw[z4p,List.length_cons,z5d P n]
noncomputable def onW(P:Int)(ns:List Int):Prop:=∀n∈ns,0<=n/\n<P
theorem z9m{P:Int}(hp:0<P):∀(n:Nat) (c:Int),onW P (z4p P n c)
 | 0,_=>fun x hx=>by simp[z4p] at hx
 | n+1,c=>fun x hx=>by
   rw[z4p] at hx
   rcases List.mem_cons.mp hx with e | e
   ·subst e;exact⟨z6i hp,z6j hp⟩
   ·exact z9m hp n _ x e
noncomputable def divs(P:Int):Nat->Int->Int
 | 0,c=>c
 | n+1,c=>divs P n c/P
noncomputable def digs(P:Int)(n:Nat)(c:Int):List Int:=(List.range n).map fun i=>divs P i c%P
theorem x6q(P:Int)(n:Nat)(c:Int):digs P (n+1) c=digs P n c++[divs P n c%P]:=by
 unfold digs;rw[List.range_succ,List.map_append];rfl
theorem x6p(P:Int):∀(n:Nat) (c:Int),divs P (n+1) c=divs P n (c/P)
 | 0,c=>rfl
 | n+1,c=>by rw[divs,x6p P n c];rfl
theorem x6r(P:Int):∀(n:Nat) (c:Int),digs P n c=z4p P n c
 | 0,c=>rfl
 | n+1,c=>by
   rw[z4p,<-x6r P n (c/P)]
   unfold digs
   rw[List.range_succ_eq_map,List.map_cons,List.map_map]
   congr 1
   apply List.map_congr_left
   intro i _
   show divs P (i+1) c%P=_
   rw[x6p]
theorem z5b{c P n:Int}(h1:0<P)(h2:P<1000000)(h3:0<=n)(h4:n<=20):c_h [.int c,.int P,.int n] = .ok (.tup ((z4p P n.toNat c).map D.int)):=by
 unfold c_h g_h
 walk_at "ev"
 rw[y9m (fun j=>[.ro (.int (divs P j c)),.ro (.int P),.ro (.int n),.own ((digs P j c).map D.int),(match j with | 0=>.no | k+1=>.ro (.int (0+(k:Int))))])]
 ·walk_at "ev"
  rw[x6r]
 ·rfl
 ·intro j hj
  have hl:(digs P j c).length<=100000:=by unfold digs;simp;lia
  walk_at "ev"
  rw[x6q]
  simp[divs]
noncomputable def z1x(n:Int):Bool:=((List.range 98).filterMap fun(i:Nat)=>if 2+(i:Int)<n then some (n%(2+(i:Int))==0) else none).any fun b=>b
theorem y1h(n:Int):z1x n=true↔∃b:Int,2<=b/\b<100/\b<n/\n%b=0:=by
 unfold z1x
 simp only[List.any_eq_true,List.mem_filterMap,List.mem_range]
 constructor
 ·rintro⟨x,⟨i,hi,e⟩,hx⟩
  by_cases q:2+(i:Int)<n
  ·rw[if_pos q] at e;cases e
   exact⟨2+i,by lia,by lia,q,by simpa using hx⟩
  ·rw[if_neg q] at e;cases e
 ·rintro⟨b,h1,h2,h3,h4⟩
  refine⟨true,⟨(b-2).toNat,by lia,?_⟩,rfl⟩
  have e:(2+(((b-2).toNat:Nat):Int))=b:=by lia
  rw[e,if_pos h3,h4];rfl
theorem y8a{f:D->R (Option D)}{lo:Int}{n:Nat}{h:Nat->Option Bool}(q:∀i,i<n->f (.int (lo+(i:Int))) = .ok ((h i).map D.bl)):z0y f (z3r lo n) [] = .ok (((List.range n).filterMap h).map D.bl):=by
 unfold z3r
 rw[z9u (h:=fun i=>(h i).map D.bl) fun i hi=>q i (List.mem_range.mp hi),List.map_filterMap]
theorem x9n{n c:Int}(Γ:G):gT (z0g dAny (gCons (gL (z2z (z9z (gC (.int 2)) (gC (.int 100))) (z7f (gT (gBin dLt (gV 0) (gV 2))) (gNL (gBin dEq (gBin dMod (gV 2) (gV 0)) (gC (.int 0))))))) gNil)) (.ro (.int c) :: .ro (.int n)::Γ) = .ok (z1x n):=by
 walk_at "ev"
 rw[y8a (h:=fun(i:Nat)=>if 2+(i:Int)<n then some (n%(2+(i:Int))==0) else none)]
 ·walk_at "ev";rfl
 ·intro i hi
  walk_at "ev"
  by_cases q:2+(i:Int)<n
  ·simp only[decide_eq_true q,if_pos q]
   walk_at "ev"
  ·simp only[decide_eq_false q,if_neg q]
   rfl
theorem y6z{k:Int}(h0:0<=k)(h1:k<8):∃p:Int,atI (([3,5,7,11,13,17,19,23]:List Int).map D.int) k=some (.int p)/\3<=p/\p<=23/\z1x p=false:=by
 have:k=0∨k=1∨k=2∨k=3∨k=4∨k=5∨k=6∨k=7:=by lia
 rcases this with rfl | rfl | rfl | rfl | rfl | rfl | rfl | rfl
 ·exact⟨3,rfl,by decide,by decide,by decide +kernel⟩
 ·exact⟨5,rfl,by decide,by decide,by decide +kernel⟩
 ·exact⟨7,rfl,by decide,by decide,by decide +kernel⟩
 ·exact⟨11,rfl,by decide,by decide,by decide +kernel⟩
 ·exact⟨13,rfl,by decide,by decide,by decide +kernel⟩
 ·exact⟨17,rfl,by decide,by decide,by decide +kernel⟩
 ·exact⟨19,rfl,by decide,by decide,by decide +kernel⟩
 ·exact⟨23,rfl,by decide,by decide,by decide +kernel⟩
theorem w1u(c:Int):∃p:Int,c_m [.int c] = .ok (.int p)/\3<=p/\p<=9973/\z1x p=false:=by
 unfold c_m g_m
 by_cases h:c%2=0
 ·have h0:0<=c/2%8:=by lia
  obtain⟨p,e,h1,h2,h3⟩:=y6z (k:=c/2%8) (by lia) (by lia)
  refine⟨p,?_,h1,by lia,h3⟩
  have hb:(c%2==0)=true:=by simpa using h
  have hm:0<=c/2%8/\c/2%8<8:=by lia
  walk_at "ev"
  simp only[hb]
  simp only[List.map_cons,List.map_nil] at e
  walk_at "ev"
  simp only[e]
  rfl
 ·have hb:(c%2==0)=false:=by simpa using h
  have key:∀(n m:Nat) (Γ:G),m<n->(∃z:Int,Γ=[.ro (.int c),.ro (.int z)]/\3<=z/\z<=9973/\(9973-z).toNat=m) ->
   ∃z:Int,whGo (gT (z0g dAny (gCons (gL (z2z (z9z (gC (.int 2)) (gC (.int 100))) (z7f (gT (gBin dLt (gV 0) (gV 2))) (gNL (gBin dEq (gBin dMod (gV 2) (gV 0)) (gC (.int 0))))))) gNil))) (gSet 1 (gNL (gBin dAdd (gV 1) (gC (.int 1))))) n Γ = .ok (.nx [.ro (.int c),.ro (.int z)])/\3<=z/\z<=9973/\z1x z=false:=by
   refine z5a _ (fun r=>∃z:Int,r = .ok (.nx [.ro (.int c),.ro (.int z)])/\3<=z/\z<=9973/\z1x z=false) ?_
   rintro m Γ ⟨z,rfl,h1,h2,h3⟩
   rw[x9n]
   cases q:z1x z with
   | false=>exact .inl ⟨rfl,z,rfl,h1,h2,q⟩
   | true =>
     have hz:z≠9973:=fun e=>by rw[e] at q;exact absurd q (by decide +kernel)
     refine .inr ⟨rfl,.inl ⟨[.ro (.int c),.ro (.int (z+1))],(9973-(z+1)).toNat,by lia,.inl ?_,z+1,rfl,by lia,by lia,rfl⟩⟩
     walk_at "ev"
  have hz:3<=3+c/2%9971/\3+c/2%9971<=9973:=by lia
  obtain⟨z,e,h1,h2,h3⟩:=key 10000 (9973-(3+c/2%9971)).toNat [.ro (.int c),.ro (.int (3+c/2%9971))] (by lia) ⟨_,rfl,hz.1,hz.2,rfl⟩
  refine⟨z,?_,h1,h2,h3⟩
  walk_at "ev"
  simp only[hb]
  walk_at "ev"
  rw[e]
  walk_at "ev"
noncomputable def z2a(f s:List Int):Int:=sumN (fun i=>(f[i]?).getD 0*(s[i]?).getD 0) s.length+(f[s.length]?).getD 0
theorem s_on{P n:Int}(h:0<P):c_on [.int P,.int n] = .ok (.int (n%P)):=by
 unfold c_on g_on
 walk_at "ev"
theorem atD{l:List Int}{i:Nat}(h:i<l.length):atI (l.map D.int) (i:Int)=some (.int ((l[i]?).getD 0)):=by
 rw[z3q,List.getElem?_map,List.getElem?_eq_getElem h];rfl
noncomputable def fits(l:List Int):Prop:=∀n∈l,y2d n
theorem y9n{l:List Int}(h:fits l)(i:Nat):y2d ((l[i]?).getD 0):=by
 by_cases q:i<l.length
 ·rw[List.getElem?_eq_getElem q];exact h _ (List.getElem_mem q)
 ·rw[List.getElem?_eq_none (by lia)];exact⟨by decide,by decide⟩
theorem onW.fits{P:Int}{l:List Int}(h:onW P l)(hp:P<18446744073709551616):fits l:=fun n hn=>by
 have:=h n hn
 exact⟨by lia,by lia⟩
theorem s_H{P:Int}{fs ss:List Int}(hp:0<P)(hf:fits fs)(hl:fs.length=ss.length+1)(hn:ss.length<=1000):c_H [.int P,.tup (fs.map D.int),.tup (ss.map D.int)] = .ok (.int (z2a fs ss%P)):=by
 unfold c_H g_H
 walk_at "ev"
 rw[z5j (h:=fun i=>D.int ((fs[i]?).getD 0*(ss[i]?).getD 0))]
 ·have e1:((List.range ss.length).map fun i=>D.int ((fs[i]?).getD 0*(ss[i]?).getD 0))=((List.range ss.length).map fun i=>(fs[i]?).getD 0*(ss[i]?).getD 0).map D.int:=by rw[List.map_map];rfl
  rw[e1]
  have e2:=atD (l:=fs) (i:=ss.length) (by lia)
  walk_at "ev"
  simp only[e2]
  walk_at "ev"
  rw[s_on hp,y2p]
  rfl
 ·intro i hi
  have e1:=atD (l:=fs) (i:=i) (by lia)
  have e2:=atD (l:=ss) (i:=i) (by lia)
  have e3:=y9n hf i
  walk_at "ev"
  simp only[Int.zero_add,e1,e2]
  walk_at "ev"
noncomputable def rowD(r:List Int):D:=.tup (r.map D.int)
theorem z2s(r:List Int):rowD r = .tup (r.map D.int):=rfl
theorem z0k(r:List Int):(rowD r).noL=true:=z3d r
theorem y0o(t:List (List Int)):D.noLs (t.map rowD)=true:=z9h fun r _=>z3d r
theorem z6c(t:List (List Int)):D.noL (.tup (t.map rowD))=true:=by rw[x4w];exact y0o t
theorem z4z(n:Nat)(r:List Int):D.lay (n+1) (rowD r)=true:=z2u n r
theorem w2x(n:Nat)(t:List (List Int)):D.lay (n+2) (.tup (t.map rowD))=true:=by
 rw[z8o,List.all_map,List.all_eq_true];intro x _;exact z2u n x
theorem w0l(r:List Int):D.pl (rowD r)=true:=x4m r
theorem w0k(t:List (List Int)):D.pl (.tup (t.map rowD))=true:=by
 rw[x0g,List.all_map,List.all_eq_true];intro x _;exact x4m x
theorem y3h:∀{a b:List Int},a.map D.int=b.map D.int->a=b
 | [],[],_=>rfl
 | [],_::_,h=>by simp at h
 | _::_,[],h=>by simp at h
 | x::a,y::b,h=>by simp at h;rw[h.1,y3h h.2]
theorem y0i{a b:List Int}(h:rowD a=rowD b):a=b:=y3h (by unfold rowD at h;simpa using h)
theorem y3g:∀{a b:List (List Int)},a.map rowD=b.map rowD->a=b
 | [],[],_=>rfl
 | [],_::_,h=>by simp at h
 | _::_,[],h=>by simp at h
 | x::a,y::b,h=>by simp only[List.map_cons,List.cons.injEq] at h;rw[y0i h.1,y3g h.2]
theorem z4d(a b:List Int):eqD (rowD a) (rowD b)=decide (a=b):=x6n (w0l a) (w0l b) ⟨y0i,fun h=>by rw[h]⟩
theorem z5x(a b:List Int):eqD (.tup (a.map D.int)) (.tup (b.map D.int))=decide (a=b):=z4d a b
theorem w3o(a b:List (List Int)):eqD (.tup (a.map rowD)) (.tup (b.map rowD))=decide (a=b):=x6n (w0k a) (w0k b) ⟨fun h=>y3g (by simpa using h),fun h=>by rw[h]⟩
theorem atT{t:List (List Int)}{i:Nat}(h:i<t.length):atI (t.map rowD) (i:Int)=some (rowD ((t[i]?).getD [])):=by
 rw[z3q,List.getElem?_map,List.getElem?_eq_getElem h];rfl
noncomputable def x1x(P:Int)(n:Nat)(r:List Int):Prop:=onW P r/\r.length=n+1
noncomputable def z1q(P:Int)(n:Nat)(t:List (List Int)):Prop:=t.length=n/\∀r∈t,x1x P n r
noncomputable def z2e(P:Int)(t:List (List Int))(s:List Int):List Int:=t.map fun r=>z2a r s%P
theorem z3f(P:Int)(t:List (List Int))(s:List Int):(z2e P t s).length=t.length:=by unfold z2e;simp
theorem y9z{P:Int}(hp:0<P)(t:List (List Int))(s:List Int):onW P (z2e P t s):=fun n hn=>by
 unfold z2e at hn
 obtain⟨r,_,rfl⟩:=List.mem_map.mp hn
 exact⟨z6i hp,z6j hp⟩
theorem s_F{P:Int}{ts:List (List Int)}{ss:List Int}(hp:0<P)(hp2:P<18446744073709551616)(ht:z1q P ss.length ts)(hn:ss.length<=1000):c_F [.int P,.tup (ts.map rowD),.tup (ss.map D.int)] = .ok (.tup ((z2e P ts ss).map D.int)):=by
 unfold c_F g_F
 have hlt:ts.length<=100000:=by rw[ht.1];lia
 have hnl:=y0o ts
 walk_at "ev"
 rw[z1w (h:=fun r=>D.int (z2a r ss%P))]
 ·walk_at "ev"
  unfold z2e
  rw[List.map_map];rfl
 ·intro r hr
  have q:=ht.2 r hr
  have e1:c_H [D.int P,rowD r,D.tup (ss.map D.int)]=R.ok (D.int (z2a r ss%P)):=s_H hp (q.1.fits hp2) q.2 hn
  rw[e1]
  walk_at "ev"
noncomputable def w6z(c:List D->R D):Prop:=∀ns:List Int,ns.length<=63->c [.lst (ns.map D.int)] = .ok (.bl true)
theorem y3n{α:Type}{l:List α}{i:Nat}{d:α}(h:i<l.length):(l[i]?).getD d=l[i]:=by rw[List.getElem?_eq_getElem h];rfl
noncomputable def z6l(P:Int)(t:List (List Int))(f:List Int):List Int:=(List.range (t.length+1)).map fun place =>
 (sumN (fun x=>(f[x]?).getD 0*(((t[x]?).getD [])[place]?).getD 0) t.length+(if place=t.length then (f[t.length]?).getD 0 else 0))%P
noncomputable def z4x(P:Int)(a b:List (List Int)):List (List Int):=b.map (z6l P a)
theorem y6l(P:Int)(t:List (List Int))(f:List Int):(z6l P t f).length=t.length+1:=by unfold z6l;simp
theorem x7h{P:Int}(hp:0<P)(t:List (List Int))(f:List Int):onW P (z6l P t f):=fun n hn=>by
 unfold z6l at hn
 obtain⟨r,_,rfl⟩:=List.mem_map.mp hn
 exact⟨z6i hp,z6j hp⟩
theorem z6n{P:Int}(hp:0<P){n:Nat}{a b:List (List Int)}(ha:a.length=n)(hb:b.length=n):z1q P n (z4x P a b):=by
 unfold z4x
 refine⟨by rw[List.length_map,hb],fun r hr=>?_⟩
 obtain⟨f,_,rfl⟩:=List.mem_map.mp hr
 exact⟨x7h hp _ _,by rw[y6l,ha]⟩
theorem y8o{P:Int}{t:List (List Int)}{f:List Int}{k:Nat}(h:k<=t.length):((z6l P t f)[k]?).getD 0=(sumN (fun x=>(f[x]?).getD 0*(((t[x]?).getD [])[k]?).getD 0) t.length+(if k=t.length then (f[t.length]?).getD 0 else 0))%P:=by
 unfold z6l
 rw[List.getElem?_map,List.getElem?_range (by lia)];rfl
theorem y8s{P:Int}{t:List (List Int)}{f s:List Int}(hs:s.length=t.length):cg P (z2a (z6l P t f) s) (z2a f (z2e P t s)):=by
 unfold z2a
 rw[z3f,hs]
 have h1:cg P (sumN (fun i=>((z6l P t f)[i]?).getD 0*(s[i]?).getD 0) t.length+((z6l P t f)[t.length]?).getD 0)
  (sumN (fun i=>sumN (fun x=>(f[x]?).getD 0*(((t[x]?).getD [])[i]?).getD 0) t.length*(s[i]?).getD 0) t.length+(sumN (fun x=>(f[x]?).getD 0*(((t[x]?).getD [])[t.length]?).getD 0) t.length+(f[t.length]?).getD 0)):=by
  refine cg.add (cg.sumN fun i hi=>cg.mul ?_ cg.refl) ?_
  ·rw[y8o (by lia),if_neg (by lia),Int.add_zero];exact z7h
  ·rw[y8o (Nat.le_refl _),if_pos rfl];exact z7h
 have h2:cg P (sumN (fun i=>(f[i]?).getD 0*((z2e P t s)[i]?).getD 0) t.length+(f[t.length]?).getD 0)
  (sumN (fun x=>(f[x]?).getD 0*(sumN (fun i=>(((t[x]?).getD [])[i]?).getD 0*(s[i]?).getD 0) t.length+(((t[x]?).getD [])[t.length]?).getD 0)) t.length+(f[t.length]?).getD 0):=by
  refine cg.add (cg.sumN fun x hx=>cg.mul cg.refl ?_) cg.refl
  unfold z2e
  rw[List.getElem?_map,List.getElem?_eq_getElem hx]
  show cg P (z2a t[x] s%P) _
  refine z7h.trans (cg.of_eq ?_)
  unfold z2a
  rw[hs];rfl
 refine h1.trans (cg.trans (cg.of_eq ?_) h2.symm)
 have e1:sumN (fun i=>sumN (fun x=>(f[x]?).getD 0*(((t[x]?).getD [])[i]?).getD 0) t.length*(s[i]?).getD 0) t.length=sumN (fun x=>(f[x]?).getD 0*sumN (fun i=>(((t[x]?).getD [])[i]?).getD 0*(s[i]?).getD 0) t.length) t.length:=by
  rw[z0m (g:=fun i=>sumN (fun x=>(f[x]?).getD 0*((((t[x]?).getD [])[i]?).getD 0*(s[i]?).getD 0)) t.length) fun i _=>by
   rw[<-x3p];exact z0m fun x _=>Int.mul_assoc _ _ _]
  rw[y6q]
  exact z0m fun x _=>z5z _ _ _
 rw[e1,z0m (f:=fun x=>(f[x]?).getD 0*(sumN (fun i=>(((t[x]?).getD [])[i]?).getD 0*(s[i]?).getD 0) t.length+(((t[x]?).getD [])[t.length]?).getD 0)) (g:=fun x=>(f[x]?).getD 0*sumN (fun i=>(((t[x]?).getD [])[i]?).getD 0*(s[i]?).getD 0) t.length+(f[x]?).getD 0*(((t[x]?).getD [])[t.length]?).getD 0) fun x _=>Int.mul_add _ _ _,z9e]
 lia
noncomputable def y8r(n:Nat):List Int:=List.replicate n 0
noncomputable def z5f(n k:Nat):List Int:=(List.range n).map fun i=>if i=k then 1 else 0
theorem y1q(n:Nat):(y8r n).length=n:=by unfold y8r;simp
theorem z4e(n k:Nat):(z5f n k).length=n:=by unfold z5f;simp
theorem x7i(n i:Nat):((y8r n)[i]?).getD 0=0:=by
 unfold y8r
 rw[List.getElem?_replicate];split<;>rfl
theorem z9c{n k i:Nat}(h:i<n):((z5f n k)[i]?).getD 0=if i=k then 1 else 0:=by
 unfold z5f
 rw[List.getElem?_map,List.getElem?_range h];rfl
theorem y4m(f:List Int)(n:Nat):z2a f (y8r n)=(f[n]?).getD 0:=by
 unfold z2a
 rw[y1q,z5y fun i _=>by rw[x7i,Int.mul_zero]];lia
theorem y4n(f:List Int){n k:Nat}(h:k<n):z2a f (z5f n k)=(f[k]?).getD 0+(f[n]?).getD 0:=by
 unfold z2a
 rw[z4e,z3z h fun i hi hk=>by rw[z9c hi,if_neg hk,Int.mul_zero]]
 rw[z9c h,if_pos rfl,Int.mul_one]
theorem y2a{P:Int}{f:List Int}(hp:0<P)(h:onW P f)(k:Nat):0<=(f[k]?).getD 0/\(f[k]?).getD 0<P:=by
 by_cases q:k<f.length
 ·rw[y3n q];exact h _ (List.getElem_mem q)
 ·rw[List.getElem?_eq_none (by lia)];exact⟨by simp,by simpa using hp⟩
theorem y6f{a b:List Int}(hl:a.length=b.length)(h:∀k,k<a.length->(a[k]?).getD 0=(b[k]?).getD 0):a=b:=by
 apply List.ext_getElem hl
 intro k h1 h2
 have:=h k h1
 rw[y3n h1,y3n h2] at this
 exact this
theorem x9a{P:Int}{n:Nat}{f g:List Int}(hp:0<P)(hf:x1x P n f)(hg:x1x P n g)(h0:cg P (z2a f (y8r n)) (z2a g (y8r n)))(h1:∀k,k<n->cg P (z2a f (z5f n k)) (z2a g (z5f n k))):f=g:=by
 have e0:(f[n]?).getD 0=(g[n]?).getD 0:=by
  rw[y4m,y4m] at h0
  exact h0.eq_of (y2a hp hf.1 n).1 (y2a hp hf.1 n).2 (y2a hp hg.1 n).1 (y2a hp hg.1 n).2
 refine y6f (by rw[hf.2,hg.2]) fun k hk=>?_
 rw[hf.2] at hk
 by_cases q:k=n
 ·rw[q];exact e0
 ·have hk':k<n:=by lia
  have h2:=h1 k hk'
  rw[y4n f hk',y4n g hk',e0] at h2
  have h3:=h2.sub (cg.refl (P:=P) (a:=(g[n]?).getD 0))
  rw[show(f[k]?).getD 0+(g[n]?).getD 0-(g[n]?).getD 0=(f[k]?).getD 0 by lia,show(g[k]?).getD 0+(g[n]?).getD 0-(g[n]?).getD 0=(g[k]?).getD 0 by lia] at h3
  exact h3.eq_of (y2a hp hf.1 k).1 (y2a hp hf.1 k).2 (y2a hp hg.1 k).1 (y2a hp hg.1 k).2
theorem turn_M{P:Int}{n:Nat}{a b:List (List Int)}{s:List Int}(ha:a.length=n)(hs:s.length=n):z2e P (z4x P a b) s=z2e P b (z2e P a s):=by
 unfold z4x
 show(b.map (z6l P a)).map (fun r=>z2a r s%P)=b.map fun r=>z2a r (z2e P a s)%P
 rw[List.map_map]
 apply List.map_congr_left
 intro f _
 exact y8s (by rw[hs,ha])
theorem y8u{P:Int}{n:Nat}{a b:List (List Int)}(hp:0<P)(ha:z1q P n a)(hb:z1q P n b)(h:∀s,s.length=n->z2e P a s=z2e P b s):a=b:=by
 apply List.ext_getElem (by rw[ha.1,hb.1])
 intro k h1 h2
 have hw:∀s,s.length=n->cg P (z2a a[k] s) (z2a b[k] s):=fun s hs=>by
  have e:=congrArg (fun l=>(l[k]?).getD 0) (h s hs)
  unfold z2e at e
  simp only[List.getElem?_map,List.getElem?_eq_getElem h1,List.getElem?_eq_getElem h2,Option.map_some,Option.getD_some] at e
  exact e
 exact x9a hp (ha.2 _ (List.getElem_mem h1)) (hb.2 _ (List.getElem_mem h2)) (hw _ (y1q n)) fun j _=>hw _ (z4e n j)
theorem y4o{P:Int}{n:Nat}{a b c:List (List Int)}(hp:0<P)(ha:a.length=n)(hb:b.length=n)(hc:c.length=n):z4x P (z4x P a b) c=z4x P a (z4x P b c):=by
 have h1:=(z6n hp ha hb).1
 have h2:=(z6n hp hb hc).1
 refine y8u hp (z6n hp h1 hc) (z6n hp ha h2) fun s hs=>?_
 rw[turn_M h1 hs,turn_M ha hs,turn_M ha hs,turn_M hb (by rw[z3f,ha])]
noncomputable def z6x(n:Nat):List (List Int):=(List.range n).map fun x=>z5f (n+1) x
theorem z3m(n:Nat):(z6x n).length=n:=by unfold z6x;simp
theorem y6c{P:Int}(hp:1<P)(n:Nat):z1q P n (z6x n):=by
 refine⟨z3m n,fun r hr=>?_⟩
 unfold z6x at hr
 obtain⟨x,_,rfl⟩:=List.mem_map.mp hr
 refine⟨fun z hz=>?_,by rw[z4e]⟩
 unfold z5f at hz
 obtain⟨i,_,rfl⟩:=List.mem_map.mp hz
 split<;>lia
theorem worth_J{n x:Nat}{s:List Int}(h:x<n)(hs:s.length=n):z2a (z5f (n+1) x) s=(s[x]?).getD 0:=by
 unfold z2a
 rw[hs,z3z h fun i hi hk=>by rw[z9c (by lia),if_neg hk,Int.zero_mul],z9c (by lia),if_pos rfl,z9c (by lia),if_neg (by lia)]
 lia
theorem turn_J{P:Int}{n:Nat}{s:List Int}(hs:s.length=n)(ho:onW P s):z2e P (z6x n) s=s:=by
 refine y6f (by rw[z3f,z3m,hs]) fun k hk=>?_
 rw[z3f,z3m] at hk
 have e:((z2e P (z6x n) s)[k]?).getD 0=z2a (z5f (n+1) k) s%P:=by
  unfold z2e z6x
  rw[List.map_map,List.getElem?_map,List.getElem?_range hk];rfl
 rw[e,worth_J hk hs]
 have h2:k<s.length:=by lia
 rw[y3n h2]
 have:=ho _ (List.getElem_mem h2)
 exact Int.emod_eq_of_lt this.1 this.2
theorem x3e{P:Int}{f s:List Int}:cg P (z2a f (s.map (·%P))) (z2a f s):=by
 unfold z2a
 rw[List.length_map]
 refine cg.add (cg.sumN fun i hi=>cg.mul cg.refl ?_) cg.refl
 rw[List.getElem?_map,List.getElem?_eq_getElem hi]
 exact z7h
theorem y9y{P:Int}{t:List (List Int)}{s:List Int}:z2e P t (s.map (·%P))=z2e P t s:=by
 unfold z2e
 exact List.map_congr_left fun r _=>x3e
theorem x1m{P:Int}{n:Nat}{s:List Int}(hp:0<P)(hs:s.length=n):z2e P (z6x n) s=s.map (·%P):=by
 rw[<-y9y,turn_J (by rw[List.length_map,hs])]
 intro z hz
 obtain⟨y,_,rfl⟩:=List.mem_map.mp hz
 exact⟨z6i hp,z6j hp⟩
theorem idle_M{P:Int}{n:Nat}{t:List (List Int)}(hp:1<P)(ht:z1q P n t):z4x P (z6x n) t=t:=by
 refine y8u (by lia) (z6n (by lia) (z3m n) ht.1) ht fun s hs=>?_
 rw[turn_M (z3m n) hs,x1m (by lia) hs,y9y]
theorem then_J{P:Int}{n:Nat}{t:List (List Int)}(hp:1<P)(ht:z1q P n t):z4x P t (z6x n)=t:=by
 refine y8u (by lia) (z6n (by lia) ht.1 (z3m n)) ht fun s hs=>?_
 rw[turn_M ht.1 hs,turn_J (by rw[z3f,ht.1]) (y9z (by lia) _ _)]
local macro_rules | `(tactic| walk_at "evs") => wkL " L3.z9o L3.z5b L3.z3w L3.s_on L3.z4n"
theorem z6f{α:Type}(l:List α)(f:α->Int):l.map (fun x=>D.int (f x))=(l.map f).map D.int:=by rw[List.map_map];rfl
theorem z4y{α:Type}(l:List α)(f:α->List Int):l.map (fun x=>rowD (f x))=(l.map f).map rowD:=by rw[List.map_map];rfl
theorem w4a{P:Int}{n k:Nat}{t:List (List Int)}(ht:z1q P n t)(hk:k<n):x1x P n ((t[k]?).getD []):=by
 rw[y3n (by rw[ht.1];exact hk)]
 exact ht.2 _ (List.getElem_mem _)
theorem s_q{P:Int}{n k:Nat}{f:List Int}{t:List (List Int)}(hf:fits f)(hl:n<=f.length)(ht:z1q P n t)(hn:n<=1000)(hk:k<=n):c_q [.tup (f.map D.int),.tup (t.map rowD),.int k] = .ok (.int (sumN (fun x=>(f[x]?).getD 0*(((t[x]?).getD [])[k]?).getD 0) n)):=by
 refine z1k rfl ?_
 delta g_q
 refine z2g ?_
 have htl:=ht.1
 walk_at "evs"
 rw[z5j (h:=fun x=>D.int ((f[x]?).getD 0*(((t[x]?).getD [])[k]?).getD 0)),z6f]
 ·walk_at "evs"
  rw[y2p,htl]
 ·intro x hx
  have hr:=w4a ht (k:=x) (by lia)
  have e1:=atD (l:=f) (i:=x) (by lia)
  have e2:=atT (t:=t) (i:=x) (by lia)
  have e3:=atD (l:=(t[x]?).getD []) (i:=k) (by rw[hr.2];lia)
  have e4:=y9n hf x
  walk_at "evs"
  simp only[Int.zero_add,e1,e2]
  walk_at "evs"
  simp only[z2s,e3]
  walk_at "evs"
theorem s_p{P:Int}{n:Nat}{f:List Int}{t:List (List Int)}(hp:0<P)(hp2:P<1000000)(hf:x1x P n f)(ht:z1q P n t)(hn:n<=100):c_p [.int P,.tup (t.map rowD),.tup (f.map D.int)] = .ok (rowD (z6l P t f)):=by
 have htl:=ht.1
 refine z1k rfl ?_
 delta g_p
 refine z0w (d:=.int n) (by walk_at "evs";rw[htl]) ?_
 refine z1z (ds:=((List.range (n+1)).map fun k=>sumN (fun x=>(f[x]?).getD 0*(((t[x]?).getD [])[k]?).getD 0) n).map D.int) ?_ ?_
 ·walk_at "evs"
  rw[show((n:Int)+1).toNat=n+1 by lia,z5j (h:=fun k=>D.int (sumN (fun x=>(f[x]?).getD 0*(((t[x]?).getD [])[k]?).getD 0) n)),z6f]
  intro k hk
  have e:=s_q (f:=f) (k:=k) (hf.1.fits (by lia)) (by rw[hf.2];lia) ht (by lia) (by lia)
  walk_at "evs"
  simp only[Int.zero_add,e]
  walk_at "evs"
 have e1:=atD (l:=f) (i:=n) (by rw[hf.2];lia)
 have e2:=atD (l:=(List.range (n+1)).map fun k=>sumN (fun x=>(f[x]?).getD 0*(((t[x]?).getD [])[k]?).getD 0) n) (i:=n) (by simp)
 have e3:((((List.range (n+1)).map fun k=>sumN (fun x=>(f[x]?).getD 0*(((t[x]?).getD [])[k]?).getD 0) n)[n]?).getD 0)=sumN (fun x=>(f[x]?).getD 0*(((t[x]?).getD [])[n]?).getD 0) n:=by
  rw[List.getElem?_map,List.getElem?_range (by lia)];rfl
 rw[e3] at e2
 generalize hL:((List.range (n+1)).map fun k=>sumN (fun x=>(f[x]?).getD 0*(((t[x]?).getD [])[k]?).getD 0) n)=L at *
 have hLl:L.length=n+1:=by rw[<-hL];simp
 refine z5o (w5g (ds:=L.map D.int) (j:=n) (n:=n) (d:=.int (sumN (fun x=>(f[x]?).getD 0*(((t[x]?).getD [])[n]?).getD 0) n+(f[n]?).getD 0)) ?_ ?_ ?_ ?_) ?_
 ·rfl
 ·walk_at "evs"
  simp only[e1,e2]
  walk_at "evs"
 ·walk_at "evs"
 ·rw[List.length_map,hLl]
  unfold ixN
  rw[if_pos (by lia),if_pos (by lia)];simp
 refine z2g ?_
 have e4:(L.map D.int).set n (.int (sumN (fun x=>(f[x]?).getD 0*(((t[x]?).getD [])[n]?).getD 0) n+(f[n]?).getD 0))=((List.range (n+1)).map fun k=>D.int (sumN (fun x=>(f[x]?).getD 0*(((t[x]?).getD [])[k]?).getD 0) n+(if k=n then (f[n]?).getD 0 else 0))):=by
  rw[<-hL]
  apply List.ext_getElem (by simp)
  intro k h1 h2
  rw[List.getElem_set]
  by_cases q:n=k
  ·subst q;simp
  ·rw[if_neg q];simp[Ne.symm q]
 walk_at "evs"
 rw[e4]
 have e5:D.noLs ((List.range (n+1)).map fun k=>D.int (sumN (fun x=>(f[x]?).getD 0*(((t[x]?).getD [])[k]?).getD 0) n+(if k=n then (f[n]?).getD 0 else 0)))=true:=z9h fun _ _=>z1s _
 rw[z0o e5]
 walk_at "evs"
 rw[z1w (h:=fun k=>D.int ((sumN (fun x=>(f[x]?).getD 0*(((t[x]?).getD [])[k]?).getD 0) n+(if k=n then (f[n]?).getD 0 else 0))%P))]
 ·walk_at "evs"
  unfold z6l
  rw[htl]
  unfold rowD
  rw[List.map_map];rfl
 ·intro k hk
  walk_at "evs"
theorem s_M{P:Int}{n:Nat}{a b:List (List Int)}(hp:0<P)(hp2:P<1000000)(ha:z1q P n a)(hb:z1q P n b)(hn:n<=100):c_M [.int P,.tup (a.map rowD),.tup (b.map rowD)] = .ok (.tup ((z4x P a b).map rowD)):=by
 refine z1k rfl ?_
 delta g_M
 refine z2g ?_
 have h1:=y0o b
 have h2:b.length<=100000:=by rw[hb.1];lia
 walk_at "evs"
 rw[z1w (h:=fun f=>rowD (z6l P a f))]
 ·walk_at "evs"
  unfold z4x
  rw[List.map_map];rfl
 ·intro f hf
  have e:=s_p hp hp2 (hb.2 f hf) ha hn
  have e2:=z0k (z6l P a f)
  walk_at "evs"
  simp only[z2s f,e]
  walk_at "evs"
theorem s_G{n x:Nat}(hn:n<=1000):c_G [.int n,.int x] = .ok (rowD (z5f n x)):=by
 refine z1k rfl ?_
 delta g_G
 refine z2g ?_
 walk_at "evs"
 rw[z5j (h:=fun i=>D.int (if i=x then 1 else 0)),z6f]
 ·walk_at "evs";rfl
 ·intro i hi
  walk_at "evs"
  by_cases q:i=x
  ·subst q
   have e:((0:Int)+(i:Int)==(i:Int))=true:=by simp
   simp only[e]
   walk_at "evs"
  ·have e:((0:Int)+(i:Int)==(x:Int))=false:=by simp;lia
   simp only[e,if_neg q]
   walk_at "evs"
theorem s_J{n:Nat}(hn:n<=100):c_J [.int n] = .ok (.tup ((z6x n).map rowD)):=by
 refine z1k rfl ?_
 delta g_J
 refine z2g ?_
 walk_at "evs"
 rw[z5j (h:=fun x=>rowD (z5f (n+1) x)),z4y]
 ·walk_at "evs";rfl
 ·intro x hx
  have e:=s_G (n:=n+1) (x:=x) (by lia)
  rw[show(((n+1:Nat):Int))=(n:Int)+1 by lia] at e
  have e2:=z0k (z5f (n+1) x)
  walk_at "evs"
  simp only[Int.zero_add,e]
  walk_at "evs"
noncomputable def tabD(t:List (List Int)):D:=.tup (t.map rowD)
theorem z3c(t:List (List Int)):(tabD t).noL=true:=z6c t
theorem z7b(l:List (List (List Int))):D.noLs (l.map tabD)=true:=z9h fun t _=>z6c t
theorem z5t(n:Nat)(t:List (List Int)):D.lay (n+2) (tabD t)=true:=w2x n t
theorem z5w(a b:List (List Int)):eqD (tabD a) (tabD b)=decide (a=b):=w3o a b
theorem y6v(lo st:Int)(n:Nat):(y0y lo st n).length=n:=by unfold y0y;simp
theorem x3u{lo st:Int}{n j:Nat}{d:D}(h:(y0y lo st n)[j]? = some d):j<n/\d = .int (lo+st*(j:Int)):=by
 have hj:j<n:=by
  have:=(List.getElem?_eq_some_iff.mp h).1
  rw[y6v] at this;exact this
 refine⟨hj,?_⟩
 unfold y0y at h
 rw[List.getElem?_map,List.getElem?_range hj] at h
 cases h;rfl
theorem z7p{lo:Int}{n j:Nat}{d:D}(h:(z3r lo n)[j]? = some d):j<n/\d = .int (lo+(j:Int)):=by
 have hj:j<n:=by
  have:=(List.getElem?_eq_some_iff.mp h).1
  rw[z0j] at this;exact this
 rw[y0z lo _ _ hj] at h
 cases h;exact⟨hj,rfl⟩
end L3
namespace L3
open PySem
local macro_rules | `(tactic| walk_at "evs") => wkL " L3.z9o L3.z5b L3.z3w L3.s_on L3.z4n L3.z3c L3.z5t L3.z5w L3.z4z L3.z4d L3.z5x L3.z0k"
theorem s_z{n x:Nat}{f:List Int}(hn:n<=100)(hx:x<n):c_z [.int n,.int x,rowD f] = .ok (tabD ((z6x n).set x f)):=by
 refine z1k rfl ?_
 delta g_z
 have e:=s_J hn
 have hnl:=y0o (z6x n)
 refine z1z (ds:=(z6x n).map rowD) (by walk_at "evs";simp only[e];walk_at "evs") ?_
 refine z5o (w5g (ds:=(z6x n).map rowD) (j:=x) (n:=x) (d:=rowD f) rfl (by simp only[z2s];walk_at "evs") (by walk_at "evs") ?_) ?_
 ·rw[List.length_map,z3m]
  unfold ixN
  rw[if_pos (by lia),if_pos (by lia)];simp
 refine z2g ?_
 walk_at "evs"
 unfold tabD
 rw[List.map_set]
noncomputable section
noncomputable def g_j:G->R Fl :=
 (gRet (gBin dIx (gL (gLst (gCons (gBin dMod (gBin dDiv (gV 0) (gC (.int 3))) (gC (.int 5))) (gCons (gBin dMod (gBin dDiv (gV 0) (gC (.int 3))) (gC (.int 1000))) (gCons (gBin dMod (gBin dDiv (gV 0) (gC (.int 3))) (gBin dAdd (gBin dPow (gC (.int 10)) (gC (.int 30))) (gC (.int 1)))) gNil))))) (gBin dMod (gV 0) (gC (.int 3)))))
noncomputable def c_j:List D->R D:=fnC 1 1 g_j
noncomputable def g_w:G->R Fl :=
 (gSt (gSet 4 (gNL (gBin dMod (gV 0) (gV 3))))
 (gSt (gSet 5 (gNL (z0g c_h (gCons (gV 1) (gCons (gV 2) (gCons (gBin dAdd (gV 3) (gC (.int 1))) gNil))))))
 (gSt (gIfS (gAnd (gT (gBin dEq (gBin dIx (gV 5) (gV 4)) (gC (.int 0)))) (gT (gBin dGt (gBin dMod (gBin dDiv (gV 0) (gC (.int 3))) (gC (.int 6))) (gC (.int 0))))) (gSet 5 (gNL (gBin dAdd (gBin dAdd (gSl (gV 5) gON (gOS (gV 4))) (gTup (gCons (gBin dAdd (gC (.int 1)) (gBin dMod (gBin dDiv (gV 0) (gC (.int 18))) (gBin dSub (gV 2) (gC (.int 1))))) gNil))) (gSl (gV 5) (gOS (gBin dAdd (gV 4) (gC (.int 1)))) gON)))) z1i)
 (gRet (gTup (gCons (gC (.str "set")) (gCons (gV 4) (gCons (gV 5) gNil))))))))
noncomputable def c_w:List D->R D:=fnC 4 6 g_w
noncomputable def g_n:G->R Fl :=
 (gSt (z2q 4 (gLst gNil))
 (gSt (z2q 5 (gLst gNil))
 (gSt (gFor 6 (y1i (gC (.int 0)) (gBin dSub (z0g dMin (gCons (z0g dLen (gCons (gV 0) gNil)) (gCons (gC (.int 60)) gNil))) (gC (.int 1))) (gC (.int 2)))
 (gSt (gSet 7 (gNL (gBin dSub (z0g dLen (gCons (gV 4) gNil)) (z0g dMin (gCons (gBin dMod (gBin dDiv (gBin dIx (gV 0) (gV 6)) (gC (.int 4))) (gC (.int 4))) (gCons (z0g dLen (gCons (gV 4) gNil)) gNil))))))
 (gSt (gSet 8 (gNL (gBin dAdd (gC (.int 1)) (z0g x2t (gCons (gL (y0a (gL (gLst (gCons (gC (.int 0)) gNil))) (gSl (gV 5) (gOS (gV 7)) gON))) gNil)))))
 (gIfS (gAnd (gT (gBin dEq (gBin dMod (gBin dIx (gV 0) (gV 6)) (gC (.int 4))) (gC (.int 3)))) (gAnd (gT (gBin dLt (gV 8) (gC (.int 4)))) (gT (gBin dGt (gV 3) (gC (.int 0)))))) (gSt (z2q 4 (y0a (gSl (gV 4) gON (gOS (gV 7))) (gL (gLst (gCons (gTup (gCons (gC (.str "again")) (gCons (z0g c_j (gCons (gBin dIx (gV 0) (gBin dAdd (gV 6) (gC (.int 1)))) gNil)) (gCons (z0g z2r (gCons (gSl (gV 4) (gOS (gV 7)) gON) gNil)) gNil)))) gNil)))))
 (gSt (z2q 5 (y0a (gSl (gV 5) gON (gOS (gV 7))) (gL (gLst (gCons (gV 8) gNil)))))
 (gSet 3 (gNL (gBin dSub (gV 3) (gC (.int 1))))))) (gSt (gApp 4 (gNL (z0g c_w (gCons (gBin dDiv (gBin dIx (gV 0) (gV 6)) (gC (.int 4))) (gCons (gBin dIx (gV 0) (gBin dAdd (gV 6) (gC (.int 1)))) (gCons (gV 1) (gCons (gV 2) gNil)))))))
 (gApp 5 (gNL (gC (.int 0)))))))))
 (gRet (z0g z2r (gCons (gV 4) gNil))))))
noncomputable def c_n:List D->R D:=fnC 4 9 g_n
end
noncomputable section
noncomputable def g_D:G->R Fl :=
 (gSt (z2q 3 (gLst gNil))
 (gSt (gSet 4 (gNL (gV 1)))
 (gSt (gFor 5 (z5v (y9l (gV 2)))
 (gSt (gApp 3 (gNL (gV 4)))
 (gSet 4 (gNL (z0g c_M (gCons (gV 0) (gCons (gV 4) (gCons (gV 4) gNil))))))))
 (z7d 3))))
noncomputable def c_D:List D->R (List D):=fnF 3 6 g_D
noncomputable def g_t:G->R Fl :=
 (z8a (y3p (y7u (gV 0)) (y4z (gT (gBin dEq (gBin dMod (gBin dShr (gV 3) (gV 0)) (gC (.int 2))) (gC (.int 1)))) (gNL (gV 1)))))
noncomputable def c_t:List D->R (List D):=fnF 2 2 g_t
noncomputable def g_E:G->R Fl :=
 (gSt (gSet 3 (gNL (z0g c_J (gCons (z0g dLen (gCons (gV 1) gNil)) gNil))))
 (gSt (gFor 4 (gSeq (gL (z3e c_t (gCons (gL (z3e c_D (gCons (gV 0) (gCons (gV 1) (gCons (gV 2) gNil))))) (gCons (gV 2) gNil)))))
 (gSet 3 (gNL (z0g c_M (gCons (gV 0) (gCons (gV 3) (gCons (gV 4) gNil)))))))
 (gRet (gV 3))))
noncomputable def c_E:List D->R D:=fnC 3 5 g_E
noncomputable def g_y(rec_y:List D->R D)(rec_e:List D->R D):G->R Fl :=
 (gSt (gSet 3 (gNL (z0g c_J (gCons (gV 1) gNil))))
 (gSt (gFor 4 (gSeq (gVr 2))
 (gSet 3 (gNL (z0g c_M (gCons (gV 0) (gCons (gV 3) (gCons (z0g rec_e (gCons (gV 0) (gCons (gV 1) (gCons (gV 4) gNil)))) gNil)))))))
 (gRet (gV 3))))
noncomputable def g_e(rec_y:List D->R D)(rec_e:List D->R D):G->R Fl :=
 (gSt (gIfS (gT (gBin dEq (gBin dIx (gV 2) (gC (.int 0))) (gC (.str "set")))) (gRet (z0g c_z (gCons (gV 1) (gCons (gBin dIx (gV 2) (gC (.int 1))) (gCons (gBin dIx (gV 2) (gC (.int 2))) gNil))))) z1i)
 (gRet (z0g c_E (gCons (gV 0) (gCons (z0g rec_y (gCons (gV 0) (gCons (gV 1) (gCons (gBin dIx (gV 2) (gC (.int 2))) gNil)))) (gCons (gBin dIx (gV 2) (gC (.int 1))) gNil))))))
mutual
noncomputable def c_y:Nat->List D->R D
 | 0=>fun _=>.no
 | n+1=>fnC 3 5 (g_y (c_y n) (c_e n))
noncomputable def c_e:Nat->List D->R D
 | 0=>fun _=>.no
 | n+1=>fnC 3 3 (g_e (c_y n) (c_e n))
end
end
end L3
namespace L3
open PySem
local macro_rules | `(tactic| walk_at "evs") => wkL " L3.z9o L3.z5b L3.z3w L3.s_on L3.z4n L3.z3c L3.z5t L3.z5w L3.z4z L3.z4d L3.z5x L3.z0k L3.z8w L3.y9o L3.y9l L3.x2u"
inductive Item where
 | set (x:Int) (f:List Int)
 | again (n:Int) (its:List Item)
mutual
noncomputable def Item.d:Item->D
 | .set x f=>.tup [.str "set",.int x,rowD f]
 | .again n its=>.tup [.str "again",.int n,.tup (Item.ds its)]
noncomputable def Item.ds:List Item->List D
 | []=>[]
 | a::r=>a.d::Item.ds r
end
theorem Item.ds_map:∀its:List Item,Item.ds its=its.map Item.d
 | []=>rfl
 | a::r=>by rw[Item.ds,Item.ds_map r];rfl
mutual
noncomputable def Item.deep:Item->Nat
 | .set _ _=>0
 | .again _ its=>1+Item.deeps its
noncomputable def Item.deeps:List Item->Nat
 | []=>0
 | a::r=>max a.deep (Item.deeps r)
end
mutual
noncomputable def Item.many:Item->Nat
 | .set _ _=>1
 | .again _ its=>1+Item.manys its
noncomputable def Item.manys:List Item->Nat
 | []=>0
 | a::r=>a.many+Item.manys r
end
mutual
noncomputable def Item.ok(P many:Int):Item->Prop
 | .set x f=>0<=x/\x<many/\(f.length:Int)=many+1/\onW P f
 | .again n its=>0<=n/\n<=10^30/\Item.oks P many its
noncomputable def Item.oks(P many:Int):List Item->Prop
 | []=>True
 | a::r=>a.ok P many/\Item.oks P many r
end
theorem Item.oks_iff{P many:Int}:∀{its:List Item},Item.oks P many its↔∀a∈its,a.ok P many
 | []=>by simp[Item.oks]
 | a::r=>by simp[Item.oks,Item.oks_iff (its:=r)]
theorem Item.deeps_le{k:Nat}:∀{its:List Item},Item.deeps its<=k↔∀a∈its,a.deep<=k
 | []=>by simp[Item.deeps]
 | a::r=>by
   have:=Item.deeps_le (k:=k) (its:=r)
   simp only[Item.deeps,List.mem_cons,forall_eq_or_imp,<-this]
   lia
theorem Item.manys_append:∀{a b:List Item},Item.manys (a++b)=Item.manys a+Item.manys b
 | [],b=>by simp[Item.manys]
 | x::a,b=>by simp[Item.manys,Item.manys_append (a:=a)];lia
theorem Item.many_pos:∀a:Item,0<a.many
 | .set _ _=>by simp[Item.many]
 | .again _ _=>by simp[Item.many];lia
theorem Item.manys_length:∀its:List Item,its.length<=Item.manys its
 | []=>Nat.le_refl _
 | a::r=>by have:=a.many_pos;have:=Item.manys_length r;simp only[Item.manys,List.length_cons];lia
mutual
theorem Item.noL:∀a:Item,a.d.noL=true
 | .set x f=>by
   have:=z0k f
   simp[Item.d,D.noL,D.noLs,this]
 | .again n its=>by
   have:=Item.noLs its
   simp[Item.d,D.noL,D.noLs,this]
theorem Item.noLs:∀its:List Item,D.noLs (Item.ds its)=true
 | []=>rfl
 | a::r=>by
   have h1:=Item.noL a
   have h2:=Item.noLs r
   simp[Item.ds,D.noLs,h1,h2]
end
theorem Item.noLs'(its:List Item):D.noLs (its.map Item.d)=true:=by rw[<-Item.ds_map];exact Item.noLs its
theorem w1z(c:Int):∃n:Int,c_j [.int c] = .ok (.int n)/\0<=n/\n<=10^30:=by
 have hw:c%3=0∨c%3=1∨c%3=2:=by lia
 have t30:(0:Int)<10^30+1:=by decide
 have n3:D.noLs [D.int (c/3%5),D.int (c/3%1000),D.int (c/3%(10^30+1))]=true:=z1b [_,_,_]
 obtain⟨n,e,h1,h2⟩:∃n:Int,atI [D.int (c/3%5),D.int (c/3%1000),D.int (c/3%(10^30+1))] (c%3)=some (.int n)/\0<=n/\n<=10^30:=by
  rcases hw with w | w | w<;>rw[w]
  ·exact⟨_,rfl,by omega,by have:(5:Int)<=10^30:=by decide
                           lia⟩
  ·exact⟨_,rfl,by omega,by have:(1000:Int)<=10^30:=by decide
                           lia⟩
  ·refine⟨_,rfl,Int.emod_nonneg _ (by lia),?_⟩
   have:=Int.emod_lt_of_pos (c/3) t30
   exact Int.lt_add_one_iff.mp this
 refine⟨n,z1k rfl (z2g ?_),h1,h2⟩
 walk_at "evs"
 simp only[e]
theorem w1r{f:List Int}{x:Nat}{v P:Int}(hx:x<f.length)(hf:onW P f)(h0:0<=v)(hv:v<P):∃g:List Int,f.take x++[v]++f.drop (x+1)=g/\g.length=f.length/\onW P g/\g[x]? = some v:=by
 refine⟨_,rfl,?_,fun n hn=>?_,?_⟩
 ·simp only[List.length_append,List.length_take,List.length_drop,List.length_cons,List.length_nil];lia
 ·simp only[List.mem_append,List.mem_singleton] at hn
  rcases hn with (h | h) | h
  ·exact hf n (List.mem_of_mem_take h)
  ·rw[h];exact⟨h0,hv⟩
  ·exact hf n (List.mem_of_mem_drop h)
 ·rw[List.append_assoc,List.getElem?_append_right (by rw[List.length_take];lia),List.length_take,Nat.min_eq_left (by lia),Nat.sub_self];rfl
theorem w4h{c m P many:Int}(p1:3<=P)(p2:P<=9973)(m1:1<=many)(m2:many<=3):∃(x:Int) (f:List Int),c_w [.int c,.int m,.int P,.int many] = .ok (Item.set x f).d/\(Item.set x f).ok P many:=by
 have hl:=z5d P (many+1).toNat m
 have ho:=z9m (P:=P) (by lia) (many+1).toNat m
 have hx0:=z6i (w:=c) (P:=many) (by lia)
 have hx1:=z6j (w:=c) (P:=many) (by lia)
 generalize hf:z4p P (many+1).toNat m=f at hl ho
 obtain⟨x,ex⟩:∃x:Nat,c%many=(x:Int):=⟨(c%many).toNat,by lia⟩
 have hx:x<f.length:=by lia
 have start:∀u r,u [.ro (.int c),.ro (.int m),.ro (.int P),.ro (.int many),.ro (.int x),.ro (rowD f)]=r->gSt (gSet 4 (gNL (gBin dMod (gV 0) (gV 3)))) (gSt (gSet 5 (gNL (z0g c_h (gCons (gV 1) (gCons (gV 2) (gCons (gBin dAdd (gV 3) (gC (.int 1))) gNil)))))) u) [.ro (.int c),.ro (.int m),.ro (.int P),.ro (.int many),.no,.no]=r:=fun u r h=>by
  refine z0w (d:=.int x) (by walk_at "evs";rw[ex]) (z0w (d:=rowD f) (by walk_at "evs";rw[hf];rfl) h)
 have at0:atI (f.map D.int) (x:Int)=some (.int (f[x]'hx)):=by
  rw[w1k (by lia),List.getElem?_map,Int.toNat_natCast,List.getElem?_eq_getElem hx];rfl
 by_cases hz:(f[x]'hx==0&&decide (0<c/3%6))=true
 ·have hv0:=z6i (w:=c/18) (P:=P-1) (by lia)
  have hv1:=z6j (w:=c/18) (P:=P-1) (by lia)
  obtain⟨g,eg,gl,go,_⟩:=w1r (v:=1+c/18%(P-1)) hx ho (by lia) (by lia)
  rw[Bool.and_eq_true] at hz
  refine⟨x,g,z1k rfl ?_,by simp only[Item.ok];exact⟨by lia,by lia,by lia,go⟩⟩
  delta g_w
  refine start _ _ (w6b (Γ':=[.ro (.int c),.ro (.int m),.ro (.int P),.ro (.int many),.ro (.int x),.ro (rowD g)]) ?_ ?_ ?_)
  ·walk_at "evs"
   simp only[rowD,dIx,at0]
   walk_at "evs"
   simp only[hz.1,hz.2]
   walk_at "evs"
  ·refine(z6m (d:=rowD g) ?_).trans rfl
   have ex1:(x:Int)+1=((x+1:Nat):Int):=rfl
   have hlen:f.length<=4:=by lia
   walk_at "evs"
   simp only[rowD,dCut,R.bind_ok]
   rw[ex1,y3z,z8x,<-List.map_take,<-List.map_drop]
   have lt:(f.take x).length<=4:=by rw[List.length_take];lia
   have ld:(f.drop (x+1)).length<=4:=by rw[List.length_drop];lia
   have e2:(f.take x).map D.int++(D.int (1+c/18%(P-1))::(f.drop (x+1)).map D.int)=g.map D.int:=by rw[<-eg];simp
   have n2:=z3d g
   walk_at "evs"
   rw[e2]
   walk_at "evs"
  ·exact z2g (by walk_at "evs";rfl)
 ·refine⟨x,f,z1k rfl ?_,by simp only[Item.ok];exact⟨by lia,by lia,by lia,ho⟩⟩
  delta g_w
  refine start _ _ (z1u ?_ (z2g (by walk_at "evs";rfl)))
  walk_at "evs"
  simp only[rowD,dIx,at0]
  walk_at "evs"
  cases q:(f[x]'hx==0) with
  | false=>simp
  | true =>
    rw[q,Bool.true_and] at hz
    simp[hz]
noncomputable def z3o(its:List Item):List Int:=its.map fun a=>(a.deep:Int)
theorem x2s(its:List Item):maxI (0::z3o its)=(Item.deeps its:Int):=by
 refine Eq.symm (y7p ?_ ?_)
 ·induction its with
  | nil=>simp[Item.deeps]
  | cons a r ih =>
    simp only[Item.deeps,z3o,List.map_cons,List.mem_cons]
    by_cases h:Item.deeps r<=a.deep
    ·rw[Nat.max_eq_left h];exact .inr (.inl rfl)
    ·rw[Nat.max_eq_right (by lia)]
     rcases List.mem_cons.mp ih with e | e
     ·exact .inl e
     ·exact .inr (.inr e)
 ·intro b hb
  rcases List.mem_cons.mp hb with rfl | hb
  ·lia
  ·obtain⟨a,ha,rfl⟩:=List.mem_map.mp hb
   have:=Item.deeps_le.mp (Nat.le_refl (Item.deeps its)) a ha
   lia
theorem forI{gb:G->R Fl}{i:Nat}{ds:List D}{Γ:G}(I:Nat->G->Prop)(h0:I 0 Γ)(hq:∀(j:Nat) (d:D) (Γ:G),ds[j]? = some d->I j Γ->Ends (gb (Γ.set i (.ro d))) (I (j+1))):∃Γ',z4h gb i ds Γ = .ok (.nx Γ')/\I ds.length Γ':=by
 obtain⟨Γ',e,h'⟩:=z7e I ds 0 Γ h0 fun j d Γ hd hI=>by rw[Nat.zero_add] at hI ⊢;exact hq j d Γ hd hI
 rw[Nat.zero_add] at h'
 exact⟨Γ',e,h'⟩
theorem x6y{gs:G->R (List D)}{gb u:G->R Fl}{i:Nat}{ds:List D}{Γ:G}(T:R Fl->Prop)(I:Nat->G->Prop)(hi:gs Γ = .ok ds)(h0:I 0 Γ)(hq:∀(j:Nat) (d:D) (Γ:G),ds[j]? = some d->I j Γ->Ends (gb (Γ.set i (.ro d))) (I (j+1)))(h:∀Γ',I ds.length Γ'->T (u Γ')):T (gSt (gFor i gs gb) u Γ):=by
 obtain⟨Γ',e,h'⟩:=forI I h0 hq
 rw[y8f hi e rfl];exact h Γ' h'
theorem x7x{cs:List Int}{P many ag:Int}(p1:3<=P)(p2:P<=9973)(m1:1<=many)(m2:many<=3)(hcs:cs.length<=63) :
 ∃its:List Item,c_n [.lst (cs.map D.int),.int P,.int many,.int ag] = .ok (.tup (its.map Item.d))/\Item.oks P many its/\Item.deeps its<=3/\Item.manys its<=30/\2*Item.manys its<=cs.length:=by
 suffices h:∃its:List Item,g_n [.ro (.lst (cs.map D.int)),.ro (.int P),.ro (.int many),.ro (.int ag),.no,.no,.no,.no,.no] = .ok (.rt (.tup (its.map Item.d)))/\Item.oks P many its/\Item.deeps its<=3/\Item.manys its<=30/\2*Item.manys its<=cs.length by
  obtain⟨its,e,h'⟩:=h
  exact⟨its,z1k rfl e,h'⟩
 delta g_n
 rw[z1z (ds:=[]) (by walk_at "evs") rfl,z1z (ds:=[]) (by walk_at "evs") rfl]
 let I:Nat->G->Prop:=fun j Γ=>∃(its:List Item) (a:Int) (x6 x7 x8:En),Γ=[.ro (.lst (cs.map D.int)),.ro (.int P),.ro (.int many),.ro (.int a),.own (its.map Item.d),.own ((z3o its).map D.int),x6,x7,x8]/\Item.oks P many its/\Item.deeps its<=3/\Item.manys its<=j
 obtain⟨n,hn,hn2,en⟩:∃n:Nat,n<=30/\2*n<=cs.length/\y0f 0 ((if (60:Int)<cs.length then 60 else (cs.length:Int))-1) 2=n:=by
  refine⟨_,?_,?_,rfl⟩<;>unfold y0f<;>split<;>lia
 have hsl:(y0y 0 2 n).length=n:=by unfold y0y;simp
 refine x6y (ds:=y0y 0 2 n) (fun r=>∃its:List Item,r = .ok (.rt (.tup (its.map Item.d)))/\Item.oks P many its/\Item.deeps its<=3/\Item.manys its<=30/\2*Item.manys its<=cs.length) I ?_ ⟨[],ag,.no,.no,.no,rfl,True.intro,Nat.zero_le _,Nat.zero_le _⟩ ?turn ?_
 ·walk_at "evs"
  have r1:(-1073741824:Int)<=(if (60:Int)<cs.length then 60 else (cs.length:Int))-1/\(if (60:Int)<cs.length then 60 else (cs.length:Int))-1<1073741824:=by split<;>lia
  walk_at "evs"
  rw[en]
 case turn =>
  clear en hsl
  rintro j d Γ hd ⟨its,a,x6,x7,x8,rfl,h1,h2,h3⟩
  obtain⟨hj,rfl⟩:=x3u hd
  have hil:=Item.manys_length its
  have e0:(0:Int)+2*(j:Int)=((2*j:Nat):Int):=by lia
  rw[e0]
  have c0:=y9t (ns:=cs) (k:=((2*j:Nat):Int)) (by lia) (by lia)
  have c1:=y9t (ns:=cs) (k:=((2*j:Nat):Int)+1) (by lia) (by lia)
  generalize z5n cs ((2*j:Nat):Int)=y at c0
  generalize z5n cs (((2*j:Nat):Int)+1)=z at c1
  clear e0
  obtain⟨w,hw,ew⟩:∃w:Nat,w<=its.length/\(its.length:Int)-(if (its.length:Int)<y/4%4 then (its.length:Int) else y/4%4)=w:=by
   refine⟨((its.length:Int)-(if (its.length:Int)<y/4%4 then (its.length:Int) else y/4%4)).toNat,?_,?_⟩<;>split<;>lia
  have hd2:(z3o its).drop w=z3o (its.drop w):=by unfold z3o;rw[List.map_drop]
  have n0:D.noLs [D.int 0]=true:=z1b [0]
  have nd:D.noLs (D.int 0::(z3o (its.drop w)).map D.int)=true:=z1b (0::z3o (its.drop w))
  have ll:(z3o (its.drop w)).length<=30:=by unfold z3o;rw[List.length_map,List.length_drop];lia
  rw[z0w (d:=.int w) (by walk_at "evs";simp only[dIx,c0];walk_at "evs";rw[ew]) rfl]
  rw[z0w (d:=.int (1+(Item.deeps (its.drop w):Int))) (by
   walk_at "evs"
   rw[z8x,<-List.map_drop,hd2]
   walk_at "evs"
   rw[z0o ⟨by lia,nd⟩]
   walk_at "evs"
   rw[x2s]) rfl]
  generalize hk:Item.deeps (its.drop w)=lv
  by_cases hc:y%4=3/\lv<3/\0<a
  ·obtain⟨hc1,hc2,hc3⟩:=hc
   have b1:(y%4==3)=true:=by simpa using hc1
   have b2:decide (1+(lv:Int)<4)=true:=decide_eq_true (by lia)
   have b3:decide (0<a)=true:=decide_eq_true hc3
   obtain⟨m,em,m3,m4⟩:=w1z z
   have d4:(Item.again m (its.drop w)).d = .tup [.str "again",.int m,.tup ((its.drop w).map Item.d)]:=by rw[Item.d,Item.ds_map]
   have q4:D.noLs [(Item.again m (its.drop w)).d]=true:=by have:=Item.noL (Item.again m (its.drop w));simp only[D.noLs,this,Bool.and_true]
   have q5:D.noLs ((its.take w).map Item.d++[(Item.again m (its.drop w)).d])=true:=by have:=Item.noLs' (its.take w++[Item.again m (its.drop w)]);rwa [List.map_append] at this
   have l4:((its.take w).map Item.d).length<=30:=by rw[List.length_map,List.length_take];lia
   refine .nx (Γ:=[.ro (.lst (cs.map D.int)),.ro (.int P),.ro (.int many),.ro (.int (a-1)),.own ((its.take w++[Item.again m (its.drop w)]).map Item.d),.own ((z3o (its.take w++[Item.again m (its.drop w)])).map D.int),.ro (.int ((2*j:Nat):Int)),.ro (.int w),.ro (.int (1+(lv:Int)))]) (z8q ?_ (z1z (ds:=(its.take w++[Item.again m (its.drop w)]).map Item.d) ?_ (z1z (ds:=(z3o (its.take w++[Item.again m (its.drop w)])).map D.int) ?_ ((z6m (d:=.int (a-1)) ?_).trans rfl)))) ⟨_,_,_,_,_,rfl,?_,?_,?_⟩
   ·walk_at "evs"
    simp only[dIx,c0]
    walk_at "evs"
    simp only[b1,b2,b3]
    walk_at "evs"
   ·walk_at "evs"
    simp only[dIx,c1,R.bind_ok,em]
    walk_at "evs"
    rw[z8x,y3z,<-List.map_drop,<-List.map_take,<-d4,z0o q4]
    walk_at "evs"
    rw[z0o ⟨by rw[List.length_map] at l4;lia,q5⟩,List.map_append]
    rfl
   ·have n1:D.noLs [D.int (1+(lv:Int))]=true:=z1b [_]
    have e5:(z3o (its.take w++[Item.again m (its.drop w)])).map D.int=((z3o its).take w).map D.int++[D.int (1+(lv:Int))]:=by
     unfold z3o
     rw[List.map_append,List.map_append,List.map_take]
     simp only[List.map_cons,List.map_nil,Item.deep,hk]
     push_cast
     rfl
    have n5:=z1b (z3o (its.take w++[Item.again m (its.drop w)]))
    have l5:((z3o its).take w).length<=30:=by unfold z3o;rw[List.length_take,List.length_map];lia
    rw[e5] at n5 ⊢
    walk_at "evs"
    rw[y3z,<-List.map_take,z0o ⟨by rw[List.length_map];lia,n5⟩]
   ·walk_at "evs"
   ·rw[Item.oks_iff] at h1 ⊢
    intro b hb
    rcases List.mem_append.mp hb with hb | hb
    ·exact h1 b (List.mem_of_mem_take hb)
    ·rw[List.mem_singleton.mp hb,Item.ok]
     exact⟨m3,m4,Item.oks_iff.mpr fun b hb=>h1 b (List.mem_of_mem_drop hb)⟩
   ·rw[Item.deeps_le] at h2 ⊢
    intro b hb
    rcases List.mem_append.mp hb with hb | hb
    ·exact h2 b (List.mem_of_mem_take hb)
    ·rw[List.mem_singleton.mp hb,Item.deep,hk];lia
   ·have e1:Item.manys its=Item.manys (its.take w)+Item.manys (its.drop w):=by rw[<-Item.manys_append,List.take_append_drop]
    rw[Item.manys_append]
    simp only[Item.manys,Item.many]
    lia
  ·obtain⟨x,f,es,hx⟩:=w4h (c:=y/4) (m:=z) p1 p2 m1 m2
   have nx:=Item.noL (Item.set x f)
   have l6:(its.map Item.d).length<=30:=by rw[List.length_map];lia
   have l7:((z3o its).map D.int).length<=30:=by unfold z3o;rw[List.length_map,List.length_map];lia
   refine .nx (Γ:=[.ro (.lst (cs.map D.int)),.ro (.int P),.ro (.int many),.ro (.int a),.own ((its++[Item.set x f]).map Item.d),.own ((z3o (its++[Item.set x f])).map D.int),.ro (.int ((2*j:Nat):Int)),.ro (.int w),.ro (.int (1+(lv:Int)))]) (w5h ?_ (z5o (Γ':=[.ro (.lst (cs.map D.int)),.ro (.int P),.ro (.int many),.ro (.int a),.own ((its++[Item.set x f]).map Item.d),.own ((z3o its).map D.int),.ro (.int ((2*j:Nat):Int)),.ro (.int w),.ro (.int (1+(lv:Int)))]) ?_ ?_)) ⟨_,_,_,_,_,rfl,?_,?_,?_⟩
   ·walk_at "evs"
    simp only[dIx,c0]
    walk_at "evs"
    cases b1:(y%4==3) with
    | false=>rfl
    | true =>
      simp only[if_true]
      have:¬(1+(lv:Int)<4/\0<a):=fun z=>hc ⟨by simpa using b1,by lia,z.2⟩
      by_cases b2:1+(lv:Int)<4
      ·have b3:decide (0<a)=false:=decide_eq_false fun z=>this ⟨b2,z⟩
       simp only[decide_eq_true b2,b3,if_true]
      ·simp only[decide_eq_false b2]
       rfl
   ·rw[List.map_append]
    walk_at "evs"
    simp only[dIx,c0,c1]
    walk_at "evs"
    simp only[es]
    walk_at "evs"
   ·unfold z3o
    rw[List.map_append,List.map_append]
    simp only[List.map_cons,List.map_nil,Item.deep]
    walk_at "evs"
    simp
   ·rw[Item.oks_iff] at h1 ⊢
    intro b hb
    rcases List.mem_append.mp hb with hb | hb
    ·exact h1 b hb
    ·rw[List.mem_singleton.mp hb];exact hx
   ·rw[Item.deeps_le] at h2 ⊢
    intro b hb
    rcases List.mem_append.mp hb with hb | hb
    ·exact h2 b hb
    ·rw[List.mem_singleton.mp hb,Item.deep];lia
   ·rw[Item.manys_append]
    simp only[Item.manys,Item.many]
    lia
 ·rintro Γ ⟨its,a,x6,x7,x8,rfl,h1,h2,h3⟩
  rw[hsl] at h3
  exact⟨its,z2g (by walk_at "evs"),h1,h2,by lia,by lia⟩
theorem w1y{cs:List Int}{P many ag:Int}(p1:3<=P)(p2:P<=9973)(m1:1<=many)(m2:many<=3)(hcs:cs.length<=63) :
 ∃its:List Item,c_n [.lst (cs.map D.int),.int P,.int many,.int ag] = .ok (.tup (its.map Item.d))/\Item.oks P many its/\Item.deeps its<=3/\Item.manys its<=30 :=
 let ⟨its,e,h1,h2,h3,_⟩:=x7x (ag:=ag) p1 p2 m1 m2 hcs;⟨its,e,h1,h2,h3⟩
theorem x3q:((Str.ofString "set")==(Str.ofString "again"))=false:=by decide +kernel
theorem x3r:((Str.ofString "again")==(Str.ofString "set"))=false:=by decide +kernel
theorem y6a(n:Nat):D.lay n (.str (Str.ofString "set"))=true:=by rw[y1f];decide +kernel
theorem y0r(n:Nat):D.lay n (.str (Str.ofString "again"))=true:=by rw[y1f];decide +kernel
noncomputable def powZ(P:Int)(n:Nat)(t:List (List Int)):Nat->List (List Int)
 | 0=>z6x n
 | k+1=>z4x P (powZ P n t k) t
section
variable {P:Int}{n:Nat}{t:List (List Int)}
theorem z2y(hp:1<P)(ht:z1q P n t):∀k,z1q P n (powZ P n t k)
 | 0=>y6c hp n
 | k+1=>z6n (by lia) (z2y hp ht k).1 ht.1
theorem x8e(hp:1<P)(ht:z1q P n t):powZ P n t 1=t:=idle_M hp ht
theorem y0k(hp:1<P)(ht:z1q P n t)(a:Nat):∀b,powZ P n t (a+b)=z4x P (powZ P n t a) (powZ P n t b)
 | 0=>(then_J hp (z2y hp ht a)).symm
 | b+1=>by
   show z4x P (powZ P n t (a+b)) t=z4x P (powZ P n t a) (z4x P (powZ P n t b) t)
   rw[y0k hp ht a b,y4o (by lia) (z2y hp ht a).1 (z2y hp ht b).1 ht.1]
theorem y5s(hp:1<P)(ht:z1q P n t)(a:Nat):∀b,powZ P n (powZ P n t a) b=powZ P n t (a*b)
 | 0=>rfl
 | b+1=>by
   show z4x P (powZ P n (powZ P n t a) b) (powZ P n t a)=powZ P n t (a*b+a)
   rw[y5s hp ht a b,y0k hp ht]
theorem x2b(hp:1<P)(ht:z1q P n t)(k:Nat):z4x P (powZ P n t k) (powZ P n t k)=powZ P n t (2*k):=by
 rw[<-y0k hp ht,Nat.two_mul]
theorem x7l{s:List Int}(hp:1<P)(ht:z1q P n t)(hs:s.length=n)(a b:Nat):z2e P (powZ P n t (a+b)) s=z2e P (powZ P n t b) (z2e P (powZ P n t a) s):=by
 rw[y0k hp ht,turn_M (z2y hp ht a).1 hs]
end
noncomputable def figZ(n:Nat):Nat:=if n=0 then 0 else n.log2+1
theorem w1d{n j:Nat}:j<figZ n↔2^j<=n:=by
 unfold figZ
 by_cases h:n=0
 ·rw[if_pos h,h]
  have:0<2^j:=Nat.two_pow_pos j
  lia
 ·rw[if_neg h,Nat.lt_succ_iff,Nat.le_log2 h]
theorem x6i{n k:Nat}(h:n<2^k):figZ n<=k:=by
 rcases Nat.lt_or_ge k (figZ n) with z | z
 ·have:=w1d.mp z
  lia
 ·exact z
noncomputable def z2l(P:Int)(m:Nat)(t:List (List Int))(n:Nat):List (List (List Int)):=(List.range n).map fun j=>powZ P m t (2^j)
theorem x1w(P:Int)(m:Nat)(t:List (List Int))(n:Nat):z2l P m t (n+1)=z2l P m t n++[powZ P m t (2^n)]:=by
 unfold z2l;rw[List.range_succ,List.map_append];rfl
theorem w0a(n:Nat):x7a (n:Int)=figZ n:=by
 unfold x7a figZ
 by_cases h:n=0
 ·subst h;rfl
 ·rw[if_neg h,Int.natAbs_natCast,if_neg]
  intro z
  have:(n:Int)=0:=by simpa using z
  lia
theorem s_D{P:Int}{m n:Nat}{t:List (List Int)}(p1:3<=P)(p2:P<=9973)(hm:m<=3)(ht:z1q P m t)(hn:n<2^150):c_D [.int P,tabD t,.int n] = .ok ((z2l P m t (figZ n)).map tabD):=by
 refine y0s rfl ?_
 delta g_D
 have hp:1<P:=by lia
 have hF:=x6i hn
 refine z1z (ds:=[]) (by walk_at "evs") ?_
 refine z0w (d:=tabD (powZ P m t (2^0))) (by rw[Nat.pow_zero,x8e hp ht];walk_at "evs") ?_
 refine z7w (ds:=z3r 0 (figZ n)) (fun j Γ=>∃x5,Γ=[.ro (.int P),.ro (tabD t),.ro (.int n),.own ((z2l P m t j).map tabD),.ro (tabD (powZ P m t (2^j))),x5]) ?_ ⟨_,rfl⟩ ?_ ?_
 ·walk_at "evs"
  rw[w0a]
  walk_at "evs"
 ·rintro j d Γ hd ⟨x5,rfl⟩
  obtain⟨hj,rfl⟩:=z7p hd
  have hl:((z2l P m t j).map tabD).length<=200:=by unfold z2l;rw[List.length_map,List.length_map,List.length_range];lia
  have eth:=s_M (P:=P) (n:=m) (by lia) (by lia) (z2y hp ht (2^j)) (z2y hp ht (2^j)) (by lia)
  rw[x2b hp ht] at eth
  refine .nx (z5o (x2l (d:=tabD (powZ P m t (2^j))) rfl (by walk_at "evs") (by lia)) ((z6m (d:=tabD (powZ P m t (2^(j+1)))) ?_).trans ?_)) ⟨.ro (.int (0+(j:Int))),rfl⟩
  ·walk_at "evs"
   simp only[tabD,eth,Nat.pow_succ,Nat.mul_comm _ 2]
   have:=z6c (powZ P m t (2*2^j))
   walk_at "evs"
  ·rw[x1w,List.map_append]
   rfl
 ·rintro Γ ⟨x5,rfl⟩
  rw[z0j]
  walk_at "evs"
theorem x8n(n j:Nat):n%2^(j+1)=n%2^j+(n/2^j%2)*2^j:=by
 rw[Nat.pow_succ,Nat.mod_mul,Nat.mul_comm (2^j)]
theorem x6h(n:Nat):n%2^figZ n=n:=Nat.mod_eq_of_lt (by
 rcases Nat.lt_or_ge n (2^figZ n) with z | z
 ·exact z
 ·exact absurd (w1d.mpr z) (Nat.lt_irrefl _))
noncomputable def y3a(n j:Nat):Bool:=n/2^j%2==1
noncomputable def twos(n k:Nat):List Nat:=(List.range k).filter (y3a n)
noncomputable def z4g:List Nat->Nat
 | []=>0
 | j::js=>2^j+z4g js
theorem z7m:∀(a b:List Nat),z4g (a++b)=z4g a+z4g b
 | [],b=>(Nat.zero_add _).symm
 | j::a,b=>by rw[List.cons_append,z4g,z4g,z7m a b,Nat.add_assoc]
theorem y5g(n:Nat):∀k,z4g (twos n k)=n%2^k
 | 0=>by rw[Nat.pow_zero,Nat.mod_one];rfl
 | k+1=>by
   have h:twos n (k+1)=twos n k++(if y3a n k then [k] else []):=by
    unfold twos
    rw[List.range_succ,List.filter_append]
    cases q:y3a n k<;>simp[q]
   rw[h,z7m,y5g n k,x8n]
   have w:n/2^k%2=0∨n/2^k%2=1:=by lia
   rcases w with w | w
   ·have:y3a n k=false:=by unfold y3a;rw[w];rfl
    rw[this,w,Nat.zero_mul];rfl
   ·have:y3a n k=true:=by unfold y3a;rw[w];rfl
    rw[this,w,Nat.one_mul];rfl
noncomputable def y9c(p:Nat->Bool):Nat->List D->List D
 | _,[]=>[]
 | k,x::xs=>if p k=true then x::y9c p (k+1) xs else y9c p (k+1) xs
theorem y4c{f:D->D->G->R (Option D)}{Γ:G}(p:Nat->Bool):∀(xs:List D) (k:Nat) (acc:List D),(∀j x,xs[j]? = some x->f (.int ((k+j:Nat):Int)) x Γ = .ok (if p (k+j)=true then some x else none)) ->
 z0y (y1a f Γ) (z4w k xs) acc = .ok (acc++y9c p k xs)
 | [],k,acc,_=>by rw[z4w,y9c,List.append_nil];rfl
 | x::xs,k,acc,h=>by
   have h0:=h 0 x rfl
   have ih:=fun acc=>y4c p xs (k+1) acc (fun j y hy=>by
    have:=h (j+1) y hy
    rw[show k+1+j=k+(j+1) by lia];exact this)
   rw[z4w,y0b,show y1a f Γ (.tup [.int (k:Int),x])=f (.int (k:Int)) x Γ from rfl,show f (.int (k:Int)) x Γ=_ from h0]
   rw[Nat.add_zero,y9c]
   by_cases q:p k=true
   ·rw[if_pos q,if_pos q]
    show z0y (y1a f Γ) (z4w (k+1) xs) (acc++[x])=_
    rw[ih,List.append_assoc];rfl
   ·rw[if_neg q,if_neg q]
    exact ih acc
theorem y2t(p:Nat->Bool)(F:Nat->D):∀(l s:Nat),y9c p s ((List.range' s l).map F)=((List.range' s l).filter p).map F
 | 0,s=>rfl
 | l+1,s=>by
   rw[List.range'_succ,List.map_cons,y9c,y2t p F l (s+1),List.filter_cons]
   by_cases q:p s=true
   ·rw[if_pos q,if_pos q,List.map_cons]
   ·rw[if_neg q,if_neg q]
theorem x4g(P:Int)(m:Nat)(t:List (List Int))(k:Nat):(z2l P m t k).map tabD=(List.range k).map fun j=>tabD (powZ P m t (2^j)):=by
 unfold z2l;rw[List.map_map];rfl
theorem y1v:∀(k:Nat) (xs:List D),(z4w k xs).length=xs.length
 | _,[]=>rfl
 | k,a::xs=>by rw[z4w,List.length_cons,y1v (k+1) xs,List.length_cons]
theorem s_t{P:Int}{m n k:Nat}{t:List (List Int)}(hk:k<=1000):c_t [.lst ((z2l P m t k).map tabD),.int n] = .ok ((twos n k).map fun j=>tabD (powZ P m t (2^j))):=by
 refine y0s rfl (x0v ?_)
 have nt:=z7b (z2l P m t k)
 have hl:((z2l P m t k).map tabD).length=k:=by unfold z2l;simp
 show(y7u (gV 0) _>>=fun items=>R.guard _ _)=_
 have e1:y7u (gV 0) (ini 2 [.lst ((z2l P m t k).map tabD),.int n]) = .ok (z4w 0 ((z2l P m t k).map tabD)):=by
  show(R.guard _ _:R (List D))=_
  rw[z0o nt]
 rw[e1]
 show R.guard _ _=_
 rw[z0o (by rw[y1v,hl];lia),y4c (y3a n),List.nil_append,x4g,List.range_eq_range',y2t]
 ·unfold twos;rw[List.range_eq_range']
 ·intro j x hx
  have nx:D.noL x=true:=x8m nt (List.mem_of_getElem? hx)
  rw[Nat.zero_add]
  have e2:(n:Int)/2^j%2=((n/2^j%2:Nat):Int):=by
   rw[Int.natCast_emod,Int.natCast_ediv,Int.natCast_pow];rfl
  have e3:((n:Int)/2^j%2==1)=y3a n j:=by
   rw[e2];unfold y3a
   cases q:(n/2^j%2==1) with
   | true=>rw[beq_iff_eq] at q;rw[q];rfl
   | false =>
     have:n/2^j%2=0:=by
      have h1:n/2^j%2≠1:=by simpa using q
      lia
     rw[this];rfl
  have e4:dShr (.int (n:Int)) (.int ((j:Nat):Int)) = .ok (.int ((n:Int)/2^j)):=by
   show R.guard _ (R.ok (D.int ((n:Int)/2^((j:Nat):Int).toNat)))=_
   rw[z0o ⟨Int.natCast_nonneg n,Int.natCast_nonneg j⟩,Int.toNat_natCast]
  unfold y4z
  walk_at "evs"
  rw[e4]
  walk_at "evs"
  rw[e3]
  cases q:y3a n j with
  | true=>walk_at "evs"
  | false=>rfl
theorem y9x{n k i:Nat}{d:D}{F:Nat->D}(h:((twos n k).map F)[i]? = some d):∃j,(twos n k)[i]? = some j/\d=F j:=by
 rw[List.getElem?_map] at h
 cases q:(twos n k)[i]? with
 | none=>rw[q] at h;cases h
 | some j=>rw[q] at h;injection h with h;exact⟨j,rfl,h.symm⟩
theorem y2q{l:List Nat}{i j:Nat}(h:l[i]? = some j):z4g (l.take (i+1))=z4g (l.take i)+2^j:=by
 rw[List.take_add_one,h,z7m]
 show _+(2^j+0)=_
 rw[Nat.add_zero]
theorem s_E{P:Int}{m n:Nat}{t:List (List Int)}(p1:3<=P)(p2:P<=9973)(hm:m<=3)(ht:z1q P m t)(hn:n<2^150):c_E [.int P,tabD t,.int n] = .ok (tabD (powZ P m t n)):=by
 refine z1k rfl ?_
 delta g_E
 have hp:1<P:=by lia
 have el:=s_D p1 p2 hm ht hn
 have ei:=s_J (n:=m) (by lia)
 have hF:=x6i hn
 have er:=s_t (P:=P) (m:=m) (n:=n) (k:=figZ n) (t:=t) (by lia)
 refine z0w (d:=tabD (powZ P m t 0)) ?_ ?_
 ·have:=z6c (z6x m)
  simp only[tabD,powZ]
  walk_at "evs"
  rw[show(t.length:Int)=(m:Int) by rw[ht.1]]
  simp only[ei]
  walk_at "evs"
 refine z7w (ds:=(twos n (figZ n)).map fun j=>tabD (powZ P m t (2^j))) (fun i Γ=>∃x4,Γ=[.ro (.int P),.ro (tabD t),.ro (.int n),.ro (tabD (powZ P m t (z4g ((twos n (figZ n)).take i)))),x4]) ?_ ⟨_,rfl⟩ ?_ ?_
 ·have nt:=z7b (z2l P m t (figZ n))
  walk_at "evs"
  simp only[el]
  walk_at "evs"
  simp only[er]
  have nt2:D.noLs ((twos n (figZ n)).map fun j=>tabD (powZ P m t (2^j)))=true:=z9h fun j _=>z6c _
  walk_at "evs"
 ·rintro i d Γ hd ⟨x4,rfl⟩
  obtain⟨j,hj,rfl⟩:=y9x hd
  have eth:=s_M (P:=P) (n:=m) (by lia) (by lia) (z2y hp ht (z4g ((twos n (figZ n)).take i))) (z2y hp ht (2^j)) (by lia)
  rw[<-y0k hp ht,<-y2q hj] at eth
  refine .nx (z6m (d:=tabD (powZ P m t (z4g ((twos n (figZ n)).take (i+1))))) ?_) ⟨_,rfl⟩
  walk_at "evs"
  simp only[tabD,eth]
  have:=z6c (powZ P m t (z4g ((twos n (figZ n)).take (i+1))))
  walk_at "evs"
 ·rintro Γ ⟨x4,rfl⟩
  refine z2g ?_
  walk_at "evs"
  rw[show((twos n (figZ n)).take (twos n (figZ n)).length)=twos n (figZ n) from List.take_length,y5g,x6h]
end L3
namespace L3
open PySem
local macro_rules | `(tactic| walk_at "evs") => wkL " L3.z9o L3.z5b L3.z3w L3.s_on L3.z4n L3.z3c L3.z5t L3.z5w L3.z4z L3.z4d L3.z5x L3.z0k L3.z8w L3.y9o L3.y9l L3.x2u L3.Item.d L3.Item.ds_map L3.z7u L3.x3q L3.x3r L3.y6a L3.y0r"
mutual
noncomputable def Item.tab(P:Int)(m:Nat):Item->List (List Int)
 | .set x f=>(z6x m).set x.toNat f
 | .again n its=>powZ P m (Item.tabs P m its) n.toNat
noncomputable def Item.tabs(P:Int)(m:Nat):List Item->List (List Int)
 | []=>z6x m
 | a::r=>z4x P (a.tab P m) (Item.tabs P m r)
end
theorem x1u{P:Int}{m x:Nat}{f:List Int}(hp:1<P)(h:x1x P m f):z1q P m ((z6x m).set x f):=by
 obtain⟨h1,h2⟩:=y6c hp m
 refine⟨by rw[List.length_set];exact h1,fun r hr=>?_⟩
 rcases List.mem_or_eq_of_mem_set hr with z | z
 ·exact h2 r z
 ·rw[z];exact h
mutual
theorem Item.tab_ok{P:Int}{m:Nat}(hp:1<P):∀a:Item,a.ok P m->z1q P m (a.tab P m)
 | .set x f,h=>by
   simp only[Item.ok] at h
   exact x1u hp ⟨h.2.2.2,by lia⟩
 | .again n its,h=>by
   simp only[Item.ok] at h
   exact z2y hp (Item.tabs_ok hp its h.2.2) _
theorem Item.tabs_ok{P:Int}{m:Nat}(hp:1<P):∀its:List Item,Item.oks P m its->z1q P m (Item.tabs P m its)
 | [],_=>y6c hp m
 | a::r,h=>by
   simp only[Item.oks] at h
   exact z6n (by lia) (Item.tab_ok hp a h.1).1 (Item.tabs_ok hp r h.2).1
end
theorem Item.tabs_append{P:Int}{m:Nat}(hp:1<P):∀{a b:List Item},Item.oks P m a->Item.oks P m b->Item.tabs P m (a++b)=z4x P (Item.tabs P m a) (Item.tabs P m b)
 | [],b,_,hb=>(idle_M hp (Item.tabs_ok hp b hb)).symm
 | x::a,b,ha,hb=>by
   simp only[Item.oks] at ha
   show z4x P (x.tab P m) (Item.tabs P m (a++b))=z4x P (z4x P (x.tab P m) (Item.tabs P m a)) (Item.tabs P m b)
   rw[Item.tabs_append hp ha.2 hb,y4o (by lia) (Item.tab_ok hp x ha.1).1 (Item.tabs_ok hp a ha.2).1 (Item.tabs_ok hp b hb).1]
theorem Item.tabs_one{P:Int}{m:Nat}(hp:1<P){a:Item}(h:a.ok P m):Item.tabs P m [a]=a.tab P m:=then_J hp (Item.tab_ok hp a h)
theorem x5y{its:List Item}{j:Nat}{d:D}(h:(its.map Item.d)[j]? = some d):∃a:Item,its[j]? = some a/\d=a.d/\a∈its:=by
 rw[List.getElem?_map] at h
 cases q:its[j]? with
 | none=>rw[q] at h;cases h
 | some a=>rw[q] at h;cases h;exact⟨a,rfl,rfl,List.mem_of_getElem? q⟩
theorem x3m{α:Type}{l:List α}{j:Nat}{a:α}(h:l[j]? = some a):l.take (j+1)=l.take j++[a]:=by
 rw[List.take_add_one,h];rfl
theorem Item.oks_take{P many:Int}{its:List Item}(h:Item.oks P many its)(j:Nat):Item.oks P many (its.take j):=Item.oks_iff.mpr fun a ha=>Item.oks_iff.mp h a (List.mem_of_mem_take ha)
theorem w6n:(10:Int)^30<2^150:=by decide
theorem x9r{n:Int}(h0:0<=n)(h:n<=10^30):∃k:Nat,n=(k:Int)/\n.toNat=k/\k<2^150:=by
 have:=w6n
 exact⟨n.toNat,by lia,rfl,by lia⟩
theorem s_y{P:Int}{m:Nat}(p1:3<=P)(p2:P<=9973)(hm:m<=3):∀(k:Nat) (its:List Item),2*Item.deeps its+2<=k->Item.oks P m its->c_y k [.int P,.int m,.tup (its.map Item.d)] = .ok (tabD (Item.tabs P m its))
 | 0,_,h,_=>by lia
 | 1,_,h,_=>by lia
 | k+2,its,h,ho=>by
   have hp:1<P:=by lia
   show fnC 3 5 (g_y (c_y (k+1)) (c_e (k+1))) _=_
   refine z1k rfl ?_
   delta g_y
   have hn:=Item.noLs' its
   have ei:=s_J (n:=m) (by lia)
   refine z0w (d:=tabD (Item.tabs P m (its.take 0))) ?_ ?_
   ·have:=z6c (z6x m)
    walk_at "evs"
    simp only[ei]
    walk_at "evs"
    rfl
   refine z7w (ds:=its.map Item.d) (fun j Γ=>∃x4,Γ=[.ro (.int P),.ro (.int m),.ro (.tup (its.map Item.d)),.ro (tabD (Item.tabs P m (its.take j))),x4]) (by walk_at "evs") ⟨_,rfl⟩ ?_ ?_
   ·rintro j d Γ hd ⟨x4,rfl⟩
    obtain⟨a,ea,rfl,ha⟩:=x5y hd
    have oka:=Item.oks_iff.mp ho a ha
    have okt:=Item.oks_take ho j
    have e:c_e (k+1) [.int P,.int m,a.d] = .ok (tabD (a.tab P m)):=by
     show fnC 3 3 (g_e (c_y k) (c_e k)) _=_
     refine z1k rfl ?_
     delta g_e
     cases a with
     | set x f =>
       simp only[Item.ok] at oka
       obtain⟨y,rfl⟩:∃y:Nat,x=(y:Int):=⟨x.toNat,by lia⟩
       have es:=s_z (n:=m) (x:=y) (f:=f) (by lia) (by lia)
       refine y4e (z8q (by walk_at "evs") (z2g ?_))
       walk_at "evs"
       simp only[es]
       rfl
     | again n i =>
       have h1:=Item.deeps_le.mp (Nat.le_refl (Item.deeps its)) _ ha
       simp only[Item.deep] at h1
       simp only[Item.ok] at oka
       obtain⟨y,rfl,ey,hy⟩:=x9r oka.1 oka.2.1
       have ih:=s_y p1 p2 hm k i (by lia) oka.2.2
       have er:=s_E (n:=y) p1 p2 hm (Item.tabs_ok hp i oka.2.2) hy
       refine z1u (by walk_at "evs") (z2g ?_)
       walk_at "evs"
       simp only[ih]
       walk_at "evs"
       simp only[er]
       rfl
    have eth:=s_M (P:=P) (n:=m) (by lia) (by lia) (Item.tabs_ok hp _ okt) (Item.tab_ok hp a oka) (by lia)
    have et:Item.tabs P m (its.take (j+1))=z4x P (Item.tabs P m (its.take j)) (a.tab P m):=by
     rw[x3m ea,Item.tabs_append hp okt (by simp only[Item.oks];exact⟨oka,trivial⟩),Item.tabs_one hp oka]
    refine .nx (z6m (d:=tabD (Item.tabs P m (its.take (j+1)))) ?_) ⟨_,rfl⟩
    have:=z6c (z4x P (Item.tabs P m (its.take j)) (a.tab P m))
    walk_at "evs"
    simp only[e]
    walk_at "evs"
    simp only[tabD,eth,et]
    walk_at "evs"
   ·rintro Γ ⟨x4,rfl⟩
    refine z2g ?_
    walk_at "evs"
    rw[List.take_of_length_le (Nat.le_refl _)]
theorem y7z(ns:List Int)(lo hi:Option Int):cutL (ns.map D.int) lo hi=(cutL ns lo hi).map D.int:=x9p D.int ns lo hi
theorem x9q{α:Type}(xs:List α)(lo hi:Option Int):(cutL xs lo hi).length<=xs.length:=by
 unfold cutL;rw[List.length_take,List.length_drop];lia
theorem y1c(its:List Item):(D.tup (its.map Item.d)).noL=true:=by have:=Item.noLs' its;simpa [D.noL] using this
theorem x8p(c:Int):∃m:Nat,1+c%3=(m:Int)/\1<=m/\m<=3:=⟨(1+c%3).toNat,by lia,by lia,by lia⟩
end L3
namespace L3
open PySem
local macro_rules | `(tactic| walk_at "evs") => wkL " L3.z9o L3.z5b L3.z3w L3.s_on L3.z4n L3.z3c L3.z5t L3.z5w L3.z4z L3.z4d L3.z5x L3.z0k"
theorem w5b{P d:Int}(hp:z1x P=false)(h3:3<=P)(h:P<=9973)(h1:2<=d)(h2:d<P):P%d≠0:=by
 intro e
 have hn:¬∃b:Int,2<=b/\b<100/\b<P/\P%b=0:=fun q=>by rw[(y1h P).mpr q] at hp;cases hp
 by_cases hd:d<100
 ·exact hn ⟨d,h1,hd,h2,e⟩
 ·have e1:P=d*(P/d):=by have:=Int.emod_add_mul_ediv P d;lia
  generalize hq:P/d=q at *
  have q0:0<q:=by
   rcases Int.lt_trichotomy 0 q with z | z | z
   ·exact z
   ·rw[<-z] at e1;simp at e1;lia
   ·have:d*q<0:=Int.mul_neg_of_pos_of_neg (by lia) z
    lia
  have q1:q≠1:=fun z=>by rw[z] at e1;lia
  have q2:q<100:=by
   rcases Int.lt_or_le q 100 with z | z
   ·exact z
   ·have:100*100<=d*q:=Int.mul_le_mul (by lia) z (by lia) (by lia)
    lia
  refine hn ⟨q,by lia,q2,?_,?_⟩
  ·have:2*q<=d*q:=Int.mul_le_mul_of_nonneg_right h1 (by lia)
   lia
  ·rw[e1];exact Int.mul_emod_left d q
theorem x7b{P n0:Int}(hp:z1x P=false)(h3:3<=P)(h:P<=9973)(x1:En):∀(k m:Nat) (Γ:G),m<k ->
 (∃a b:Int,Γ=[.ro (.int P),x1,.ro (.int b),.ro (.int a)]/\1<=b/\b<P/\0<=a/\a<P/\cg P (a*n0) b/\b.toNat=m) ->
 ∃a:Int,whGo (gT (gBin dNe (gV 2) (gC (.int 1)))) (gSt (gSet 3 (gNL (z0g c_on (gCons (gV 0) (gCons (gBin dMul (gNeg (gV 3)) (gBin dDiv (gV 0) (gV 2))) gNil))))) (gSet 2 (gNL (gBin dMod (gV 0) (gV 2))))) k Γ = .ok (.nx [.ro (.int P),x1,.ro (.int 1),.ro (.int a)])/\0<=a/\a<P/\cg P (a*n0) 1:=by
 refine z5a _ (fun r=>∃a:Int,r = .ok (.nx [.ro (.int P),x1,.ro (.int 1),.ro (.int a)])/\0<=a/\a<P/\cg P (a*n0) 1) ?_
 rintro m Γ ⟨a,b,rfl,b1,b2,a1,a2,hc,hm⟩
 by_cases hb:b=1
 ·subst hb
  refine .inl ⟨by walk_at "evs",a,rfl,a1,a2,hc⟩
 ·have hbf:(b==1)=false:=by simpa using hb
  have hnd:=w5b hp h3 h (d:=b) (by lia) b2
  have r1:0<=P%b:=z6i (by lia)
  have r2:P%b<b:=z6j (by lia)
  have hq0:0<=P/b:=Int.ediv_nonneg (by lia) (by lia)
  have hq1:P/b<=P:=Int.ediv_le_self b (by lia)
  have he:P%b=P-b*(P/b):=by have:=Int.emod_add_mul_ediv P b;lia
  refine .inr ⟨by walk_at "evs";simp only[hbf];walk_at "evs",.inl ⟨[.ro (.int P),x1,.ro (.int (P%b)),.ro (.int ((-a*(P/b))%P))],(P%b).toNat,by lia,.inl ?_,_,_,rfl,by lia,by lia,z6i (by lia),z6j (by lia),?_,rfl⟩⟩
  ·refine z0w (d:=.int ((-a*(P/b))%P)) (by walk_at "evs") ?_
   refine z6m ?_
   walk_at "evs"
  ·have c1:cg P ((-a*(P/b))%P*n0) (-(P/b)*(a*n0)):=by
    refine(z7h.mul cg.refl).trans (cg.of_eq ?_)
    rw[Int.neg_mul,Int.neg_mul,Int.neg_mul,Int.mul_assoc,Int.mul_left_comm]
   have c2:cg P (-(P/b)*(a*n0)) (-(P/b)*b):=cg.mul cg.refl hc
   refine(c1.trans c2).trans ?_
   rw[he]
   have:cg P (-(P/b)*b) (P-b*(P/b)):=by
    rw[w1f]
    rw[show -(P/b)*b-(P-b*(P/b)) = -P by rw[Int.neg_mul,Int.mul_comm];lia]
    simp
   exact this
theorem x4f{P n:Int}(hp:z1x P=false)(h3:3<=P)(h:P<=9973):(n%P=0->y4d [.int P,.int n] = .er .noNumber)/\(n%P≠0->∃a:Int,y4d [.int P,.int n] = .ok (.int a)/\0<a/\a<P/\(a*n)%P=1):=by
 have r1:0<=n%P:=z6i (by lia)
 have r2:n%P<P:=z6j (by lia)
 refine⟨fun e=>?_,fun e=>?_⟩
 ·refine w5w (Γ:=[.ro (.int P),.ro (.int n),.ro (.int 0),.no]) rfl ?_
  unfold x6a
  refine z0w (d:=.int 0) (by walk_at "evs";rw[e];walk_at "evs") ?_
  refine w7g (z8q (by walk_at "evs") ?_)
  rfl
 ·have hbf:(n%P==0)=false:=by simpa using e
  obtain⟨a,ea,a1,a2,ac⟩:=x7b (n0:=n%P) hp h3 h (.ro (.int n)) 100000 (n%P).toNat [.ro (.int P),.ro (.int n),.ro (.int (n%P)),.ro (.int 1)] (by lia) ⟨1,n%P,rfl,by lia,r2,by lia,by lia,cg.of_eq (by lia),rfl⟩
  have hc:cg P (a*n) 1:=(cg.mul cg.refl z7h.symm).trans ac
  have h1:(a*n)%P=1:=by
   unfold cg at hc
   rw[hc,Int.emod_eq_of_lt (by lia) (by lia)]
  have a0:a≠0:=fun z=>by rw[z] at h1;simp at h1
  refine⟨a,?_,by lia,a2,h1⟩
  refine z1k rfl ?_
  unfold x6a
  refine z0w (d:=.int (n%P)) (by walk_at "evs") ?_
  refine z1u (by walk_at "evs";simp only[hbf];walk_at "evs") ?_
  refine z0w (d:=.int 1) (by walk_at "evs") ?_
  refine z5o ea ?_
  exact z2g (by walk_at "evs")
noncomputable def vec(r:List Int):Nat->Int:=fun i=>(r[i]?).getD 0
inductive Span (P:Int) (S:List (List Int)):(Nat->Int)->Prop
 | zero {v:Nat->Int}:(∀i,cg P (v i) 0)->Span P S v
 | add {u v:Nat->Int} {c:Int} {r:List Int}:r∈S->Span P S u->(∀i,cg P (v i) (u i+c*vec r i))->Span P S v
section
variable {P:Int}{S T:List (List Int)}{u v:Nat->Int}{c:Int}{r:List Int}
end
noncomputable def z0l(r:List Int):Nat:=r.findIdx (fun x=>!(x==0))
structure Steps (P:Int) (w:Nat) (S:List (List Int)):Prop where
 row:∀r∈S,r.length=w/\onW P r/\z0l r<w/\vec r (z0l r)=1
 pair:S.Pairwise fun r r'=>z0l r<z0l r'/\vec r (z0l r')=0
section
variable {P:Int}{w:Nat}{S T:List (List Int)}{v:Nat->Int}
theorem y5v(hp:1<P):¬cg P 1 0:=fun h=>by
 unfold cg at h
 rw[Int.emod_eq_of_lt (by lia) hp,Int.zero_emod] at h
 lia
theorem w0i{a b:List Int}(hp:0<P)(la:a.length=w)(lb:b.length=w)(oa:onW P a)(ob:onW P b)(h:∀i,cg P (vec a i) (vec b i)):a=b:=by
 refine y6f (la.trans lb.symm) fun k hk=>?_
 have h1:=y2a hp oa k
 have h2:=y2a hp ob k
 exact(h k).eq_of h1.1 h1.2 h2.1 h2.2
end
section
variable {P:Int}{w p:Nat}{r l:List Int}{c:Int}
end
structure Gone (P:Int) (w p:Nat) (rows left steps:List (List Int)):Prop where
 lft:∀r∈left,r.length=w/\onW P r/\∀i,i<p->vec r i=0
 step:∀r∈steps,r.length=w/\onW P r/\z0l r<p/\vec r (z0l r)=1
 pair:steps.Pairwise fun r r'=>z0l r<z0l r'/\vec r (z0l r')=0
 ofL:∀r∈left,Span P rows (vec r)
 ofS:∀r∈steps,Span P rows (vec r)
 all:∀r∈rows,Span P (left++steps) (vec r)
section
variable {P:Int}{w p:Nat}{rows left steps:List (List Int)}
structure StepsOf (P:Int) (w:Nat) (rows S:List (List Int)):Prop where
 steps:Steps P w S
 ofS:∀r∈S,Span P rows (vec r)
 all:∀r∈rows,Span P S (vec r)
end
noncomputable section
end
noncomputable section
end
end L3
namespace L3
open PySem
local macro_rules | `(tactic| walk_at "evs") => wkL " L3.z9o L3.z5b L3.z3w L3.s_on L3.z4n L3.z3c L3.z5t L3.z5w L3.z4z L3.z4d L3.z5x L3.z0k L3.z8w L3.y9o L3.y9l L3.x2u L3.y3p L3.gZip L3.y7u L3.x6k L3.y1a L3.y3x L3.x9o L3.D.isNon"
theorem z2c(l:List (List Int)):D.noLs (l.map rowD)=true:=y0o l
noncomputable def z1f(rows:List (List Int))(k:Nat):List Int:=(rows[k]?).getD []
noncomputable def sumW(rows:List (List Int))(c:Nat->Int)(i:Nat):Int:=sumN (fun k=>c k*vec (z1f rows k) i) rows.length
section
variable {P:Int}{w:Nat}{rows:List (List Int)}
structure IdleOf (P:Int) (rows T:List (List Int)):Prop where
 steps:Steps P rows.length T
 idle:∀t∈T,∀i,cg P (sumW rows (vec t) i) 0
 all:∀c:Nat->Int,(∀i,cg P (sumW rows c i) 0)->Span P T (fun k=>if k<rows.length then c k else 0)
end
section
variable {P c:Int}{r l:List Int}{w:Nat}
end
section
variable {P:Int}{w:Nat}{rows:List (List Int)}
end
noncomputable section
end
section
variable {P:Int}{w:Nat}{rows S:List (List Int)}
end
section
variable {P:Int}{w:Nat}{rows S T:List (List Int)}
end
noncomputable section
noncomputable def g_f:G->R Fl :=
 (gSt (gSet 1 (gNL (gC (.int 2))))
 (gSt (whGo (gT (gBin dLe (gBin dMul (gV 1) (gV 1)) (gV 0))) (gSt (gIfS (gT (gBin dEq (gBin dMod (gV 0) (gV 1)) (gC (.int 0)))) (gRet (gV 1)) z1i)
 (gSet 1 (gNL (gBin dAdd (gV 1) (gC (.int 1)))))) 10000)
 (gRet (gV 0))))
noncomputable def c_f:List D->R D:=fnC 1 2 g_f
end
end L3
namespace L3
open PySem
local macro_rules | `(tactic| walk_at "evs") => wkL " L3.z9o L3.z5b L3.z3w L3.s_on L3.z4n L3.z3c L3.z5t L3.z5w L3.z4z L3.z4d L3.z5x L3.z0k"
noncomputable def LDiv(n q:Int):Prop:=(n=1/\q=1)∨(2<=q/\q<=n/\n%q=0/\∀e:Int,2<=e->e<q->n%e≠0)
theorem x9t{n b:Int}(hn:1<=n)(b1:2<=b)(b2:b<n)(hb:n%b=0):n=b*(n/b)/\2<=n/b/\n/b<n/\n%(n/b)=0:=by
 have e1:n=b*(n/b):=by have:=Int.emod_add_mul_ediv n b;lia
 generalize hq:n/b=q at *
 have q0:0<q:=by
  rcases Int.lt_trichotomy 0 q with z | z | z
  ·exact z
  ·rw[<-z] at e1;simp at e1;lia
  ·have:b*q<0:=Int.mul_neg_of_pos_of_neg (by lia) z
   lia
 have q1:q≠1:=fun z=>by rw[z] at e1;lia
 have q2:2*q<=b*q:=Int.mul_le_mul_of_nonneg_right b1 (by lia)
 exact⟨e1,by lia,by lia,by rw[e1];exact Int.mul_emod_left b q⟩
theorem w2s{n d:Int}(h1:1<=n)(d1:2<=d)(hq:¬d*d<=n)(hd:∀e:Int,2<=e->e<d->n%e≠0):LDiv n n:=by
 by_cases hn:n=1
 ·exact .inl ⟨hn,hn⟩
 refine .inr ⟨by lia,by lia,Int.emod_self,fun e e1 e2 z=>?_⟩
 obtain⟨c1,c2,c3,c4⟩:=x9t h1 e1 e2 z
 have e3:d<=e:=by
  rcases Int.lt_or_le e d with w | w
  ·exact absurd z (hd e e1 w)
  ·exact w
 have e4:d<=n/e:=by
  rcases Int.lt_or_le (n/e) d with w | w
  ·exact absurd c4 (hd _ c2 w)
  ·exact w
 have:d*d<=e*(n/e):=Int.mul_le_mul e3 e4 (by lia) (by lia)
 lia
theorem y7y{n:Int}(h1:1<=n)(h2:n<=100000000):∀(k m:Nat) (Γ:G),m<k ->
 (∃d:Int,Γ=[.ro (.int n),.ro (.int d)]/\2<=d/\d<=10001/\(∀e:Int,2<=e->e<d->n%e≠0)/\(10001-d).toNat=m) ->
 (∃q,LDiv n q/\whGo (gT (gBin dLe (gBin dMul (gV 1) (gV 1)) (gV 0))) (gSt (gIfS (gT (gBin dEq (gBin dMod (gV 0) (gV 1)) (gC (.int 0)))) (gRet (gV 1)) z1i) (gSet 1 (gNL (gBin dAdd (gV 1) (gC (.int 1)))))) k Γ = .ok (.rt (.int q))) ∨
 (LDiv n n/\∃x,whGo (gT (gBin dLe (gBin dMul (gV 1) (gV 1)) (gV 0))) (gSt (gIfS (gT (gBin dEq (gBin dMod (gV 0) (gV 1)) (gC (.int 0)))) (gRet (gV 1)) z1i) (gSet 1 (gNL (gBin dAdd (gV 1) (gC (.int 1)))))) k Γ = .ok (.nx [.ro (.int n),x])):=by
 refine z5a _ (fun r=>(∃q,LDiv n q/\r = .ok (.rt (.int q)))∨(LDiv n n/\∃x,r = .ok (.nx [.ro (.int n),x]))) ?_
 rintro m Γ ⟨d,rfl,d1,d2,hd,hm⟩
 by_cases hq:d*d<=n
 ·have e1:decide (d*d<=n)=true:=decide_eq_true hq
  have d3:d<10001:=by
   rcases Int.lt_or_le d 10001 with z | z
   ·exact z
   ·have:10001*10001<=d*d:=Int.mul_le_mul z z (by lia) (by lia)
    lia
  refine .inr ⟨by walk_at "evs";simp only[e1],?_⟩
  by_cases hz:n%d=0
  ·have e2:(n%d==0)=true:=by simpa using hz
   have d5:2*d<=d*d:=Int.mul_le_mul_of_nonneg_right d1 (by lia)
   refine .inr (.inr (.inl ⟨.int d,?_,.inl ⟨d,.inr ⟨d1,by lia,hz,hd⟩,rfl⟩⟩))
   refine y4e (z8q (by walk_at "evs";simp only[e2]) ?_)
   exact z2g (by walk_at "evs")
  ·have e2:(n%d==0)=false:=by simpa using hz
   refine .inl ⟨[.ro (.int n),.ro (.int (d+1))],(10001-(d+1)).toNat,by lia,.inl ?_,d+1,rfl,by lia,by lia,fun e z1 z2=>?_,rfl⟩
   ·refine z1u (by walk_at "evs";simp only[e2]) ?_
    refine z6m ?_
    walk_at "evs"
   ·by_cases ee:e=d
    ·rw[ee];exact hz
    ·exact hd e z1 (by lia)
 ·have e1:decide (d*d<=n)=false:=decide_eq_false hq
  exact .inl ⟨by walk_at "evs";simp only[e1],.inr ⟨w2s h1 d1 hq hd,_,rfl⟩⟩
theorem w1w{n:Int}(h1:1<=n)(h2:n<=100000000):∃q,LDiv n q/\c_f [.int n] = .ok (.int q):=by
 rcases y7y h1 h2 10000 (10001-2:Int).toNat [.ro (.int n),.ro (.int 2)] (by decide) ⟨2,rfl,by lia,by lia,fun e z1 z2=>by lia,rfl⟩ with ⟨q,hl,e⟩ | ⟨hl,x,e⟩
 ·refine⟨q,hl,z1k rfl ?_⟩
  delta g_f
  refine z0w (d:=.int 2) (by walk_at "evs") ?_
  exact y4e e
 ·refine⟨n,hl,z1k rfl ?_⟩
  delta g_f
  refine z0w (d:=.int 2) (by walk_at "evs") ?_
  exact z5o e (z2g (by walk_at "evs"))
theorem y2w:∀{a b:List Int},a.Nodup->(∀x∈a,x∈b)->b.length<=a.length->a.Perm b
 | [],b,_,_,h=>by
   have:b=[]:=List.length_eq_zero_iff.mp (by simpa using h)
   rw[this]
 | x::a,b,hn,hs,h=>by
   obtain⟨n1,n2⟩:=List.nodup_cons.mp hn
   have hx:=hs x List.mem_cons_self
   have p:=List.perm_cons_erase hx
   have hl:(b.erase x).length<=a.length:=by rw[List.length_erase_of_mem hx];simp at h;lia
   refine(List.Perm.cons x (y2w n2 (fun y hy=>?_) hl)).trans p.symm
   have ne:y≠x:=fun z=>n1 (z ▸ hy)
   exact(List.mem_erase_of_ne ne).mpr (hs y (List.mem_cons_of_mem _ hy))
noncomputable def z1d:List Int->Int
 | []=>1
 | x::l=>x*z1d l
theorem x1z{a b:List Int}(h:a.Perm b):z1d a=z1d b:=by
 induction h with
 | nil=>rfl
 | cons x _ ih=>simp only[z1d,ih]
 | swap x y l=>simp only[z1d];rw[<-Int.mul_assoc,<-Int.mul_assoc,Int.mul_comm y x]
 | trans _ _ h1 h2=>exact h1.trans h2
theorem y7h{P x:Int}:∀l:List Int,cg P (z1d (l.map fun i=>(x*i)%P)) (x^l.length*z1d l)
 | []=>by simp only[List.map_nil,z1d,List.length_nil];exact cg.of_eq (by rw[Int.pow_zero,Int.one_mul])
 | i::l=>by
   simp only[List.map_cons,z1d,List.length_cons]
   refine(z7h.mul (y7h l)).trans (cg.of_eq ?_)
   rw[Int.pow_succ]
   have:x*i*(x^l.length*z1d l)=x^l.length*x*(i*z1d l):=by
    rw[Int.mul_comm (x^l.length) x,Int.mul_assoc,Int.mul_assoc]
    congr 1
    rw[<-Int.mul_assoc,<-Int.mul_assoc,Int.mul_comm i]
   exact this
section
variable {P:Int}
theorem y5f(hp:z1x P=false)(p1:3<=P)(p2:P<=9973){a:Int}(h:a%P≠0):∃b:Int,cg P (b*a) 1:=by
 obtain⟨b,_,_,_,e⟩:=(x4f (n:=a) hp p1 p2).2 h
 exact⟨b,by unfold cg;rw[e,Int.emod_eq_of_lt (by lia) (by lia)]⟩
theorem y6n(hp:z1x P=false)(p1:3<=P)(p2:P<=9973):∀l:List Int,(∀a∈l,a%P≠0)->∃b:Int,cg P (b*z1d l) 1
 | [],_=>⟨1,cg.of_eq (by simp[z1d])⟩
 | a::l,h=>by
   obtain⟨b,hb⟩:=y5f hp p1 p2 (h a List.mem_cons_self)
   obtain⟨c,hc⟩:=y6n hp p1 p2 l fun x hx=>h x (List.mem_cons_of_mem _ hx)
   refine⟨b*c,(cg.of_eq ?_).trans ((hb.mul hc).trans (cg.of_eq (by simp)))⟩
   simp only[z1d]
   rw[Int.mul_assoc,Int.mul_assoc]
   congr 1
   rw[<-Int.mul_assoc,<-Int.mul_assoc,Int.mul_comm c]
theorem w5x(hp:z1x P=false)(p1:3<=P)(p2:P<=9973){x:Int}(hx:x%P≠0):cg P (x^(P-1).toNat) 1:=by
 obtain⟨n,en⟩:∃n:Nat,P-1=(n:Int):=⟨(P-1).toNat,by lia⟩
 have ln:(P-1).toNat=n:=by lia
 let l:List Int:=(List.range n).map fun i:Nat=>(i:Int)+1
 have ll:l.length=n:=by simp[l]
 have ml:∀y:Int,y∈l↔1<=y/\y<P:=fun y=>by
  simp only[l,List.mem_map,List.mem_range]
  constructor
  ·rintro⟨i,hi,rfl⟩;lia
  ·rintro⟨h1,h2⟩;exact⟨(y-1).toNat,by lia,by lia⟩
 have nl:l.Nodup:=by
  refine List.pairwise_map.mpr ((List.nodup_range (n:=n)).imp fun {a b} q z=>q (by lia))
 have nz:∀a∈l,a%P≠0:=fun a ha=>by
  obtain⟨h1,h2⟩:=(ml a).mp ha
  rw[Int.emod_eq_of_lt (by lia) h2];lia
 obtain⟨xi,hxi⟩:=y5f hp p1 p2 hx
 have back:∀i:Int,cg P (xi*(x*i)) i:=fun i=>by
  rw[<-Int.mul_assoc]
  have:=hxi.mul (cg.refl (a:=i))
  rw[Int.one_mul] at this;exact this
 have nm:(l.map fun i=>(x*i)%P).Nodup:=by
  refine List.pairwise_map.mpr (nl.imp_of_mem fun {a b} ha hb q z=>q ?_)
  obtain⟨a1,a2⟩:=(ml a).mp ha
  obtain⟨b1,b2⟩:=(ml b).mp hb
  have h1:cg P (x*a) (x*b):=z
  have h2:=((back a).symm.trans ((cg.refl (a:=xi)).mul h1)).trans (back b)
  unfold cg at h2
  rw[Int.emod_eq_of_lt (by lia) a2,Int.emod_eq_of_lt (by lia) b2] at h2
  exact h2
 have sub:∀y∈l.map (fun i=>(x*i)%P),y∈l:=fun y hy=>by
  obtain⟨i,hi,rfl⟩:=List.mem_map.mp hy
  rw[ml]
  have h1:=Int.emod_nonneg (x*i) (show P≠0 by lia)
  have h2:=Int.emod_lt_of_pos (x*i) (show 0<P by lia)
  refine⟨?_,h2⟩
  have:(x*i)%P≠0:=fun z=>nz i hi (by
   have q:cg P (x*i) 0:=by unfold cg;rw[z,Int.zero_emod]
   have:=(back i).symm.trans ((cg.refl (a:=xi)).mul q)
   rw[Int.mul_zero] at this
   unfold cg at this;rw[this,Int.zero_emod])
  lia
 have pm:=x1z (y2w nm sub (Nat.le_of_eq (List.length_map (as:=l) _).symm))
 have h1:=y7h (P:=P) (x:=x) l
 rw[pm,ll] at h1
 obtain⟨b,hb⟩:=y6n hp p1 p2 l nz
 rw[ln]
 have h2:=(cg.refl (P:=P) (a:=b)).mul h1
 have e:b*(x^n*z1d l)=x^n*(b*z1d l):=by rw[<-Int.mul_assoc,Int.mul_comm b,Int.mul_assoc]
 rw[e] at h2
 have h3:=(cg.refl (P:=P) (a:=x^n)).mul hb
 rw[Int.mul_one] at h3
 exact h3.symm.trans (h2.symm.trans hb)
end
noncomputable def augZ(s:List Int):List Int:=s++[1]
theorem z8z{s:List Int}{m:Nat}(h:s.length=m)(i:Nat):vec (augZ s) i=if i<m then vec s i else if i=m then 1 else 0:=by
 unfold augZ vec
 by_cases q:i<m
 ·rw[if_pos q,List.getElem?_append_left (by lia)]
 ·rw[if_neg q,List.getElem?_append_right (by lia),h]
  by_cases q2:i=m
  ·rw[if_pos q2,q2,Nat.sub_self];rfl
  ·rw[if_neg q2,List.getElem?_eq_none (by simp;lia)];rfl
noncomputable def stZ(P:Int)(m:Nat)(t:List (List Int))(s:List Int)(j:Nat):List Int:=z2e P (powZ P m t j) s
theorem z9f{P:Int}{m:Nat}{t:List (List Int)}{s:List Int}(hs:s.length=m)(so:onW P s):stZ P m t s 0=s:=turn_J hs so
theorem y2h{P:Int}{m:Nat}{t:List (List Int)}{s:List Int}(hp:1<P)(ht:z1q P m t)(hs:s.length=m)(j:Nat):stZ P m t s (j+1)=z2e P t (stZ P m t s j):=by
 unfold stZ
 show z2e P (z4x P (powZ P m t j) t) s=_
 rw[turn_M (z2y hp ht j).1 hs]
theorem z1g{P:Int}{m:Nat}{t:List (List Int)}{s:List Int}(hp:1<P)(ht:z1q P m t)(j:Nat):(stZ P m t s j).length=m:=by unfold stZ;rw[z3f];exact(z2y hp ht j).1
theorem z8d{P:Int}{m:Nat}{t:List (List Int)}{s:List Int}(hp:0<P)(j:Nat):onW P (stZ P m t s j):=y9z hp _ _
noncomputable def z9n(t:List (List Int))(m:Nat)(v:Nat->Int)(i:Nat):Int:=if i<m then sumN (fun k=>vec (z1f t i) k*v k) (m+1) else if i=m then v m else 0
theorem x0t{P:Int}{m:Nat}{t:List (List Int)}{s:List Int}(ht:z1q P m t)(hs:s.length=m)(i:Nat):cg P (vec (augZ (z2e P t s)) i) (z9n t m (vec (augZ s)) i):=by
 have lt:(z2e P t s).length=m:=by rw[z3f];exact ht.1
 rw[z8z lt]
 unfold z9n
 by_cases q:i<m
 ·rw[if_pos q,if_pos q]
  have e:vec (z2e P t s) i=z2a (z1f t i) s%P:=by
   unfold vec z2e z1f
   rw[List.getElem?_map,List.getElem?_eq_getElem (by rw[ht.1];exact q)];rfl
  rw[e]
  refine z7h.trans (cg.of_eq ?_)
  have e2:z2a (z1f t i) s=sumN (fun k=>vec (z1f t i) k*vec s k) m+vec (z1f t i) m:=by rw[<-hs];rfl
  rw[e2,z0t,z8z hs m,if_neg (Nat.lt_irrefl m),if_pos rfl,Int.mul_one]
  congr 1
  exact z0m fun k hk=>by rw[z8z hs k,if_pos hk]
 ·rw[if_neg q,if_neg q]
  by_cases q2:i=m
  ·rw[if_pos q2,if_pos q2,z8z hs m,if_neg (Nat.lt_irrefl m),if_pos rfl]
   exact cg.refl
  ·rw[if_neg q2,if_neg q2];exact cg.refl
theorem x5h{P:Int}{t:List (List Int)}{m:Nat}{u v:Nat->Int}(h:∀i,cg P (u i) (v i))(i:Nat):cg P (z9n t m u i) (z9n t m v i):=by
 unfold z9n
 split
 ·exact cg.sumN fun k _=>cg.refl.mul (h k)
 ·split
  ·exact h m
  ·exact cg.refl
theorem x8q(t:List (List Int))(m:Nat)(u v:Nat->Int)(c:Int)(i:Nat):z9n t m (fun k=>u k+c*v k) i=z9n t m u i+c*z9n t m v i:=by
 unfold z9n
 split
 ·rw[<-z5z,<-z9e]
  exact z0m fun k _=>by grind
 ·split
  ·rfl
  ·lia
theorem x5g{P:Int}(t:List (List Int))(m:Nat){v:Nat->Int}(h:∀i,cg P (v i) 0)(i:Nat):cg P (z9n t m v i) 0:=by
 refine(x5h (v:=fun _=>0) h i).trans (cg.of_eq ?_)
 unfold z9n
 split
 ·exact z5y fun k _=>Int.mul_zero _
 ·split<;>rfl
end L3
namespace L3
open PySem
open Lean.Grind
section
variable {A:Type}[CommRing A]
noncomputable def nC(n:Nat):A:=Semiring.natCast.natCast n
noncomputable def iC(n:Int):A:=Ring.intCast.intCast n
theorem w5d(m n:Nat):nC (A:=A) (m+n)=nC m+nC n:=Semiring.natCast_add m n
theorem w5c(m n:Nat):nC (A:=A) (m*n)=nC m*nC n:=Semiring.natCast_mul m n
theorem w2v:nC (A:=A) 0=0:=Semiring.natCast_zero
theorem w0s:nC (A:=A) 1=1:=Semiring.natCast_one
theorem w0y(m n:Int):iC (A:=A) (m-n)=iC m-iC n:=Ring.intCast_sub m n
theorem x5v(m n:Int):iC (A:=A) (m*n)=iC m*iC n:=Ring.intCast_mul m n
theorem y4w:iC (A:=A) 1=1:=Ring.intCast_one
theorem w5s(n:Nat):iC (A:=A) (n:Int)=nC n:=Ring.intCast_natCast n
structure Idl (p:Nat) (I:A->Prop):Prop where
 zero:I 0
 add:∀{a b:A},I a->I b->I (a+b)
 mul:∀{a:A} (r:A),I a->I (r*a)
 wheel:I (nC p)
variable {p:Nat}{I:A->Prop}
theorem Idl.eq(H:Idl p I){a b:A}(h:a=b):I (a-b):=by rw[h,show b-b=0 by grind];exact H.zero
theorem Idl.of(_:Idl p I){a b:A}(h:I a)(e:a=b):I b:=e ▸ h
theorem Idl.neg(H:Idl p I){a:A}(h:I a):I (-a):=H.of (H.mul (-1) h) (by grind)
theorem Idl.sub(H:Idl p I){a b:A}(h:I a)(h':I b):I (a-b):=H.of (H.add h (H.neg h')) (by grind)
theorem Idl.symm(H:Idl p I){a b:A}(h:I (a-b)):I (b-a):=H.of (H.neg h) (by grind)
theorem Idl.trans(H:Idl p I){a b c:A}(h:I (a-b))(h':I (b-c)):I (a-c):=H.of (H.add h h') (by grind)
theorem Idl.cong(H:Idl p I){a b:A}(h:I (a-b))(hb:I b):I a:=H.of (H.add h hb) (by grind)
theorem Idl.mul2(H:Idl p I){a b c d:A}(h:I (a-b))(h':I (c-d)):I (a*c-b*d):=H.of (H.add (H.mul c h) (H.mul b h')) (by grind)
theorem Idl.pow(H:Idl p I){a b:A}(h:I (a-b)):∀n:Nat,I (a^n-b^n)
 | 0=>H.eq (by rw[Semiring.pow_zero,Semiring.pow_zero])
 | n+1=>by rw[Semiring.pow_succ,Semiring.pow_succ];exact H.mul2 (H.pow h n) h
theorem Idl.powz(H:Idl p I){a:A}(h:I a){n:Nat}(hn:1<=n):I (a^n):=by
 obtain⟨k,rfl⟩:∃k,n=k+1:=⟨n-1,by lia⟩
 rw[Semiring.pow_succ];exact H.mul _ h
theorem z5r(a:A)(m:Nat):∀n:Nat,a^(m+n)=a^m*a^n
 | 0=>by rw[Semiring.pow_zero,Nat.add_zero];grind
 | n+1=>by rw[<-Nat.add_assoc,Semiring.pow_succ,z5r a m n,Semiring.pow_succ];grind
theorem z6q(a:A)(m:Nat):∀n:Nat,a^(m*n)=(a^m)^n
 | 0=>by rw[Nat.mul_zero,Semiring.pow_zero,Semiring.pow_zero]
 | n+1=>by rw[Nat.mul_succ,z5r,z6q a m n,Semiring.pow_succ]
theorem y2l(a b:A):∀n:Nat,(a*b)^n=a^n*b^n
 | 0=>by rw[Semiring.pow_zero,Semiring.pow_zero,Semiring.pow_zero];grind
 | n+1=>by rw[Semiring.pow_succ,y2l a b n,Semiring.pow_succ,Semiring.pow_succ];grind
theorem x0l:∀n:Nat,(1:A)^n=1
 | 0=>Semiring.pow_zero 1
 | n+1=>by rw[Semiring.pow_succ,x0l n];grind
noncomputable def ch:Nat->Nat->Nat
 | _,0=>1
 | 0,_+1=>0
 | n+1,k+1=>ch n k+ch n (k+1)
theorem y6h(n:Nat):ch n 0=1:=by cases n<;>rfl
theorem y5c:∀(n k:Nat),n<k->ch n k=0
 | n,0,h=>absurd h (Nat.not_lt_zero _)
 | 0,k+1,_=>rfl
 | n+1,k+1,h=>by rw[ch,y5c n k (by lia),y5c n (k+1) (by lia)]
theorem x6v:∀n:Nat,ch n n=1
 | 0=>rfl
 | n+1=>by rw[ch,x6v n,y5c n (n+1) (by lia)]
theorem x1e:∀(n k:Nat),(k+1)*ch (n+1) (k+1)=(n+1)*ch n k
 | 0,0=>rfl
 | 0,k+1=>by
   show(k+1+1)*(ch 0 (k+1)+ch 0 (k+1+1))=_
   rw[y5c 0 (k+1) (by lia),y5c 0 (k+1+1) (by lia)];lia
 | n+1,0=>by
   have h:=x1e n 0
   show(0+1)*(ch (n+1) 0+ch (n+1) (0+1))=_
   rw[y6h] at h ⊢
   lia
 | n+1,k+1=>by
   have h1:=x1e n k
   have h2:=x1e n (k+1)
   rw[ch,Nat.mul_add,h2,show k+1+1=(k+1)+1 from rfl,Nat.add_mul,h1,Nat.one_mul]
   rw[show ch (n+1) (k+1)=ch n k+ch n (k+1) from rfl]
   rw[Nat.mul_add,Nat.add_mul (n+1) 1,Nat.add_mul (n+1) 1]
   lia
theorem x9u{p:Nat}(hp:∀e,2<=e->e<p->p%e≠0)(k:Nat)(h1:1<=k)(h2:k<p):p∣ch p k:=by
 obtain⟨n,rfl⟩:∃n,p=n+1:=⟨p-1,by lia⟩
 obtain⟨j,rfl⟩:∃j,k=j+1:=⟨k-1,by lia⟩
 have h:=x1e n j
 have hd:(n+1)∣(j+1)*ch (n+1) (j+1):=⟨_,h⟩
 refine Nat.Coprime.dvd_of_dvd_mul_left ?_ hd
 have g1:=Nat.gcd_dvd_left (n+1) (j+1)
 have g2:=Nat.le_of_dvd (by lia) (Nat.gcd_dvd_right (n+1) (j+1))
 show Nat.gcd (n+1) (j+1)=1
 have g0:Nat.gcd (n+1) (j+1)≠0:=fun z=>by have:=(Nat.gcd_eq_zero_iff.mp z).1;lia
 by_cases g3:2<=Nat.gcd (n+1) (j+1)
 ·exact absurd (Nat.mod_eq_zero_of_dvd g1) (hp _ g3 (by lia))
 ·lia
noncomputable def sm(f:Nat->A):Nat->A
 | 0=>0
 | n+1=>sm f n+f n
theorem y8w{f g:Nat->A}:∀{n:Nat},(∀k,k<n->f k=g k)->sm f n=sm g n
 | 0,_=>rfl
 | n+1,h=>by rw[sm,sm,y8w fun k hk=>h k (by lia),h n (by lia)]
theorem w0e(f g:Nat->A):∀n:Nat,sm (fun k=>f k+g k) n=sm f n+sm g n
 | 0=>by simp only[sm];grind
 | n+1=>by rw[sm,w0e f g n,sm,sm];grind
theorem x0b(r:A)(f:Nat->A):∀n:Nat,sm (fun k=>r*f k) n=r*sm f n
 | 0=>by simp only[sm];grind
 | n+1=>by rw[sm,x0b r f n,sm];grind
theorem y2i(f:Nat->A):∀n:Nat,sm f (n+1)=f 0+sm (fun k=>f (k+1)) n
 | 0=>by simp only[sm];grind
 | n+1=>by rw[sm,y2i f n,sm];grind
theorem w6c(a b:A):∀n:Nat,(a+b)^n=sm (fun k=>nC (ch n k)*(a^k*b^(n-k))) (n+1)
 | 0=>by
   rw[Semiring.pow_zero]
   simp only[sm,ch,Nat.sub_self,Semiring.pow_zero]
   rw[w0s];grind
 | n+1=>by
   rw[Semiring.pow_succ,w6c a b n,y2i (fun k=>nC (ch (n+1) k)*(a^k*b^(n+1-k)))]
   have e1:sm (fun k=>nC (ch (n+1) (k+1))*(a^(k+1)*b^(n+1-(k+1)))) (n+1)=sm (fun k=>a*(nC (ch n k)*(a^k*b^(n-k)))+nC (ch n (k+1))*(a^(k+1)*b^(n-k))) (n+1):=by
    refine y8w fun k hk=>?_
    rw[show n+1-(k+1)=n-k by lia,show ch (n+1) (k+1)=ch n k+ch n (k+1) from rfl,w5d,Semiring.pow_succ];grind
   rw[e1,w0e,x0b]
   have e2:sm (fun k=>b*(nC (ch n k)*(a^k*b^(n-k)))) (n+1)=nC (ch (n+1) 0)*(a^0*b^(n+1-0))+sm (fun k=>nC (ch n (k+1))*(a^(k+1)*b^(n-k))) (n+1):=by
    rw[y2i,y6h,y6h,sm]
    have e3:sm (fun k=>b*(nC (ch n (k+1))*(a^(k+1)*b^(n-(k+1))))) n=sm (fun k=>nC (ch n (k+1))*(a^(k+1)*b^(n-k))) n:=by
     refine y8w fun k hk=>?_
     rw[show n-k=(n-(k+1))+1 by lia,Semiring.pow_succ b];grind
    rw[e3,y5c n (n+1) (by lia),Nat.sub_zero,Nat.sub_zero,Semiring.pow_succ b,w2v]
    grind
   rw[x0b] at e2
   grind
theorem Idl.sm(H:Idl p I){f:Nat->A}:∀{n:Nat},(∀k,k<n->I (f k))->I (L3.sm f n)
 | 0,_=>H.zero
 | n+1,h=>H.add (H.sm fun k hk=>h k (by lia)) (h n (by lia))
theorem Idl.nat(H:Idl p I){n:Nat}(h:p∣n)(a:A):I (nC n*a):=by
 obtain⟨k,rfl⟩:=h
 refine H.of (H.mul (nC k*a) H.wheel) ?_
 rw[w5c];grind
theorem Idl.frob(H:Idl p I)(hp:∀e,2<=e->e<p->p%e≠0)(p2:2<=p)(a b:A):I ((a+b)^p-(a^p+b^p)):=by
 obtain⟨n,rfl⟩:∃n,p=n+1:=⟨p-1,by lia⟩
 rw[w6c,L3.sm,y2i]
 have h:I (L3.sm (fun k=>nC (ch (n+1) (k+1))*(a^(k+1)*b^(n+1-(k+1)))) n):=H.sm fun k hk=>H.nat (x9u hp (k+1) (by lia) (by lia)) _
 refine H.of h ?_
 rw[y6h,x6v,Nat.sub_self,Nat.sub_zero,Semiring.pow_zero,Semiring.pow_zero,w0s]
 grind
theorem Idl.frobs(H:Idl p I)(hp:∀e,2<=e->e<p->p%e≠0)(p2:2<=p)(a b:A):∀j:Nat,I ((a+b)^(p^j)-(a^(p^j)+b^(p^j)))
 | 0=>H.eq (by rw[Nat.pow_zero];grind)
 | j+1=>by
   have h:=H.pow (H.frobs hp p2 a b j) p
   have h2:=H.frob hp p2 (a^(p^j)) (b^(p^j))
   rw[Nat.pow_succ,z6q,z6q,z6q]
   exact H.trans h h2
theorem Idl.frobm(H:Idl p I)(hp:∀e,2<=e->e<p->p%e≠0)(p2:2<=p)(a b:A)(j:Nat):I ((a-b)^(p^j)-(a^(p^j)-b^(p^j))):=by
 have h:=H.frobs hp p2 (a-b) b j
 rw[show a-b+b=a by grind] at h
 exact H.of (H.neg h) (by grind)
noncomputable def pev:List Int->A->A
 | [],_=>0
 | c::cs,x=>iC c+x*pev cs x
theorem x1g(c:Int):∀n:Nat,iC (A:=A) c^n=iC (c^n)
 | 0=>by rw[Semiring.pow_zero,Int.pow_zero,y4w]
 | n+1=>by rw[Semiring.pow_succ,x1g c n,Int.pow_succ,x5v]
theorem Idl.int(H:Idl p I){c:Int}(h:(p:Int)∣c):I (iC c):=by
 obtain⟨k,rfl⟩:=h
 refine H.of (H.mul (iC k) H.wheel) ?_
 rw[x5v,w5s];grind
theorem Idl.pev_frob(H:Idl p I)(hp:∀e,2<=e->e<p->p%e≠0)(p2:2<=p)(hf:∀c:Int,(p:Int)∣c^p-c)(x:A):∀cs:List Int,I ((pev cs x)^p-pev cs (x^p))
 | []=>H.eq (by
   obtain⟨n,rfl⟩:∃n,p=n+1:=⟨p-1,by lia⟩
   simp only[pev];rw[Semiring.pow_succ];grind)
 | c::cs=>by
   have h1:=H.frob hp p2 (iC c) (x*pev cs x)
   have h2:=H.pev_frob hp p2 hf x cs
   have h3:I (iC c^p-iC c):=by
    refine H.of (H.int (hf c)) ?_
    rw[w0y,x1g]
   rw[y2l] at h1
   have h4:=H.mul (x^p) h2
   show I ((iC c+x*pev cs x)^p-(iC c+x^p*pev cs (x^p)))
   exact H.of (H.add (H.add h1 h3) h4) (by grind)
theorem Idl.roots(H:Idl p I)(hp:∀e,2<=e->e<p->p%e≠0)(p2:2<=p)(hf:∀c:Int,(p:Int)∣c^p-c){x:A}{cs:List Int}(h:I (pev cs x)):∀j:Nat,I (pev cs (x^(p^j)))
 | 0=>by rw[Nat.pow_zero];exact H.of h (by congr 1;grind)
 | j+1=>by
   have h1:=H.powz (H.roots hp p2 hf h j) (n:=p) (by lia)
   have h2:=H.pev_frob hp p2 hf (x^(p^j)) cs
   rw[Nat.pow_succ,z6q]
   exact H.cong (H.symm h2) h1
noncomputable def Dv(I:A->Prop)(B a:A):Prop:=∃(n:Nat) (s:A),I (B^n-a*s)
theorem Dv.mul(H:Idl p I){B a b:A}(h:Dv I B a)(h':Dv I B b):Dv I B (a*b):=by
 obtain⟨n,s,e⟩:=h
 obtain⟨n',s',e'⟩:=h'
 refine⟨n+n',s*s',?_⟩
 rw[z5r]
 exact H.of (H.mul2 e e') (by grind)
theorem Dv.nil(H:Idl p I){B a:A}(h:Dv I B a)(ha:I a):∃n:Nat,I (B^n):=by
 obtain⟨n,s,e⟩:=h
 exact⟨n,H.cong e (H.of (H.mul s ha) (by grind))⟩
theorem geo(x:A):∀k:Nat,∃s:A,x^k-1=(x-1)*s
 | 0=>⟨0,by rw[Semiring.pow_zero];grind⟩
 | k+1=>by
   obtain⟨s,e⟩:=geo x k
   exact⟨s*x+1,by rw[Semiring.pow_succ];grind⟩
theorem z6t(H:Idl p I)(hp:∀e,2<=e->e<p->p%e≠0)(p2:2<=p)(x:A){M k:Nat}(hM:(p^k-1)∣M)(i:Nat):Dv I (x^(M+1)-x) (x^(p^(i+k))-x^(p^i)):=by
 obtain⟨c,rfl⟩:=hM
 obtain⟨s,e⟩:=geo (x^(p^k-1)) c
 have e1:x^((p^k-1)*c+1)-x=(x^(p^k)-x)*s:=by
  have hk:p^k=(p^k-1)+1:=by have:=Nat.pow_pos (n:=k) (show 0<p by lia);lia
  rw[Semiring.pow_succ,z6q]
  conv=>rhs;rw[hk,Semiring.pow_succ]
  grind
 refine⟨p^i,s^(p^i),?_⟩
 rw[e1,y2l]
 have h:=H.frobm hp p2 (x^(p^k)) x i
 rw[<-z6q,<-Nat.pow_add,Nat.add_comm k i] at h
 exact H.of (H.mul (s^(p^i)) h) (by grind)
end
section
variable {A:Type}[CommRing A]{p:Nat}{I:A->Prop}
theorem Idl.sm_one(H:Idl p I){f:Nat->A}{i:Nat}:∀{n:Nat},i<n->(∀k,k<n->k≠i->I (f k))->I (L3.sm f n-f i)
 | 0,hi,_=>absurd hi (Nat.not_lt_zero _)
 | n+1,hi,h=>by
   by_cases e:i=n
   ·subst e
    have hs:I (L3.sm f i):=H.sm fun k hk=>h k (by lia) (by lia)
    refine H.of hs ?_
    rw[L3.sm];grind
   ·refine H.of (H.add (H.sm_one (n:=n) (by lia) fun k hk ne=>h k (by lia) ne) (h n (by lia) (fun z=>e z.symm))) ?_
    rw[L3.sm];grind
theorem x5k{e:Nat->Int}{q:Int}:∀i:Nat,¬q∣e i->∃j,j<=i/\¬q∣e j/\∀k,k<j->q∣e k:=by
 intro i
 induction i using Nat.strongRecOn with
 | ind i ih =>
   intro h
   by_cases z:∃k,k<i/\¬q∣e k
   ·obtain⟨k,k1,k2⟩:=z
    obtain⟨j,j1,j2,j3⟩:=ih k k1 k2
    exact⟨j,by lia,j2,j3⟩
   ·exact⟨i,Nat.le_refl _,h,fun k hk=>Classical.byContradiction fun w=>z ⟨k,hk,w⟩⟩
theorem Idl.drop_one(H:Idl p I){d:Nat}(hd:∀F:Nat->A,∃e:Nat->Int,(∃i,i<=d/\¬(p:Int)∣e i)/\I (L3.sm (fun i=>iC (e i)*F i) (d+1)))(hu:∀c:Int,¬(p:Int)∣c->∃u:Int,(p:Int)∣u*c-1){B:A}{j:Nat}(h:I (B^(d+j+1))):I (B^(d+j)):=by
 obtain⟨e,⟨i',hi',ne⟩,hs⟩:=hd fun i=>B^(j+i)
 obtain⟨i,i1,i2,i3⟩:=x5k i' ne
 have h1:=H.mul (B^(d-i)) hs
 rw[<-x0b] at h1
 have h2:I (L3.sm (fun k=>B^(d-i)*(iC (e k)*B^(j+k))) (d+1)-B^(d-i)*(iC (e i)*B^(j+i))):=H.sm_one (by lia) fun k hk nk=>by
  rcases Nat.lt_or_ge k i with z | z
  ·exact H.mul _ (H.of (H.mul (B^(j+k)) (H.int (i3 k z))) (by grind))
  ·have z2:d-i+(j+k)=d+j+1+(k-i-1):=by lia
   refine H.of (H.mul (iC (e k)*B^(k-i-1)) h) ?_
   have:B^(d-i)*B^(j+k)=B^(d+j+1)*B^(k-i-1):=by rw[<-z5r,<-z5r,z2]
   grind
 have h3:=H.sub h1 h2
 have e1:B^(d-i)*B^(j+i)=B^(d+j):=by rw[<-z5r,show d-i+(j+i)=d+j by lia]
 obtain⟨u,hu⟩:=hu _ i2
 have h4:=H.int hu
 rw[w0y,x5v,y4w] at h4
 have h5:=H.mul (iC u) h3
 have h6:=H.mul (B^(d+j)) h4
 refine H.of (H.sub h5 h6) ?_
 rw[<-e1];grind
theorem Idl.less(H:Idl p I){d:Nat}(hd:∀F:Nat->A,∃e:Nat->Int,(∃i,i<=d/\¬(p:Int)∣e i)/\I (L3.sm (fun i=>iC (e i)*F i) (d+1)))(hu:∀c:Int,¬(p:Int)∣c->∃u:Int,(p:Int)∣u*c-1){B:A}:∀K:Nat,I (B^(d+K))->I (B^d)
 | 0,h=>h
 | K+1,h=>H.less hd hu K (H.drop_one hd hu h)
theorem Idl.less'(H:Idl p I){d:Nat}(hd:∀F:Nat->A,∃e:Nat->Int,(∃i,i<=d/\¬(p:Int)∣e i)/\I (L3.sm (fun i=>iC (e i)*F i) (d+1)))(hu:∀c:Int,¬(p:Int)∣c->∃u:Int,(p:Int)∣u*c-1){B:A}{n:Nat}(h:I (B^n)):I (B^d) :=
 H.less hd hu n (by rw[z5r];exact H.mul _ h)
theorem y9g(x:A):pev [1] x=1:=by simp only[pev,y4w];grind
theorem y9f(a:Int)(x:A):pev [a,1] x=iC a+x:=by simp only[pev,y4w];grind
theorem y2v(a b:Int)(x:A):pev [a,b,1] x=iC a+iC b*x+x^2:=by simp only[pev,y4w];grind
theorem y5t(a b c:Int)(x:A):pev [a,b,c,1] x=iC a+iC b*x+iC c*x^2+x^3:=by simp only[pev,y4w];grind
theorem w2u(H:Idl p I)(hp:∀e,2<=e->e<p->p%e≠0)(p2:2<=p)(hf:∀c:Int,(p:Int)∣c^p-c){x:A}{M:Nat}:∀(cs:List Int),cs.length<=3->(∀k,1<=k->k<=cs.length->(p^k-1)∣M)->I (pev (cs++[1]) x)->∃n:Nat,I ((x^(M+1)-x)^n)
 | [],_,_,h=>by
   refine⟨0,?_⟩
   rw[Semiring.pow_zero]
   exact H.of h (y9g x)
 | [a],_,hM,h=>by
   have r0:=H.roots hp p2 hf h 0
   have r1:=H.roots hp p2 hf h 1
   rw[show[a]++[1]=[a,1] from rfl,y9f] at r0 r1
   refine(z6t H hp p2 x (hM 1 (by lia) (Nat.le_refl _)) 0).nil H ?_
   exact H.of (H.sub r1 r0) (by grind)
 | [a,b],_,hM,h=>by
   have r0:=H.roots hp p2 hf h 0
   have r1:=H.roots hp p2 hf h 1
   have r2:=H.roots hp p2 hf h 2
   rw[show[a,b]++[1]=[a,b,1] from rfl,y2v] at r0 r1 r2
   have d1:=z6t H hp p2 x (hM 1 (by lia) (by simp)) 0
   have d2:=z6t H hp p2 x (hM 1 (by lia) (by simp)) 1
   have d3:=z6t H hp p2 x (hM 2 (by lia) (by simp)) 0
   refine((d1.mul H d2).mul H d3).nil H ?_
   simp only[Nat.zero_add,Nat.reduceAdd] at *
   generalize x^p^0=y0 at *
   generalize x^p^1=y1 at *
   generalize x^p^2=y2 at *
   exact H.of (H.sub (H.mul (y1-y0) (H.sub r2 r0)) (H.mul (y2-y0) (H.sub r1 r0))) (by grind)
 | [a,b,c],_,hM,h=>by
   have r0:=H.roots hp p2 hf h 0
   have r1:=H.roots hp p2 hf h 1
   have r2:=H.roots hp p2 hf h 2
   have r3:=H.roots hp p2 hf h 3
   rw[show[a,b,c]++[1]=[a,b,c,1] from rfl,y5t] at r0 r1 r2 r3
   have d1:=z6t H hp p2 x (hM 1 (by lia) (by simp)) 0
   have d2:=z6t H hp p2 x (hM 1 (by lia) (by simp)) 1
   have d3:=z6t H hp p2 x (hM 1 (by lia) (by simp)) 2
   have d4:=z6t H hp p2 x (hM 2 (by lia) (by simp)) 0
   have d5:=z6t H hp p2 x (hM 2 (by lia) (by simp)) 1
   have d6:=z6t H hp p2 x (hM 3 (by lia) (by simp)) 0
   refine((((((d1.mul H d2).mul H d3).mul H d4).mul H d5).mul H d6)).nil H ?_
   simp only[Nat.zero_add,Nat.reduceAdd] at *
   generalize x^p^0=y0 at *
   generalize x^p^1=y1 at *
   generalize x^p^2=y2 at *
   generalize x^p^3=y3 at *
   clear d1 d2 d3 d4 d5 d6 h
   exact H.of (H.sub (H.add (H.sub (H.mul ((y1-y0)*(y2-y0)*(y2-y1)) r3) (H.mul ((y1-y0)*(y3-y0)*(y3-y1)) r2)) (H.mul ((y2-y0)*(y3-y0)*(y3-y2)) r1)) (H.mul ((y2-y1)*(y3-y1)*(y3-y2)) r0)) (by grind)
 | _::_::_::_::_,h,_,_=>by simp at h
end
inductive Poly:((Nat->Int)->Nat->Int)->Prop
 | cst (c:Int):Poly (fun a n=>c*a n)
 | sh:Poly (fun a n=>a (n+1))
 | add {F G:(Nat->Int)->Nat->Int}:Poly F->Poly G->Poly (fun a n=>F a n+G a n)
 | comp {F G:(Nat->Int)->Nat->Int}:Poly F->Poly G->Poly (fun a=>F (G a))
theorem Poly.plus{F:(Nat->Int)->Nat->Int}(h:Poly F):∀a b:Nat->Int,F (fun n=>a n+b n)=fun n=>F a n+F b n:=by
 induction h with
 | cst c=>intro a b;funext n;exact Int.mul_add _ _ _
 | sh=>intro a b;rfl
 | add _ _ h1 h2=>intro a b;funext n;dsimp only;rw[h1,h2];dsimp only;lia
 | comp _ _ h1 h2=>intro a b;dsimp only;rw[h2,h1]
theorem Poly.times{F:(Nat->Int)->Nat->Int}(h:Poly F):∀(c:Int) (a:Nat->Int),F (fun n=>c*a n)=fun n=>c*F a n:=by
 induction h with
 | cst d=>intro c a;funext n;dsimp only;rw[<-Int.mul_assoc,<-Int.mul_assoc,Int.mul_comm d c]
 | sh=>intro c a;rfl
 | add _ _ h1 h2=>intro c a;funext n;dsimp only;rw[h1,h2,Int.mul_add]
 | comp _ _ h1 h2=>intro c a;dsimp only;rw[h2,h1]
theorem Poly.shift{F:(Nat->Int)->Nat->Int}(h:Poly F):∀a:Nat->Int,F (fun n=>a (n+1))=fun n=>F a (n+1):=by
 induction h with
 | cst d=>intro a;rfl
 | sh=>intro a;rfl
 | add _ _ h1 h2=>intro a;funext n;dsimp only;rw[h1,h2]
 | comp _ _ h1 h2=>intro a;dsimp only;rw[h2,h1]
theorem Poly.comm{F G:(Nat->Int)->Nat->Int}(h:Poly F)(g:Poly G):∀a:Nat->Int,F (G a)=G (F a):=by
 induction h with
 | cst d=>intro a;exact(g.times d a).symm
 | sh=>intro a;exact(g.shift a).symm
 | add _ _ h1 h2=>intro a;dsimp only;rw[h1,h2];exact(g.plus _ _).symm
 | comp _ _ h1 h2=>intro a;dsimp only;rw[h2,h1]
theorem Poly.cong{P:Int}{F:(Nat->Int)->Nat->Int}(h:Poly F):∀a b:Nat->Int,(∀n,cg P (a n) (b n))->∀n,cg P (F a n) (F b n):=by
 induction h with
 | cst d=>intro a b e n;exact(cg.refl).mul (e n)
 | sh=>intro a b e n;exact e (n+1)
 | add _ _ h1 h2=>intro a b e n;exact(h1 a b e n).add (h2 a b e n)
 | comp _ _ h1 h2=>intro a b e n;exact h1 _ _ (h2 a b e) n
noncomputable def Op:Type:={ F:(Nat->Int)->Nat->Int // Poly F }
namespace Op
theorem ext{a b:Op}(h:∀s n,a.1 s n=b.1 s n):a=b:=Subtype.ext (funext fun s=>funext fun n=>h s n)
noncomputable def cst(c:Int):Op:=⟨_,.cst c⟩
noncomputable def add(a b:Op):Op:=⟨_,a.2.add b.2⟩
noncomputable def mul(a b:Op):Op:=⟨_,a.2.comp b.2⟩
noncomputable def pow(a:Op):Nat->Op
 | 0=>cst 1
 | n+1=>mul (pow a n) a
noncomputable def X:Op:=⟨_,.sh⟩
end Op
noncomputable instance:CommRing Op where
 add:=Op.add
 mul:=Op.mul
 natCast:=⟨fun n=>Op.cst n⟩
 ofNat:=fun n=>⟨Op.cst n⟩
 nsmul:=⟨fun n a=>Op.mul (Op.cst n) a⟩
 npow:=⟨Op.pow⟩
 add_zero a:=Op.ext fun s n=>by show a.1 s n+(0:Nat)*s n=_;simp
 add_comm a b:=Op.ext fun s n=>Int.add_comm _ _
 add_assoc a b c:=Op.ext fun s n=>Int.add_assoc _ _ _
 mul_assoc a b c:=rfl
 mul_one a:=Op.ext fun s n=>by show a.1 (fun n=>(1:Nat)*s n) n=_;simp
 one_mul a:=Op.ext fun s n=>by show(1:Nat)*a.1 s n=_;simp
 left_distrib a b c:=Op.ext fun s n=>congrFun (a.2.plus _ _) n
 right_distrib a b c:=rfl
 zero_mul a:=Op.ext fun s n=>by show(0:Nat)*a.1 s n=(0:Nat)*s n;simp
 mul_zero a:=Op.ext fun s n=>by
  have:=congrFun (a.2.times 0 s) n
  show a.1 (fun n=>(0:Nat)*s n) n=(0:Nat)*s n
  simpa using this
 pow_zero a:=rfl
 pow_succ a n:=rfl
 ofNat_succ n:=Op.ext fun s k=>by show((n+1:Nat):Int)*s k=(n:Int)*s k+(1:Nat)*s k;rw[Int.natCast_add,Int.add_mul]
 ofNat_eq_natCast n:=rfl
 nsmul_eq_natCast_mul n a:=rfl
 neg:=fun a=>Op.mul (Op.cst (-1)) a
 sub:=fun a b=>Op.add a (Op.mul (Op.cst (-1)) b)
 intCast:=⟨Op.cst⟩
 zsmul:=⟨fun n a=>Op.mul (Op.cst n) a⟩
 neg_add_cancel a:=Op.ext fun s n=>by show(-1)*a.1 s n+a.1 s n=(0:Nat)*s n;simp;lia
 sub_eq_add_neg a b:=rfl
 neg_zsmul i a:=Op.ext fun s n=>by show(-i)*a.1 s n=(-1)*(i*a.1 s n);rw[Int.neg_mul,Int.neg_mul,Int.one_mul]
 zsmul_natCast_eq_nsmul n a:=rfl
 intCast_ofNat n:=rfl
 intCast_neg i:=Op.ext fun s n=>by show(-i)*s n=(-1)*(i*s n);rw[Int.neg_mul,Int.neg_mul,Int.one_mul]
 mul_comm a b:=Op.ext fun s n=>congrFun (a.2.comm b.2 s) n
noncomputable def Kill(P:Int)(s:Nat->Int)(a:Op):Prop:=∀n,cg P (a.1 s n) 0
theorem z4i(a b:Op)(s:Nat->Int)(n:Nat):(a+b).1 s n=a.1 s n+b.1 s n:=rfl
theorem z4a(a b:Op)(s:Nat->Int):(a*b).1 s=a.1 (b.1 s):=rfl
theorem y1b(a b:Op)(s:Nat->Int)(n:Nat):(a-b).1 s n=a.1 s n-b.1 s n:=by
 show a.1 s n+(-1)*b.1 s n=_;lia
theorem z8j(s:Nat->Int)(n:Nat):(1:Op).1 s n=s n:=by show((1:Nat):Int)*s n=_;simp
theorem x0k(s:Nat->Int)(n:Nat):(0:Op).1 s n=0:=by show((0:Nat):Int)*s n=_;simp
theorem z5m(c:Int)(s:Nat->Int)(n:Nat):(iC c:Op).1 s n=c*s n:=rfl
theorem y1z(s:Nat->Int)(n:Nat):Op.X.1 s n=s (n+1):=rfl
theorem z5s(s:Nat->Int):∀(k n:Nat),(Op.X^k).1 s n=s (n+k)
 | 0,n=>by rw[Semiring.pow_zero];exact z8j s n
 | k+1,n=>by
   rw[Semiring.pow_succ,z4a,z5s _ k n,y1z,Nat.add_assoc]
theorem y6b{P:Int}{p:Nat}(e:P=p)(s:Nat->Int):Idl p (Kill P s) where
 zero n:=by rw[x0k];exact cg.refl
 add {a b} h h' n:=by rw[z4i];exact(h n).add (h' n)
 mul {a} r h n:=by
  rw[z4a]
  have:=r.2.cong (P:=P) (a.1 s) (fun _=>0) h n
  refine this.trans ?_
  have q:=congrFun (r.2.times 0 (fun _=>0)) n
  simp only[Int.zero_mul] at q
  rw[q];exact cg.refl
 wheel n:=by
  show cg P ((p:Int)*s n) 0
  unfold cg;rw[e,Int.mul_emod_right,Int.zero_emod]
noncomputable def skq(i0 i:Nat):Nat:=if i<i0 then i else i+1
noncomputable def unq(i0 j:Nat):Nat:=if j<i0 then j else j-1
theorem x3h(i0 i:Nat):unq i0 (skq i0 i)=i:=by
 unfold unq skq
 by_cases h:i<i0
 ·rw[if_pos h,if_pos h]
 ·rw[if_neg h,if_neg (by lia)];lia
theorem w0f(i0 i:Nat):skq i0 i≠i0:=by unfold skq;split<;>lia
theorem x0a(f:Nat->Int):∀{n i0:Nat},i0<=n->sumN f (n+1)=f i0+sumN (fun i=>f (skq i0 i)) n
 | 0,i0,h=>by
   have:i0=0:=by lia
   subst this
   simp only[sumN];lia
 | n+1,i0,h=>by
   by_cases e:i0=n+1
   ·subst e
    rw[z0t,Int.add_comm]
    congr 1
    refine z0m fun k hk=>?_
    unfold skq;rw[if_pos hk]
   ·rw[z0t,x0a f (n:=n) (i0:=i0) (by lia),z0t,Int.add_assoc]
    congr 2
    unfold skq;rw[if_neg (by lia)]
theorem z7i{P a b:Int}:cg P a b↔P∣a-b:=by
 rw[w1f]
 exact⟨Int.dvd_of_emod_eq_zero,Int.emod_eq_zero_of_dvd⟩
theorem dep{P:Int}(hu:∀a:Int,¬cg P a 0->∃b:Int,cg P (b*a) 1)(hp:1<P):∀(d:Nat) (v:Nat->Nat->Int),∃e:Nat->Int,(∃i,i<=d/\¬cg P (e i) 0)/\∀k,k<d->cg P (sumN (fun i=>e i*v i k) (d+1)) 0
 | 0,v=>⟨fun _=>1,⟨0,Nat.le_refl _,y5v hp⟩,fun k hk=>absurd hk (Nat.not_lt_zero _)⟩
 | d+1,v=>by
   by_cases z:∃i,i<=d+1/\¬cg P (v i d) 0
   ·obtain⟨i0,h0,hn⟩:=z
    obtain⟨b,hb⟩:=hu _ hn
    obtain⟨e,⟨i,hi,ne⟩,he⟩:=dep hu hp d fun i k=>v (skq i0 i) k-(v (skq i0 i) d*b)*v i0 k
    refine⟨fun j=>if j=i0 then-sumN (fun i=>e i*(v (skq i0 i) d*b)) (d+1) else e (unq i0 j),⟨skq i0 i,by unfold skq;split<;>lia,by dsimp only;rw[if_neg (w0f i0 i),x3h];exact ne⟩,fun k hk=>?_⟩
    rw[x0a _ h0]
    dsimp only
    rw[if_pos rfl]
    have e0:sumN (fun i=>(if skq i0 i=i0 then-sumN (fun i=>e i*(v (skq i0 i) d*b)) (d+1) else e (unq i0 (skq i0 i)))*v (skq i0 i) k) (d+1)=sumN (fun i=>e i*v (skq i0 i) k) (d+1):=z0m fun i _=>by rw[if_neg (w0f i0 i),x3h]
    rw[e0]
    have e1:sumN (fun i=>e i*v (skq i0 i) k) (d+1)=sumN (fun i=>e i*(v (skq i0 i) k-(v (skq i0 i) d*b)*v i0 k)) (d+1)+sumN (fun i=>e i*(v (skq i0 i) d*b)) (d+1)*v i0 k:=by
     have:∀n,sumN (fun i=>e i*v (skq i0 i) k) n=sumN (fun i=>e i*(v (skq i0 i) k-(v (skq i0 i) d*b)*v i0 k)) n+sumN (fun i=>e i*(v (skq i0 i) d*b)) n*v i0 k:=by
      intro n
      induction n with
      | zero=>simp[sumN]
      | succ n ih=>rw[z0t,z0t,z0t,ih];grind
     exact this _
    rw[e1]
    have e2:cg P (sumN (fun i=>e i*(v (skq i0 i) k-(v (skq i0 i) d*b)*v i0 k)) (d+1)) 0:=by
     rcases Nat.lt_or_ge k d with w | w
     ·exact he k w
     ·have:k=d:=by lia
      subst this
      refine(cg.sumN (g:=fun _=>0) fun i _=>?_).trans (cg.of_eq (by have:∀n,sumN (fun _=>0) n=0:=fun n=>by induction n with | zero=>rfl | succ n ih=>rw[z0t,ih];rfl
                                                                    exact this _))
      rw[z7i] at hb ⊢
      obtain⟨t,ht⟩:=hb
      exact⟨- (e i*v (skq i0 i) k*t),by grind⟩
    refine(cg.of_eq ?_).trans e2
    generalize sumN (fun i=>e i*(v (skq i0 i) d*b)) (d+1)=q1
    generalize sumN (fun i=>e i*(v (skq i0 i) k-(v (skq i0 i) d*b)*v i0 k)) (d+1)=q2
    rw[Int.neg_mul];lia
   ·obtain⟨e,⟨i,hi,ne⟩,he⟩:=dep hu hp d v
    refine⟨fun j=>if j<=d then e j else 0,⟨i,by lia,by dsimp only;rw[if_pos hi];exact ne⟩,fun k hk=>?_⟩
    rw[z0t]
    dsimp only
    have e0:sumN (fun i=>(if i<=d then e i else 0)*v i k) (d+1)=sumN (fun i=>e i*v i k) (d+1):=z0m fun i hi=>by rw[if_pos (by lia)]
    rw[if_neg (by lia),Int.zero_mul,Int.add_zero,e0]
    rcases Nat.lt_or_ge k d with w | w
    ·exact he k w
    ·have:k=d:=by lia
     subst this
     refine(cg.sumN (g:=fun _=>0) fun i hi=>?_).trans (cg.of_eq (by have:∀n,sumN (fun _=>0) n=0:=fun n=>by induction n with | zero=>rfl | succ n ih=>rw[z0t,ih];rfl
                                                                    exact this _))
     have:cg P (v i k) 0:=Classical.byContradiction fun w=>z ⟨i,by lia,w⟩
     have:=(cg.refl (P:=P) (a:=e i)).mul this
     rwa [Int.mul_zero] at this
theorem w0q(F:Nat->Op)(s:Nat->Int)(n:Nat):∀k:Nat,(sm F k).1 s n=sumN (fun i=>(F i).1 s n) k
 | 0=>x0k s n
 | k+1=>by rw[sm,z4i,w0q F s n k,z0t]
theorem x7z{P:Int}{cs:List Int}{s:Nat->Int}(h:Kill P s (pev (cs++[1]) Op.X))(hl:cs.length<=3)(h0:∀k,k<cs.length->cg P (s k) 0):∀n,cg P (s n) 0:=by
 have key:∀n,(∀k,k<cs.length->cg P (s (n+k)) 0)->cg P (s (n+cs.length)) 0:=by
  intro n hn
  have hk:=h n
  match cs,hl,hk,hn with
  | [],_,hk,_=>rw[show([]:List Int)++[1]=[1] from rfl,y9g,z8j] at hk;exact hk
  | [a],_,hk,hn =>
    rw[show[a]++[1]=[a,1] from rfl,y9f,z4i,z5m,y1z] at hk
    have:=hn 0 (by simp)
    rw[z7i] at *
    obtain⟨t,ht⟩:=hk
    obtain⟨u,hu⟩:=this
    exact⟨t-a*u,by show s (n+1)-0=_;rw[Nat.add_zero] at hu;grind⟩
  | [a,b],_,hk,hn =>
    rw[show[a,b]++[1]=[a,b,1] from rfl,y2v,z4i,z4i,z5m,z4a,z5m,y1z,z5s] at hk
    have h1:=hn 0 (by simp)
    have h2:=hn 1 (by simp)
    rw[z7i] at *
    obtain⟨t,ht⟩:=hk
    obtain⟨u,hu⟩:=h1
    obtain⟨w,hw⟩:=h2
    exact⟨t-a*u-b*w,by show s (n+2)-0=_;rw[Nat.add_zero] at hu;grind⟩
  | [a,b,c],_,hk,hn =>
    rw[show[a,b,c]++[1]=[a,b,c,1] from rfl,y5t,z4i,z4i,z4i,z5m,z4a,z5m,y1z,z4a,z5m,z5s,z5s] at hk
    have h1:=hn 0 (by simp)
    have h2:=hn 1 (by simp)
    have h3:=hn 2 (by simp)
    rw[z7i] at *
    obtain⟨t,ht⟩:=hk
    obtain⟨u,hu⟩:=h1
    obtain⟨w,hw⟩:=h2
    obtain⟨y,hy⟩:=h3
    exact⟨t-a*u-b*w-c*y,by show s (n+3)-0=_;rw[Nat.add_zero] at hu;grind⟩
  | _::_::_::_::_,hl,_,_=>simp at hl
 have all:∀n k,k<=cs.length->cg P (s (n+k)) 0:=by
  intro n
  induction n with
  | zero =>
    intro k hk
    rcases Nat.lt_or_ge k cs.length with z | z
    ·rw[Nat.zero_add];exact h0 k z
    ·have:k=cs.length:=by lia
     rw[this];exact key 0 fun k hk=>by rw[Nat.zero_add];exact h0 k hk
  | succ n ih =>
    intro k hk
    rcases Nat.lt_or_ge k cs.length with z | z
    ·rw[show n+1+k=n+(k+1) by lia];exact ih (k+1) (by lia)
    ·have:k=cs.length:=by lia
     rw[this]
     exact key (n+1) fun k hk=>by rw[show n+1+k=n+(k+1) by lia];exact ih (k+1) (by lia)
 exact fun n=>all n 0 (Nat.zero_le _)
section
variable {P:Int}{p:Nat}
theorem x8t(e:P=p)(hu:∀a:Int,¬cg P a 0->∃b:Int,cg P (b*a) 1)(hp:1<P){cs:List Int}{s:Nat->Int}(hl:cs.length<=3)(h:Kill P s (pev (cs++[1]) Op.X))(F:Nat->Op):∃e:Nat->Int,(∃i,i<=cs.length/\¬(p:Int)∣e i)/\Kill P s (sm (fun i=>iC (e i)*F i) (cs.length+1)):=by
 obtain⟨c,⟨i,hi,ne⟩,hc⟩:=dep hu hp cs.length fun i k=>(F i).1 s k
 refine⟨c,⟨i,hi,fun z=>ne (z7i.mpr (by rw[Int.sub_zero,e];exact z))⟩,?_⟩
 have H:=y6b e s
 refine x7z (s:=(sm (fun i=>iC (c i)*F i) (cs.length+1)).1 s) (fun n=>?_) hl fun k hk=>?_
 ·have:=H.mul (sm (fun i=>iC (c i)*F i) (cs.length+1)) h n
  rw[CommSemiring.mul_comm,z4a] at this
  exact this
 ·rw[w0q]
  exact hc k hk
theorem x7y(e:P=p)(hD:z1x P=false)(p1:3<=P)(p2:P<=9973){cs:List Int}{a:Nat->Int}(hl:cs.length<=3)(h:Kill P a (pev (cs++[1]) Op.X*(Op.X-1))){M j:Nat}(hM:∀k,1<=k->k<=cs.length->(p^k-1)∣M)(hj:cs.length+1<=p^j):∀n,cg P (a (n+cs.length+M*p^j)) (a (n+cs.length)):=by
 have hp:∀e,2<=e->e<p->p%e≠0:=fun d d1 d2 z=>by
  have h1:z1x P=true:=by
   by_cases w:d<100
   ·exact(y1h _).mpr ⟨d,by lia,by lia,by lia,by rw[e];exact_mod_cast z⟩
   ·have hd:p=d*(p/d):=by have:=Nat.div_add_mod p d;lia
    have q0:0<p/d:=Nat.div_pos (by lia) (by lia)
    have q1:p/d<100:=by
     rcases Nat.lt_or_ge (p/d) 100 with y | y
     ·exact y
     ·have:100*100<=d*(p/d):=Nat.mul_le_mul (by lia) y
      lia
    have q2:p/d≠1:=fun y=>by rw[y] at hd;lia
    have q3:p%(p/d)=0:=by
     have:p%(p/d)=(d*(p/d))%(p/d):=by rw[<-hd]
     rw[this];exact Nat.mul_mod_left _ _
    have q4:2*(p/d)<=d*(p/d):=Nat.mul_le_mul_right _ d1
    exact(y1h _).mpr ⟨((p/d:Nat):Int),by lia,by lia,by lia,by rw[e];exact_mod_cast q3⟩
  rw[hD] at h1;cases h1
 have p2':2<=p:=by lia
 have hu:∀a:Int,¬cg P a 0->∃b:Int,cg P (b*a) 1:=fun a ha=>y5f hD p1 p2 fun z=>ha (by unfold cg;rw[z,Int.zero_emod])
 have hf:∀c:Int,(p:Int)∣c^p-c:=fun c=>by
  rw[<-e,<-z7i]
  by_cases z:c%P=0
  ·have z':cg P c 0:=by unfold cg;rw[z,Int.zero_emod]
   refine cg.trans ?_ z'.symm
   obtain⟨n,rfl⟩:∃n,p=n+1:=⟨p-1,by lia⟩
   rw[Int.pow_succ]
   have:=(cg.refl (P:=P) (a:=c^n)).mul z'
   rwa [Int.mul_zero] at this
  ·have:=(w5x hD p1 p2 z).mul (cg.refl (P:=P) (a:=c))
   rw[<-Int.pow_succ,show(P-1).toNat.succ=p by lia,Int.one_mul] at this
   exact this
 have hu':∀c:Int,¬(p:Int)∣c->∃u:Int,(p:Int)∣u*c-1:=fun c hc=>by
  obtain⟨b,hb⟩:=hu c fun z=>hc (by rw[z7i,Int.sub_zero,e] at z;exact z)
  exact⟨b,by rw[z7i,e] at hb;exact hb⟩
 have hb:Kill P ((Op.X-1).1 a) (pev (cs++[1]) Op.X):=fun n=>by rw[<-z4a];exact h n
 have Hb:=y6b e ((Op.X-1).1 a)
 have H:=y6b e a
 obtain⟨N,hN⟩:=w2u Hb hp p2' hf cs hl hM hb
 have h1:=Hb.less' (x8t e hu (by lia) hl hb) hu' hN
 have h2:Kill P a ((Op.X^(M+1)-Op.X)^cs.length*(Op.X-1)):=fun n=>by rw[z4a];exact h1 n
 obtain⟨S,hS⟩:=geo Op.X M
 have e1:Op.X^(M+1)-Op.X=Op.X*(Op.X^M-1):=by rw[Semiring.pow_succ];grind
 rw[e1,y2l] at h2
 have h3:Kill P a (Op.X^cs.length*(Op.X^M-1)^(cs.length+1)):=by
  refine H.of (H.mul S h2) ?_
  rw[Semiring.pow_succ,hS];grind
 have h4:Kill P a (Op.X^cs.length*(Op.X^M-1)^(p^j)):=by
  obtain⟨r,hr⟩:∃r,p^j=cs.length+1+r:=⟨p^j-(cs.length+1),by lia⟩
  rw[hr,z5r]
  exact H.of (H.mul ((Op.X^M-1)^r) h3) (by grind)
 have h5:=H.frobm hp p2' (Op.X^M) 1 j
 rw[x0l,<-z6q] at h5
 have h6:=H.sub h4 (H.mul (Op.X^cs.length) h5)
 have h7:Kill P a (Op.X^(cs.length+M*p^j)-Op.X^cs.length):=by
  refine H.of h6 ?_
  rw[z5r];grind
 intro n
 have:=h7 n
 rw[y1b,z5s,z5s] at this
 have q:=this.add (cg.refl (P:=P) (a:=a (n+cs.length)))
 rw[show n+cs.length+M*p^j=n+(cs.length+M*p^j) by lia]
 exact(cg.of_eq (by lia)).trans (q.trans (cg.of_eq (by lia)))
end
theorem x0u{P:Int}{e:Nat->Int}:∀(n i:Nat),i<=n->¬cg P (e i) 0->∃k,k<=n/\¬cg P (e k) 0/\∀j,k<j->j<=n->cg P (e j) 0
 | 0,i,h,ne=>⟨0,Nat.le_refl _,by rwa [show i=0 by lia] at ne,fun j a b=>by lia⟩
 | n+1,i,h,ne=>by
   by_cases z:cg P (e (n+1)) 0
   ·have hi:i<=n:=by
     rcases Nat.lt_or_ge i (n+1) with w | w
     ·lia
     ·exact absurd z (by rwa [show i=n+1 by lia] at ne)
    obtain⟨k,k1,k2,k3⟩:=x0u n i hi ne
    refine⟨k,by lia,k2,fun j a b=>?_⟩
    by_cases w:j=n+1
    ·rw[w];exact z
    ·exact k3 j a (by lia)
   ·exact⟨n+1,Nat.le_refl _,z,fun j a b=>by lia⟩
theorem sumN_L{P:Int}{f:Nat->Int}{k:Nat}:∀n:Nat,k<=n->(∀j,k<=j->j<n->cg P (f j) 0)->cg P (sumN f n) (sumN f k)
 | 0,h,_=>cg.of_eq (by rw[show k=0 by lia])
 | n+1,h,q=>by
   by_cases e:k=n+1
   ·rw[e];exact cg.refl
   ·have h1:=(sumN_L n (by lia) fun j a b=>q j a (by lia)).add (q n (by lia) (by lia))
    rw[Int.add_zero] at h1
    exact h1
theorem x0s{P:Int}(t:List (List Int))(m:Nat)(w:Nat->Int)(v:Nat->Nat->Int)(i:Nat):∀k,cg P (z9n t m (fun c=>sumN (fun j=>w j*v j c) k) i) (sumN (fun j=>w j*z9n t m (v j) i) k)
 | 0=>x5g t m (fun _=>cg.refl) i
 | k+1=>by
   have h:=x8q t m (fun c=>sumN (fun j=>w j*v j c) k) (v k) (w k) i
   show cg P (z9n t m (fun c=>sumN (fun j=>w j*v j c) k+w k*v k c) i) (sumN (fun j=>w j*z9n t m (v j) i) k+w k*z9n t m (v k) i)
   rw[h]
   exact(x0s t m w v i k).add cg.refl
section
variable {P:Int}{p m:Nat}{t:List (List Int)}{s:List Int}
theorem x1r(hD:z1x P=false)(p1:3<=P)(p2:P<=9973)(ht:z1q P m t)(hs:s.length=m):∃(k:Nat) (w:Nat->Int),1<=k/\k<=m+1/\∀n i,cg P (vec (augZ (stZ P m t s (n+k))) i) (sumN (fun j=>w j*vec (augZ (stZ P m t s (n+j))) i) k):=by
 have hp:1<P:=by lia
 have hu:∀a:Int,¬cg P a 0->∃b:Int,cg P (b*a) 1:=fun a ha=>y5f hD p1 p2 fun z=>ha (by unfold cg;rw[z,Int.zero_emod])
 obtain⟨e,⟨i,hi,ne⟩,he⟩:=dep hu hp (m+1) fun i c=>vec (augZ (stZ P m t s i)) c
 obtain⟨k,k1,k2,k3⟩:=x0u (m+1) i hi ne
 obtain⟨b,hb⟩:=hu _ k2
 have out:∀j c,¬c<m+1->vec (augZ (stZ P m t s j)) c=0:=fun j c hc=>by
  rw[z8z (z1g hp ht j),if_neg (by lia),if_neg (by lia)]
 have base:∀c,cg P (sumN (fun j=>e j*vec (augZ (stZ P m t s j)) c) (k+1)) 0:=fun c=>by
  by_cases hc:c<m+1
  ·refine(sumN_L (m+1+1) (by lia) fun j a b=>?_).symm.trans (he c hc)
   have:=(k3 j (by lia) (by lia)).mul (cg.refl (P:=P) (a:=vec (augZ (stZ P m t s j)) c))
   rwa [Int.zero_mul] at this
  ·refine cg.of_eq (z5y fun j _=>?_)
   rw[out j c hc,Int.mul_zero]
 have hk:1<=k:=by
  rcases Nat.lt_or_ge 0 k with z | z
  ·exact z
  ·exfalso
   have:=base m
   rw[show k=0 by lia] at this k2
   rw[z0t,y6p,z8z (z1g hp ht 0),if_neg (Nat.lt_irrefl m),if_pos rfl,Int.zero_add,Int.mul_one] at this
   exact k2 this
 refine⟨k,fun j=>- b*e j,hk,k1,fun n=>?_⟩
 induction n with
 | zero =>
   intro c
   have h1:=base c
   rw[z0t] at h1
   have e1:sumN (fun j=>- b*e j*vec (augZ (stZ P m t s (0+j))) c) k = - b*sumN (fun j=>e j*vec (augZ (stZ P m t s j)) c) k:=by
    rw[<-z5z]
    exact z0m fun j _=>by rw[Nat.zero_add,Int.mul_assoc]
   rw[e1,Nat.zero_add]
   generalize sumN (fun j=>e j*vec (augZ (stZ P m t s j)) c) k=q at *
   generalize vec (augZ (stZ P m t s k)) c=y at *
   generalize e k=ek at *
   rw[z7i] at *
   obtain⟨u,hu⟩:=h1
   obtain⟨v,hv⟩:=hb
   exact⟨b*u-v*y,by grind⟩
 | succ n ih =>
   intro c
   have st:∀j,stZ P m t s (n+1+j)=z2e P t (stZ P m t s (n+j)):=fun j=>by
    rw[show n+1+j=(n+j)+1 by lia,y2h hp ht hs]
   have l1:=x0t (P:=P) ht (z1g (s:=s) hp ht (n+k)) c
   rw[st k]
   refine l1.trans ((x5h ih c).trans ((x0s t m _ _ c k).trans (cg.sumN fun j _=>?_)))
   rw[st j]
   exact cg.refl.mul (x0t ht (z1g hp ht (n+j)) c).symm
theorem y6w(e:P=p)(hD:z1x P=false)(p1:3<=P)(p2:P<=9973)(m3:m<=3)(ht:z1q P m t)(hs:s.length=m){M j:Nat}(hM:∀k,1<=k->k<=m->(p^k-1)∣M)(hj:m+1<=p^j)(n:Nat)(hn:m<=n):stZ P m t s (n+M*p^j)=stZ P m t s n:=by
 have hp:1<P:=by lia
 obtain⟨k,w,k1,k2,hw⟩:=x1r (s:=s) hD p1 p2 ht hs
 refine w0i (by lia) (z1g hp ht _) (z1g hp ht _) (z8d (by lia) _) (z8d (by lia) _) fun c=>?_
 by_cases hc:c<m
 ·have av:∀j,vec (augZ (stZ P m t s j)) c=vec (stZ P m t s j) c:=fun j=>by rw[z8z (z1g hp ht j),if_pos hc]
  have am:∀j,vec (augZ (stZ P m t s j)) m=1:=fun j=>by rw[z8z (z1g hp ht j),if_neg (Nat.lt_irrefl m),if_pos rfl]
  have r1:∀n,cg P (vec (stZ P m t s (n+k)) c) (sumN (fun j=>w j*vec (stZ P m t s (n+j)) c) k):=fun n=>by
   have:=hw n c
   rw[av] at this
   exact this.trans (cg.of_eq (z0m fun j _=>by rw[av]))
  have r2:cg P 1 (sumN w k):=by
   have:=hw 0 m
   rw[am] at this
   exact this.trans (cg.of_eq (z0m fun j _=>by rw[am,Int.mul_one]))
  generalize ha:(fun n=>vec (stZ P m t s n) c)=a at *
  have ea:∀n,vec (stZ P m t s n) c=a n:=fun n=>by rw[<-ha]
  simp only[ea] at r1 ⊢
  have fin:∀cs:List Int,cs.length=k-1->Kill P a (pev (cs++[1]) Op.X*(Op.X-1))->cg P (a (n+M*p^j)) (a n):=fun cs hl hk=>by
   have:=x7y e hD p1 p2 (by lia) hk (M:=M) (j:=j) (fun i i1 i2=>hM i i1 (by lia)) (by lia) (n-cs.length)
   rw[show n-cs.length+cs.length=n by lia] at this
   exact this
  have kc:k=1∨k=2∨k=3∨k=4:=by lia
  rcases kc with rfl | rfl | rfl | rfl
  ·refine fin [] rfl fun n=>?_
   have h1:=r1 n
   rw[show([]:List Int)++[1]=[1] from rfl,y9g,z4a,z8j,y1b,y1z,z8j]
   simp only[sumN,Int.zero_add,Nat.add_zero] at h1 r2
   rw[z7i] at *
   obtain⟨x,hx⟩:=h1
   obtain⟨y,hy⟩:=r2
   exact⟨x-y*a n,by grind⟩
  ·refine fin [w 0] rfl fun n=>?_
   have h1:=r1 n
   rw[show[w 0]++[1]=[w 0,1] from rfl,y9f,z4a,z4i,z5m,y1z,y1b,y1b,y1z,y1z,z8j,z8j]
   simp only[sumN,Int.zero_add,Nat.add_zero] at h1 r2
   rw[z7i] at *
   obtain⟨x,hx⟩:=h1
   obtain⟨y,hy⟩:=r2
   exact⟨x-y*a (n+1),by grind⟩
  ·refine fin [w 0,w 0+w 1] rfl fun n=>?_
   have h1:=r1 n
   rw[show[w 0,w 0+w 1]++[1]=[w 0,w 0+w 1,1] from rfl,y2v,z4a,z4i,z4i,z5m,z4a,z5m,y1z,z5s]
   simp only[y1b,y1z,z8j]
   simp only[sumN,Int.zero_add,Nat.add_zero] at h1 r2
   rw[z7i] at *
   obtain⟨x,hx⟩:=h1
   obtain⟨y,hy⟩:=r2
   exact⟨x-y*a (n+2),by grind⟩
  ·refine fin [w 0,w 0+w 1,w 0+w 1+w 2] rfl fun n=>?_
   have h1:=r1 n
   rw[show[w 0,w 0+w 1,w 0+w 1+w 2]++[1]=[w 0,w 0+w 1,w 0+w 1+w 2,1] from rfl,y5t,z4a,z4i,z4i,z4i,z5m,z4a,z5m,y1z,z4a,z5m,z5s,z5s]
   simp only[y1b,y1z,z8j]
   simp only[sumN,Int.zero_add,Nat.add_zero] at h1 r2
   rw[z7i] at *
   obtain⟨x,hx⟩:=h1
   obtain⟨y,hy⟩:=r2
   exact⟨x-y*a (n+3),by grind⟩
 ·have:∀j,vec (stZ P m t s j) c=0:=fun j=>by
   unfold vec
   rw[List.getElem?_eq_none (by rw[z1g hp ht];lia)];rfl
  rw[this,this];exact cg.refl
end
end L3
namespace L3
open PySem
noncomputable section
noncomputable def g_C:G->R Fl :=
 (gSt (z2q 4 (gLst gNil))
 (gSt (gFor 5 (z5v (gV 3))
 (gSt (gApp 4 (gNL (gV 2)))
 (gSet 2 (gNL (z0g c_F (gCons (gV 0) (gCons (gV 1) (gCons (gV 2) gNil))))))))
 (z7d 4)))
noncomputable def c_C:List D->R (List D):=fnF 4 6 g_C
noncomputable def g_l:G->R Fl :=
 (gSt (gSet 5 (gNL (z0g c_E (gCons (gV 0) (gCons (gV 1) (gCons (gV 2) gNil))))))
 (z8a (z3e c_C (gCons (gV 0) (gCons (gV 5) (gCons (z0g c_F (gCons (gV 0) (gCons (gV 5) (gCons (gV 4) gNil)))) (gCons (gBin dDiv (gBin dSub (gBin dAdd (gV 3) (gV 2)) (gC (.int 1))) (gV 2)) gNil)))))))
noncomputable def c_l:List D->R (List D):=fnF 5 6 g_l
noncomputable def g_o:G->R Fl :=
 (gSt (gSet 1 (gNL (gC (.int 0))))
 (gSt (whGo (gT (gBin dLt (gBin dMul (gV 1) (gV 1)) (gV 0))) (gSet 1 (gNL (gBin dAdd (gV 1) (gC (.int 1))))) 200)
 (gRet (gV 1))))
noncomputable def c_o:List D->R D:=fnC 1 2 g_o
noncomputable def g_i:G->R Fl :=
 (gSt (gSet 6 (gNL (z0g c_o (gCons (gV 3) gNil))))
 (gSt (z2q 7 (z3e c_C (gCons (gV 0) (gCons (gV 1) (gCons (gV 5) (gCons (gV 6) gNil))))))
 (gSt (z2q 8 (z3e c_l (gCons (gV 0) (gCons (gV 1) (gCons (gV 6) (gCons (gV 3) (gCons (gV 4) gNil)))))))
 (gSt (gFrz 8 (x2p 9 10 (x0z (gVr 8))
 (gIfS (gT (gBin dIn (gV 10) (gV 7))) (gRet (gTup (gCons (gC (.str "after")) (gCons (gBin dSub (gBin dAdd (gV 2) (gBin dMul (gV 9) (gV 6))) (z9t (gV 7) (gV 10))) gNil)))) z1i)))
 (gRet (gTup (gCons (gC (.str "apart")) (gCons (gV 2) (gCons (gV 3) (gCons (gV 7) (gCons (gV 8) gNil)))))))))))
noncomputable def c_i:List D->R D:=fnC 6 11 g_i
noncomputable def g_A:G->R Fl :=
 (gSt (gFor 4 (gSeq (gL (z3e c_t (gCons (gV 1) (gCons (gV 2) gNil)))))
 (gSet 3 (gNL (z0g c_F (gCons (gV 0) (gCons (gV 4) (gCons (gV 3) gNil)))))))
 (gRet (gV 3)))
noncomputable def c_A:List D->R D:=fnC 4 5 g_A
noncomputable def g_b:G->R Fl :=
 (gSt (z2q 2 (gLst (gCons (gBin dSub (gV 0) (gC (.int 1))) gNil)))
 (gSt (gSet 3 (gNL (gC (.int 1))))
 (gSt (gFor 4 (z5v (gV 1))
 (gSt (gApp 2 (gNL (gV 3)))
 (gSet 3 (gNL (gBin dAdd (gBin dMul (gV 3) (gV 0)) (gC (.int 1)))))))
 (gSt (gSet 5 (gNL (gC (.int 1))))
 (gSt (whGo (gT (gBin dLt (gV 5) (gBin dAdd (gV 1) (gC (.int 1))))) (gSt (gApp 2 (gNL (gV 0)))
 (gSet 5 (gNL (gBin dMul (gV 5) (gV 0))))) 10)
 (z7d 2))))))
noncomputable def c_b:List D->R (List D):=fnF 2 6 g_b
noncomputable def g_d:G->R Fl :=
 (gSt (whGo (gT (gBin dEq (gBin dMod (gV 0) (gV 1)) (gC (.int 0)))) (gSet 0 (gNL (gBin dDiv (gV 0) (gV 1)))) 100)
 (gRet (gV 0)))
noncomputable def c_d:List D->R D:=fnC 2 2 g_d
noncomputable def g_u:G->R Fl :=
 (gSt (z2q 1 (gLst gNil))
 (gSt (whGo (gT (gBin dGt (gV 0) (gC (.int 1)))) (gSt (gApp 1 (gNL (z0g c_f (gCons (gV 0) gNil))))
 (gSet 0 (gNL (z0g c_d (gCons (gV 0) (gCons (gBin dIx (gV 1) (gNeg (gC (.int 1)))) gNil)))))) 100)
 (z7d 1)))
noncomputable def c_u:List D->R (List D):=fnF 1 2 g_u
noncomputable def g_a:G->R Fl :=
 (gSt (z2q 1 (gLst gNil))
 (gSt (gFor 2 (gSeq (gVr 0))
 (gExt 1 (z3e c_u (gCons (gV 2) gNil))))
 (z8a (x8z (gV 1)))))
noncomputable def c_a:List D->R (List D):=fnF 1 3 g_a
noncomputable def g_B:G->R Fl :=
 (gSt (gSet 1 (gNL (gC (.int 1))))
 (gSt (gFor 2 (gSeq (gVr 0))
 (gSet 1 (gNL (gBin y9o (gV 1) (gV 2)))))
 (gRet (gV 1))))
noncomputable def c_B:List D->R D:=fnC 1 3 g_B
noncomputable def g_v:G->R Fl :=
 (gSt (gFor 5 (gSeq (gVr 3))
 (whGo (gAnd (gT (gBin dEq (gBin dMod (gV 2) (gV 5)) (gC (.int 0)))) (gT (gBin dEq (z0g c_A (gCons (gV 0) (gCons (gV 1) (gCons (gBin dDiv (gV 2) (gV 5)) (gCons (gV 4) gNil))))) (gV 4)))) (gSet 2 (gNL (gBin dDiv (gV 2) (gV 5)))) 200))
 (gRet (gV 2)))
noncomputable def c_v:List D->R D:=fnC 5 6 g_v
noncomputable def g_L:G->R Fl :=
 (gSt (gSet 4 (gNL (gC (.int 0))))
 (gSt (whGo (gT (gBin dNe (z0g c_A (gCons (gV 0) (gCons (gV 1) (gCons (gV 2) (gCons (gV 3) gNil))))) (gV 3))) (gSt (gSet 3 (gNL (z0g c_F (gCons (gV 0) (gCons (gBin dIx (gV 1) (gC (.int 0))) (gCons (gV 3) gNil))))))
 (gSet 4 (gNL (gBin dAdd (gV 4) (gC (.int 1)))))) 10)
 (gRet (gV 4))))
noncomputable def c_L:List D->R D:=fnC 4 5 g_L
noncomputable def g_c:G->R Fl :=
 (gSt (gSet 3 (gNL (z0g dLen (gCons (gV 1) gNil))))
 (gSt (z2q 4 (z3e c_b (gCons (gV 0) (gCons (gV 3) gNil))))
 (gSt (gSet 5 (gNL (z0g c_B (gCons (gV 4) gNil))))
 (gSt (z2q 6 (z3e c_a (gCons (gV 4) gNil)))
 (gSt (z2q 7 (z3e c_D (gCons (gV 0) (gCons (gV 1) (gCons (gV 5) gNil)))))
 (gSt (gSet 8 (gNL (z0g c_v (gCons (gV 0) (gCons (gV 7) (gCons (gV 5) (gCons (gV 6) (gCons (z0g c_A (gCons (gV 0) (gCons (gV 7) (gCons (gV 3) (gCons (gV 2) gNil))))) gNil))))))))
 (gRet (gTup (gCons (z0g c_L (gCons (gV 0) (gCons (gV 7) (gCons (gV 8) (gCons (gV 2) gNil))))) (gCons (gV 8) (gCons (gL (z2z (z5i (gV 6)) (z7f (gT (gBin dEq (gBin dMod (gV 9) (gV 0)) (gC (.int 0)))) (gNL (gV 0))))) gNil)))))))))))
noncomputable def c_c:List D->R D:=fnC 3 9 g_c
noncomputable def g_I:G->R Fl :=
 (gSt (gSet 5 (gNL (z0g (c_y 12) (gCons (gV 0) (gCons (gV 1) (gCons (gV 2) gNil))))))
 (gSt (gSet 6 (z7z c_c (gCons (gVr 0) (gCons (gVr 5) (gCons (gVr 3) gNil)))))
 (gSt (gSet 7 (gNL (gBin dIx (gV 6) (gC (.int 0)))))
 (gSt (gSet 8 (gNL (gBin dIx (gV 6) (gC (.int 1)))))
 (gSt (gIfS (gT (gBin dGt (gV 8) (gC (.int 10000)))) (z6r .tooLong) z1i)
 (gSt (z2q 9 (z3e c_C (gCons (gV 0) (gCons (gV 5) (gCons (gV 3) (gCons (gBin dAdd (gV 7) (gC (.int 1))) gNil))))))
 (gSt (gIfS (gT (gBin dIn (gV 4) (gV 9))) (gRet (gTup (gCons (gC (.str "after")) (gCons (z9t (gV 9) (gV 4)) gNil)))) z1i)
 (gSt (gIfS (gT (gBin dNe (z0g c_F (gCons (gV 0) (gCons (z0g c_E (gCons (gV 0) (gCons (gV 5) (gCons (gV 8) gNil)))) (gCons (gV 4) gNil)))) (gV 4))) (gRet (gTup (gCons (gC (.str "off")) (gCons (gV 7) (gCons (gV 8) gNil))))) z1i)
 (gRet (z7z c_i (gCons (gVr 0) (gCons (gVr 5) (gCons (gVr 7) (gCons (gVr 8) (gCons (gNL (gBin dIx (gV 9) (gV 7))) (gCons (gVr 4) gNil))))))))))))))))
noncomputable def c_I:List D->R D:=fnC 5 10 g_I
noncomputable def g_K:G->R Fl :=
 (gRet (z7z c_c (gCons (gVr 0) (gCons (gNL (z0g (c_y 12) (gCons (gV 0) (gCons (gV 1) (gCons (gV 2) gNil))))) (gCons (gVr 3) gNil)))))
noncomputable def c_K:List D->R D:=fnC 4 4 g_K
end
noncomputable section
noncomputable def g_g:G->R Fl :=
 (gSt (gSet 3 (gNL (z0g c_n (gCons (gSl (gV 0) (gOS (gC (.int 6))) (gOS (gC (.int 40)))) (gCons (gV 1) (gCons (gV 2) (gCons (gC (.int 1)) gNil)))))))
 (gSt (gIfS (gT (gBin dEq (gV 3) (gTup gNil))) (gRet (gTup (gCons (z0g c_w (gCons (z0g c_s (gCons (gV 0) (gCons (gC (.int 3)) gNil))) (gCons (z0g c_s (gCons (gV 0) (gCons (gC (.int 4)) gNil))) (gCons (gV 1) (gCons (gV 2) gNil))))) gNil))) z1i)
 (gRet (gV 3))))
noncomputable def c_g:List D->R D:=fnC 3 4 g_g
end
noncomputable section
noncomputable def g_x:G->R Fl :=
 (gSt (gIfS (gOr (gNot (gT (gIsi z3a (gV 4)))) (gT (gBin dNe (z0g dLen (gCons (gV 4) gNil)) (gV 3)))) (gRet (gC (.bl false))) z1i)
 (gSt (gFor 5 (gSeq (gVr 4))
 (gSt (gIfS (gOr (gNot (gT (gIsi z2k (gV 5)))) (gT (gBin dNe (gV 5) (gV 2)))) (gRet (gC (.bl false))) z1i)
 (gSet 2 (gNL (z0g c_F (gCons (gV 0) (gCons (gV 1) (gCons (gV 2) gNil))))))))
 (gRet (gC (.bl true)))))
noncomputable def c_x:List D->R D:=fnC 5 6 g_x
noncomputable def g_k:G->R Fl :=
 (gSt (gIfS (gOr (gNot (gT (gIsi z3a (gV 5)))) (gNot (gT (gIsi z3a (gV 6))))) (gRet (gC (.bl false))) z1i)
 (gSt (gSet 7 (gNL (z0g dLen (gCons (gV 5) gNil))))
 (gSt (gIfS (gOr (gT (gBin dLt (gBin dMul (gV 7) (gV 7)) (gV 2))) (gOr (gT (gBin dGe (gBin dMul (gBin dSub (gV 7) (gC (.int 1))) (gBin dSub (gV 7) (gC (.int 1)))) (gV 2))) (gNot (gT (z0g c_x (gCons (gV 0) (gCons (gV 1) (gCons (gV 4) (gCons (gV 7) (gCons (gV 5) gNil)))))))))) (gRet (gC (.bl false))) z1i)
 (gSt (gSet 8 (gNL (z0g c_E (gCons (gV 0) (gCons (gV 1) (gCons (gV 7) gNil))))))
 (gSt (gIfS (gNot (gT (z0g c_x (gCons (gV 0) (gCons (gV 8) (gCons (z0g c_F (gCons (gV 0) (gCons (gV 8) (gCons (gV 3) gNil)))) (gCons (gBin dDiv (gBin dSub (gBin dAdd (gV 2) (gV 7)) (gC (.int 1))) (gV 7)) (gCons (gV 6) gNil)))))))) (gRet (gC (.bl false))) z1i)
 (x6b 5 6))))))
noncomputable def c_k:List D->R D:=fnC 7 11 g_k
end
local macro_rules | `(tactic| walk_at "evs") => wkL " L3.z9o L3.z5b L3.z3w L3.s_on L3.z4n L3.z3c L3.z5t L3.z5w L3.z4z L3.z4d L3.z5x L3.z0k"
inductive Out (q:Int):Int->Int->Prop
 | stop {n:Int}:n%q≠0->Out q n n
 | step {n y:Int}:n%q=0->Out q (n/q) y->Out q n y
theorem y0u{n q:Int}(h1:1<=n)(h2:2<=q)(h:n%q=0):n=q*(n/q)/\1<=n/q/\2*(n/q)<=n:=by
 have e1:n=q*(n/q):=by have:=Int.emod_add_mul_ediv n q;lia
 generalize n/q=x at *
 have x0:0<x:=by
  rcases Int.lt_trichotomy 0 x with z | z | z
  ·exact z
  ·rw[<-z] at e1;simp at e1;lia
  ·have:q*x<0:=Int.mul_neg_of_pos_of_neg (by lia) z
   lia
 have:2*x<=q*x:=Int.mul_le_mul_of_nonneg_right h2 (by lia)
 exact⟨e1,by lia,by lia⟩
theorem w0p{q:Int}(h2:2<=q):∀(m:Nat) (n:Int),1<=n->n<(m:Int)->∃y,Out q n y
 | 0,n,h1,h=>by lia
 | m+1,n,h1,h=>by
   by_cases z:n%q=0
   ·obtain⟨_,x1,x2⟩:=y0u h1 h2 z
    obtain⟨y,hy⟩:=w0p h2 m (n/q) x1 (by lia)
    exact⟨y,.step z hy⟩
   ·exact⟨n,.stop z⟩
theorem Out.facts{q n y:Int}(h:Out q n y):1<=n->2<=q->1<=y/\y<=n/\y%q≠0/\∀e:Int,y%e=0->n%e=0:=by
 induction h with
 | stop z=>exact fun h1 h2=>⟨h1,Int.le_refl _,z,fun e he=>he⟩
 | step z _ ih =>
   intro h1 h2
   obtain⟨e1,x1,x2⟩:=y0u h1 h2 z
   obtain⟨a,b,c,d⟩:=ih x1 h2
   refine⟨a,by lia,c,fun e he=>?_⟩
   have:=d e he
   rw[e1]
   exact Int.emod_eq_zero_of_dvd (Int.dvd_mul_of_dvd_right (Int.dvd_of_emod_eq_zero this))
theorem Out.less{q n y:Int}(h:Out q n y)(h1:1<=n)(h2:2<=q)(hz:n%q=0):2*y<=n:=by
 cases h with
 | stop z=>exact absurd hz z
 | step z h =>
   obtain⟨_,x1,x2⟩:=y0u h1 h2 z
   have:=(h.facts x1 h2).2.1
   lia
theorem y7j{n x:Int}{m:Nat}(h:n<2^m)(h1:1<=x)(hx:2*x<=n):∃k,m=k+1/\x<2^k:=by
 cases m with
 | zero=>rw[Int.pow_zero] at h;lia
 | succ k=>rw[Int.pow_succ] at h;exact⟨k,rfl,by lia⟩
theorem x8k{q y:Int}(h2:2<=q)(hq:q<=100000000){gc:G->R Bool}{gb:G->R Fl}{Γx:Int->G}(hc:∀x,gc (Γx x) = .ok (x%q==0))(hb:∀x,gb (Γx x) = .ok (.nx (Γx (x/q)))) :
 ∀(k m:Nat) (n:Int),m<k->1<=n->n<2^m->Out q n y->whGo gc gb k (Γx n) = .ok (.nx (Γx y)):=by
 intro k m n hk h1 hm ho
 refine z5a (fun m Γ=>∃x,Γ=Γx x/\1<=x/\x<2^m/\Out q x y) (fun r=>r = .ok (.nx (Γx y))) ?_ k m (Γx n) hk ⟨n,rfl,h1,hm,ho⟩
 rintro m Γ ⟨x,rfl,x1,xm,xo⟩
 cases xo with
 | stop z=>exact .inl ⟨by rw[hc];simp[z],rfl⟩
 | step z h =>
   obtain⟨_,y1,y2⟩:=y0u x1 h2 z
   obtain⟨m',rfl,hm'⟩:=y7j xm y1 y2
   exact .inr ⟨by rw[hc];simp[z],.inl ⟨_,m',by lia,.inl (hb x),_,rfl,y1,hm',h⟩⟩
theorem x4a{n q y:Int}(h1:1<=n)(hn:n<2^60)(h2:2<=q)(hq:q<=100000000)(ho:Out q n y):c_d [.int n,.int q] = .ok (.int y):=by
 refine z1k rfl ?_
 delta g_d
 refine z5o (Γ':=[.ro (.int y),.ro (.int q)]) ?_ (z2g (by walk_at "evs"))
 exact x8k (Γx:=fun x=>[.ro (.int x),.ro (.int q)]) h2 hq (fun x=>by walk_at "evs") (fun x=>z6m (by walk_at "evs")) 100 60 n (by lia) h1 hn ho
inductive Fac:Int->Int->List Int->Prop
 | one {l:Int}:Fac 1 l []
 | more {n l q y:Int} {qs:List Int}:2<=n->l<q->LDiv n q->Out q n y->Fac y q qs->Fac n l (q::qs)
theorem x6j:∀(m:Nat) (n l:Int),1<=n->n<(m:Int)->(∀e:Int,2<=e->n%e=0->l<e)->∃qs,Fac n l qs
 | 0,n,l,h1,h,_=>by lia
 | m+1,n,l,h1,h,hl=>by
   by_cases z:n=1
   ·subst z;exact⟨[],.one⟩
   ·obtain⟨q,hq⟩:∃q,LDiv n q:=by
     have H:∀(k:Nat),(k:Int)+2<=n->(∃q,LDiv n q)∨∀e:Int,2<=e->e<(k:Int)+2->n%e≠0:=by
      intro k
      induction k with
      | zero=>intro _;exact .inr fun e a b=>by lia
      | succ k ih =>
        intro hk
        rcases ih (by lia) with w | w
        ·exact .inl w
        ·by_cases hz:n%((k:Int)+2)=0
         ·exact .inl ⟨(k:Int)+2,.inr ⟨by lia,by lia,hz,w⟩⟩
         ·refine .inr fun e a b=>?_
          by_cases he:e=(k:Int)+2
          ·rw[he];exact hz
          ·exact w e a (by lia)
     obtain⟨k,hk⟩:=Int.eq_ofNat_of_zero_le (show 0<=n-2 by lia)
     rcases H k (by lia) with w | w
     ·exact w
     ·exact⟨n,.inr ⟨by lia,by lia,Int.emod_self,fun e a b=>w e a (by lia)⟩⟩
    rcases hq with ⟨w,_⟩ | ⟨q1,q2,q3,q4⟩
    ·exact absurd w z
    obtain⟨y,hy⟩:=w0p q1 (m+1) n h1 h
    obtain⟨y1,y2,y3,y4⟩:=hy.facts h1 q1
    have hlt:=hy.less h1 q1 q3
    obtain⟨qs,hqs⟩:=x6j m y q y1 (by lia) (fun e e1 e2=>by
     have e3:=y4 e e2
     rcases Int.lt_trichotomy e q with w | w | w
     ·exact absurd e3 (q4 e e1 w)
     ·rw[w] at e2;exact absurd e2 y3
     ·exact w)
    exact⟨q::qs,.more (by lia) (hl q q1 q3) (.inr ⟨q1,q2,q3,q4⟩) hy hqs⟩
theorem Fac.len{n l:Int}{qs:List Int}(h:Fac n l qs):∀m:Nat,n<2^m->qs.length<=m:=by
 induction h with
 | one=>intro m _;exact Nat.zero_le m
 | more h2 _ hq ho _ ih =>
   intro m hm
   rcases hq with ⟨w,_⟩ | ⟨q1,q2,q3,q4⟩
   ·lia
   obtain⟨y1,_⟩:=ho.facts (by lia) q1
   obtain⟨k,rfl,hk⟩:=y7j hm y1 (ho.less (by lia) q1 q3)
   have:=ih k hk
   rw[List.length_cons];lia
theorem LDiv.two{n q:Int}(h:LDiv n q)(hn:2<=n):2<=q/\q<=n/\n%q=0/\∀e:Int,2<=e->e<q->n%e≠0:=by
 rcases h with ⟨w,_⟩ | h
 ·lia
 ·exact h
theorem LDiv.uniq{n a b:Int}(ha:LDiv n a)(hb:LDiv n b):a=b:=by
 rcases ha with ⟨w,v⟩ | ⟨a1,a2,a3,a4⟩
 ·rcases hb with ⟨_,v'⟩ | ⟨b1,b2,b3,b4⟩
  ·lia
  ·lia
 ·rcases hb with ⟨w,_⟩ | ⟨b1,b2,b3,b4⟩
  ·lia
  ·rcases Int.lt_trichotomy a b with z | z | z
   ·exact absurd a3 (b4 a a1 z)
   ·exact z
   ·exact absurd b3 (a4 b b1 z)
theorem x7v{n q:Int}(h1:1<=n)(h2:n<=100000000)(h:LDiv n q):c_f [.int n] = .ok (.int q):=by
 obtain⟨q',h',e⟩:=w1w h1 h2
 rw[e,h'.uniq h]
theorem w2z(l:List D)(d:D):atI (l++[d]) (-1)=some d:=by
 rw[w3u (by lia) (by rw[List.length_append];simp;lia)]
 rw[show((-1:Int)+((l++[d]).length:Nat)).toNat=l.length by rw[List.length_append];simp;lia]
 simp
theorem s_u{n:Int}{qs:List Int}(h1:1<=n)(h2:n<=100000000)(hf:Fac n 1 qs):c_u [.int n] = .ok (qs.map D.int):=by
 refine y0s rfl ?_
 delta g_u
 refine z1z (ds:=[]) (by walk_at "evs") ?_
 refine z5o (Γ':=[.ro (.int 1),.own (qs.map D.int)]) ?_ rfl
 have hl:=hf.len 27 (by lia)
 refine z5a (fun m Γ=>∃x l acc rest,Γ=[.ro (.int x),.own (acc.map D.int)]/\1<=x/\x<=100000000/\Fac x l rest/\acc++rest=qs/\rest.length=m) (fun r=>r = .ok (.nx [.ro (.int 1),.own (qs.map D.int)])) ?_ 100 qs.length _ (by lia) ⟨n,1,[],qs,rfl,h1,h2,hf,rfl,rfl⟩
 rintro m Γ ⟨x,l,acc,rest,rfl,x1,x2,xf,rfl,rfl⟩
 have hal:acc.length<=27:=by rw[List.length_append] at hl;lia
 cases xf with
 | one =>
   refine .inl ⟨by walk_at "evs";rfl,by rw[List.append_nil]⟩
 | more z lt hq ho hr =>
   rename_i q y qs'
   obtain⟨q1,q2,q3,q4⟩:=hq.two z
   obtain⟨y1,y2,y3,y4⟩:=ho.facts x1 q1
   have ed:=x7v x1 x2 hq
   have ew:=x4a x1 (by lia) q1 (by lia) ho
   have e1:decide (x>1)=true:=decide_eq_true (by lia)
   refine .inr ⟨by walk_at "evs";rw[e1],.inl ⟨[.ro (.int y),.own ((acc++[q]).map D.int)],qs'.length,by rw[List.length_cons];lia,.inl ?_,y,q,acc++[q],qs',rfl,y1,by lia,hr,by rw[List.append_assoc];rfl,rfl⟩⟩
   refine z5o (x2l (d:=.int q) rfl (by walk_at "evs";simp only[ed];walk_at "evs") (by rw[List.length_map];lia)) ?_
   show gSet 0 _ [.ro (.int x),.own (acc.map D.int++[.int q])]=_
   rw[List.map_append]
   refine z6m (d:=.int y) ?_
   have el:=w2z (acc.map D.int) (.int q)
   walk_at "evs"
   simp only[el]
   walk_at "evs"
   simp only[ew]
   walk_at "evs"
theorem LDiv.prime{n q:Int}(h:LDiv n q)(hn:2<=n):∀e:Int,2<=e->e<q->q%e≠0:=fun e e1 e2 z=>by
 obtain⟨q1,q2,q3,q4⟩:=h.two hn
 refine q4 e e1 e2 (Int.emod_eq_zero_of_dvd (Int.dvd_trans (Int.dvd_of_emod_eq_zero z) (Int.dvd_of_emod_eq_zero q3)))
noncomputable def isP(q:Int):Prop:=2<=q/\∀e:Int,2<=e->e<q->q%e≠0
theorem w1e{q a b:Int}(hq:isP q)(h:q∣a*b):q∣a∨q∣b:=by
 by_cases ha:q∣a
 ·exact .inl ha
 refine .inr ?_
 have h1:q.natAbs∣a.natAbs*b.natAbs:=by rw[<-Int.natAbs_mul];exact Int.natAbs_dvd_natAbs.mpr h
 refine Int.natAbs_dvd_natAbs.mp (Nat.Coprime.dvd_of_dvd_mul_left ?_ h1)
 show Nat.gcd q.natAbs a.natAbs=1
 have g1:=Nat.gcd_dvd_left q.natAbs a.natAbs
 have g2:=Nat.gcd_dvd_right q.natAbs a.natAbs
 have q2:=hq.1
 have g3:=Nat.le_of_dvd (by lia) g1
 have g0:Nat.gcd q.natAbs a.natAbs≠0:=fun z=>by have:=(Nat.gcd_eq_zero_iff.mp z).1;lia
 generalize Nat.gcd q.natAbs a.natAbs=g at *
 by_cases w:g=q.natAbs
 ·rw[w] at g2
  exact absurd (Int.natAbs_dvd_natAbs.mp g2) ha
 by_cases w2:2<=g
 ·refine absurd (Int.emod_eq_zero_of_dvd ?_) (hq.2 g (by lia) (by lia))
  have:(g:Int)∣(q.natAbs:Int):=Int.natCast_dvd_natCast.mpr g1
  rwa [show(q.natAbs:Int)=q by lia] at this
 ·lia
theorem w5r{p q:Int}(hp:isP p)(hq:isP q)(h:p∣q):p=q:=by
 have h1:=Int.le_of_dvd (by have:=hq.1;lia) h
 by_cases e:p=q
 ·exact e
 ·exact absurd (Int.emod_eq_zero_of_dvd h) (hq.2 p hp.1 (by lia))
theorem Out.other{q n y p:Int}(h:Out q n y)(hq:isP q)(hp:isP p)(ne:p≠q):p∣n->p∣y:=by
 induction h with
 | stop _=>exact id
 | @step n y z _ ih =>
   intro hd
   have e1:n=q*(n/q):=by have:=Int.emod_add_mul_ediv n q;lia
   rw[e1] at hd
   rcases w1e hp hd with w | w
   ·exact absurd (w5r hp hq w) ne
   ·exact ih w
theorem Fac.prime{n l:Int}{qs:List Int}(h:Fac n l qs):∀q∈qs,isP q/\q∣n/\q<=n:=by
 induction h with
 | one=>intro q hq;simp at hq
 | @more n l q y qs h2 _ hl ho _ ih =>
   obtain⟨q1,q2,q3,q4⟩:=hl.two h2
   obtain⟨y1,y2,y3,y4⟩:=ho.facts (by lia) q1
   intro p hp
   rcases List.mem_cons.mp hp with e | e
   ·rw[e];exact⟨⟨q1,hl.prime h2⟩,Int.dvd_of_emod_eq_zero q3,q2⟩
   ·obtain⟨a,b,c⟩:=ih p e
    exact⟨a,Int.dvd_of_emod_eq_zero (y4 p (Int.emod_eq_zero_of_dvd b)),by lia⟩
theorem Fac.mem{n l:Int}{qs:List Int}(h:Fac n l qs):∀q,isP q->q∣n->q∈qs:=by
 induction h with
 | one =>
   intro q hq hd
   have:=Int.le_of_dvd (by lia) hd
   have:=hq.1
   lia
 | @more n l q y qs h2 _ hl ho _ ih =>
   obtain⟨q1,q2,q3,q4⟩:=hl.two h2
   intro p hp hd
   by_cases e:p=q
   ·rw[e];exact List.mem_cons_self
   ·exact List.mem_cons_of_mem _ (ih p hp (ho.other ⟨q1,hl.prime h2⟩ hp e hd))
theorem x8b{n:Int}(h:2<=n):∃q,isP q/\q∣n:=by
 obtain⟨qs,hf⟩:=x6j (n.toNat+1) n 1 (by lia) (by lia) (fun e a b=>by lia)
 cases hf with
 | one=>lia
 | @more _ _ q y qs h2 _ hl _ _ =>
   obtain⟨q1,q2,q3,q4⟩:=hl.two h2
   exact⟨q,⟨q1,hl.prime h2⟩,Int.dvd_of_emod_eq_zero q3⟩
noncomputable def z7o(l:Int):Nat->Int
 | 0=>1
 | k+1=>(l+1)*z7o (l+1) k
theorem y5n:∀(k:Nat) {l:Int},0<=l->1<=z7o l k
 | 0,l,_=>Int.le_refl 1
 | k+1,l,h=>by
   have:=y5n k (l:=l+1) (by lia)
   have h2:1*1<=(l+1)*z7o (l+1) k:=Int.mul_le_mul (by lia) this (by lia) (by lia)
   rw[z7o];lia
theorem y7e:∀(k:Nat) {l l':Int},0<=l->l<=l'->z7o l k<=z7o l' k
 | 0,_,_,_,_=>Int.le_refl 1
 | k+1,l,l',h,h'=>by
   have:=y5n k (l:=l+1) (by lia)
   exact Int.mul_le_mul (by lia) (y7e k (by lia) (by lia)) (by lia) (by lia)
theorem x4i:∀(k:Nat) {l:Int},0<=l->z7o l k<=z7o l (k+1)
 | 0,l,h=>by rw[z7o,z7o,z7o];lia
 | k+1,l,h=>by
   rw[z7o,z7o]
   exact Int.mul_le_mul_of_nonneg_left (x4i k (by lia)) (by lia)
theorem Out.much{q n y:Int}(h:Out q n y)(h1:1<=n)(h2:2<=q)(hz:n%q=0):q*y<=n:=by
 cases h with
 | stop z=>exact absurd hz z
 | step z h =>
   obtain⟨e,x1,x2⟩:=y0u h1 h2 z
   have:=(h.facts x1 h2).2.1
   have:=Int.mul_le_mul_of_nonneg_left this (show 0<=q by lia)
   lia
theorem Fac.rise{n l:Int}{qs:List Int}(h:Fac n l qs):1<=l->z7o l qs.length<=n:=by
 induction h with
 | one=>intro _;exact Int.le_refl 1
 | @more n l q y qs h2 lt hl ho hf ih =>
   intro l1
   obtain⟨q1,q2,q3,q4⟩:=hl.two h2
   have h3:=ho.much (by lia) q1 q3
   have h4:=ih (by lia)
   have h5:=y7e qs.length (l:=l+1) (l':=q) (by lia) (by lia)
   have h6:=y5n qs.length (l:=l+1) (by lia)
   rw[List.length_cons,z7o]
   have:(l+1)*z7o (l+1) qs.length<=q*y:=Int.mul_le_mul (by lia) (by lia) (by lia) (by lia)
   lia
theorem Fac.few{n:Int}{qs:List Int}(h:Fac n 1 qs)(hn:n<=100000000):qs.length<=10:=by
 rcases Nat.lt_or_ge 10 qs.length with z | z
 ·exfalso
  have h1:=h.rise (by lia)
  have h2:∀k,z7o 1 11<=z7o 1 (11+k):=by
   intro k
   induction k with
   | zero=>exact Int.le_refl _
   | succ k ih=>exact Int.le_trans ih (x4i (11+k) (by lia))
  have h3:=h2 (qs.length-11)
  rw[show 11+(qs.length-11)=qs.length by lia] at h3
  have h4:z7o 1 11=479001600:=by decide
  lia
 ·exact z
structure Per (p:Nat->Prop):Prop where
 zero:p 0
 add:∀{a b:Nat},p a->p b->p (a+b)
 sub:∀{a b:Nat},p a->p b->b<=a->p (a-b)
theorem Per.mul{p:Nat->Prop}(H:Per p){a:Nat}(h:p a):∀k,p (a*k)
 | 0=>H.zero
 | k+1=>H.add (H.mul h k) h
theorem Per.mod{p:Nat->Prop}(H:Per p){a b:Nat}(ha:p a)(hb:p b):p (a%b):=by
 have e:a%b=a-b*(a/b):=by have:=Nat.div_add_mod a b;lia
 rw[e]
 exact H.sub ha (H.mul hb _) (Nat.mul_div_le a b)
theorem Per.gcd{p:Nat->Prop}(H:Per p):∀(a b:Nat),p a->p b->p (Nat.gcd a b):=by
 intro a b
 induction a,b using Nat.gcd.induction with
 | H0 n=>intro _ h;rw[Nat.gcd_zero_left];exact h
 | H1 m n _ ih=>intro h1 h2;rw[Nat.gcd_rec];exact ih (H.mod h2 h1) h1
theorem Per.least{p:Nat->Prop}(H:Per p){r:Nat}(h1:1<=r)(pr:p r)(hq:∀q:Nat,isP q->q∣r->¬p (r/q)){k:Nat}(hk:p k):r∣k:=by
 have hg:=H.gcd r k pr hk
 have g1:=Nat.gcd_dvd_left r k
 have g2:=Nat.gcd_dvd_right r k
 generalize Nat.gcd r k=g at *
 by_cases e:g=r
 ·rw[<-e];exact g2
 obtain⟨c,rfl⟩:=g1
 have c1:c≠1:=fun z=>e (by rw[z,Nat.mul_one])
 have c0:c≠0:=fun z=>by rw[z,Nat.mul_zero] at h1;lia
 obtain⟨q,q1,q2⟩:=x8b (n:=(c:Int)) (by lia)
 obtain⟨q',rfl⟩:=Int.eq_ofNat_of_zero_le (show 0<=q by have:=q1.1;lia)
 have q3:q'∣c:=Int.natCast_dvd_natCast.mp q2
 obtain⟨b,rfl⟩:=q3
 have q0:0<q':=by have:=q1.1;lia
 refine absurd (H.mul hg b) ?_
 have e2:g*(q'*b)/q'=g*b:=by rw[show g*(q'*b)=q'*(g*b) by rw[Nat.mul_left_comm],Nat.mul_div_cancel_left _ q0]
 rw[<-e2]
 exact hq q' q1 ⟨g*b,Nat.mul_left_comm _ _ _⟩
end L3
namespace L3
open PySem
local macro_rules | `(tactic| walk_at "evs") => wkL " L3.z9o L3.z5b L3.z3w L3.s_on L3.z4n L3.z3c L3.z5t L3.z5w L3.z4z L3.z4d L3.z5x L3.z0k L3.z8w L3.y9o L3.y9l L3.x2u L3.Item.d L3.Item.ds_map L3.z7u L3.x3q L3.x3r L3.y6a L3.y0r L3.y3p L3.gZip L3.y7u L3.x6k L3.y1a L3.y3x L3.x9o L3.D.isNon L3.z7z L3.y6e"
section
variable {P:Int}{m:Nat}{t:List (List Int)}{s:List Int}
theorem z1h(hp:1<P)(ht:z1q P m t)(hs:s.length=m)(a b:Nat):stZ P m t (stZ P m t s a) b=stZ P m t s (a+b):=(x7l hp ht hs a b).symm
theorem x4o(hp:1<P)(ht:z1q P m t)(hs:s.length=m)(so:onW P s):Per fun k=>stZ P m t s k=s where
 zero:=z9f hs so
 add {a b} h1 h2:=by rw[<-z1h hp ht hs,h1,h2]
 sub {a b} h1 h2 hb:=by
  have:=z1h hp ht hs b (a-b)
  rw[h2,show b+(a-b)=a by lia,h1] at this
  exact this
theorem s_A{k n:Nat}(p1:3<=P)(p2:P<=9973)(hm:m<=3)(ht:z1q P m t)(hs:s.length=m)(so:onW P s)(hk:k<=150)(hn:n<2^k):c_A [.int P,.lst ((z2l P m t k).map tabD),.int n,rowD s] = .ok (rowD (stZ P m t s n)):=by
 refine z1k rfl ?_
 delta g_A
 have hp:1<P:=by lia
 have er:=s_t (P:=P) (m:=m) (n:=n) (k:=k) (t:=t) (by lia)
 have nt:=z7b (z2l P m t k)
 have nt2:D.noLs ((twos n k).map fun j=>tabD (powZ P m t (2^j)))=true:=z9h fun j _=>z6c _
 refine z7w (ds:=(twos n k).map fun j=>tabD (powZ P m t (2^j))) (fun i Γ=>∃x4,Γ=[.ro (.int P),.ro (.lst ((z2l P m t k).map tabD)),.ro (.int n),.ro (rowD (stZ P m t s (z4g ((twos n k).take i)))),x4]) ?_ ⟨_,by rw[List.take_zero,z4g,z9f hs so];rfl⟩ ?_ ?_
 ·walk_at "evs"
  simp only[er]
  walk_at "evs"
 ·rintro i d Γ hd ⟨x4,rfl⟩
  obtain⟨j,hj,rfl⟩:=y9x hd
  have et:=s_F (P:=P) (ts:=powZ P m t (2^j)) (ss:=stZ P m t s (z4g ((twos n k).take i))) (by lia) (by lia) (by rw[z1g hp ht];exact z2y hp ht _) (by rw[z1g hp ht];lia)
  have e2:z2e P (powZ P m t (2^j)) (stZ P m t s (z4g ((twos n k).take i)))=stZ P m t s (z4g ((twos n k).take (i+1))):=by
   rw[y2q hj,<-z1h hp ht hs];rfl
  rw[e2] at et
  refine .nx (z6m (d:=rowD (stZ P m t s (z4g ((twos n k).take (i+1))))) ?_) ⟨_,rfl⟩
  have nr:=z0k (stZ P m t s (z4g ((twos n k).take (i+1))))
  simp only[tabD,rowD] at et nr ⊢
  walk_at "evs"
  simp only[et]
  walk_at "evs"
 ·rintro Γ ⟨x4,rfl⟩
  refine z2g ?_
  rw[List.length_map,List.take_length,y5g,Nat.mod_eq_of_lt hn]
  walk_at "evs"
theorem x1t{k W:Nat}(p1:3<=P)(p2:P<=9973)(hm:m<=3)(ht:z1q P m t)(hs:s.length=m)(so:onW P s)(hk:k<=150)(hW:W<2^k){L:List Int}{q:Nat}(q1:2<=q)(q2:q<=100000000){pre:List Int}{n:Nat}(n1:1<=n)(nW:n<=W)(pn:stZ P m t s n=s)(hpre:∀q':Nat,(q':Int)∈pre->q'∣n->¬stZ P m t s (n/q')=s) :
 ∃n',1<=n'/\n'<=n/\n'∣n/\stZ P m t s n'=s/\(∀q':Nat,(q':Int)∈(q:Int)::pre->q'∣n'->¬stZ P m t s (n'/q')=s) /\
  whGo (gAnd (gT (gBin dEq (gBin dMod (gV 2) (gV 5)) (gC (.int 0)))) (gT (gBin dEq (z0g c_A (gCons (gV 0) (gCons (gV 1) (gCons (gBin dDiv (gV 2) (gV 5)) (gCons (gV 4) gNil))))) (gV 4)))) (gSet 2 (gNL (gBin dDiv (gV 2) (gV 5)))) 200 [.ro (.int P),.ro (.lst ((z2l P m t k).map tabD)),.ro (.int n),.ro (.lst (L.map D.int)),.ro (rowD s),.ro (.int q)] = .ok (.nx [.ro (.int P),.ro (.lst ((z2l P m t k).map tabD)),.ro (.int n'),.ro (.lst (L.map D.int)),.ro (rowD s),.ro (.int q)]):=by
 have hp:1<P:=by lia
 have H:=x4o hp ht hs so
 refine z5a (fun z Γ=>∃x:Nat,Γ=[.ro (.int P),.ro (.lst ((z2l P m t k).map tabD)),.ro (.int x),.ro (.lst (L.map D.int)),.ro (rowD s),.ro (.int q)]/\1<=x/\x<=n/\x∣n/\x<2^z/\stZ P m t s x=s/\∀q':Nat,(q':Int)∈pre->q'∣x->¬stZ P m t s (x/q')=s)
  (fun r=>∃n',1<=n'/\n'<=n/\n'∣n/\stZ P m t s n'=s/\(∀q':Nat,(q':Int)∈(q:Int)::pre->q'∣n'->¬stZ P m t s (n'/q')=s)/\r = .ok (.nx [.ro (.int P),.ro (.lst ((z2l P m t k).map tabD)),.ro (.int n'),.ro (.lst (L.map D.int)),.ro (rowD s),.ro (.int q)])) ?_ 200 150 _ (by lia) ⟨n,rfl,n1,Nat.le_refl _,⟨1,(Nat.mul_one _).symm⟩,Nat.lt_of_le_of_lt nW (Nat.lt_of_lt_of_le hW (Nat.pow_le_pow_right (by lia) hk)),pn,hpre⟩
 rintro z Γ ⟨x,rfl,x1,xn,xd,xz,px,hx⟩
 have ec:=s_A (s:=s) (n:=x/q) p1 p2 hm ht hs so hk (Nat.lt_of_le_of_lt (Nat.div_le_self x q) (by lia))
 have em:(x:Int)%(q:Int)=((x%q:Nat):Int):=rfl
 have ed:(x:Int)/(q:Int)=((x/q:Nat):Int):=rfl
 have nt:=z7b (z2l P m t k)
 have nr:=z0k s
 by_cases h1:x%q=0
 ·have b1:((x:Int)%(q:Int)==0)=true:=by rw[em,h1];rfl
  have hd:q∣x:=Nat.dvd_of_mod_eq_zero h1
  obtain⟨y,rfl⟩:=hd
  have q0:0<q:=by lia
  have ey:q*y/q=y:=Nat.mul_div_cancel_left y q0
  by_cases h2:stZ P m t s (q*y/q)=s
  ·have y1:1<=y:=by
    rcases Nat.eq_zero_or_pos y with w | w
    ·rw[w,Nat.mul_zero] at x1;lia
    ·exact w
   have yle:2*y<=q*y:=Nat.mul_le_mul_right y q1
   obtain⟨z',rfl⟩:∃z',z=z'+1:=by
    cases z with
    | zero=>rw[Nat.pow_zero] at xz;lia
    | succ z'=>exact⟨z',rfl⟩
   refine .inr ⟨?_,.inl ⟨[.ro (.int P),.ro (.lst ((z2l P m t k).map tabD)),.ro (.int ((y:Nat):Int)),.ro (.lst (L.map D.int)),.ro (rowD s),.ro (.int q)],z',by lia,.inl ?_,y,rfl,y1,by lia,Nat.dvd_trans ⟨q,Nat.mul_comm _ _⟩ xd,by rw[Nat.pow_succ] at xz;lia,by rw[ey] at h2;exact h2,fun q' hq' hd' w=>?_⟩⟩
   ·walk_at "evs"
    simp only[b1]
    walk_at "evs"
    rw[ed]
    simp only[ec]
    walk_at "evs"
    simp only[h2]
    walk_at "evs"
    simp
   ·refine z6m ?_
    walk_at "evs"
    rw[ed,ey]
   ·obtain⟨c,rfl⟩:=hd'
    have q'0:0<q':=by
     rcases Nat.eq_zero_or_pos q' with w2 | w2
     ·rw[w2,Nat.zero_mul] at y1;lia
     ·exact w2
    refine hx q' hq' ⟨q*c,Nat.mul_left_comm _ _ _⟩ ?_
    rw[Nat.mul_div_cancel_left c q'0] at w
    rw[show q*(q'*c)=q'*(c*q) by rw[Nat.mul_left_comm,Nat.mul_comm q c],Nat.mul_div_cancel_left _ q'0]
    exact H.mul w q
  ·refine .inl ⟨?_,q*y,x1,xn,xd,px,fun q' hq' hd'=>?_,rfl⟩
   ·walk_at "evs"
    simp only[b1]
    walk_at "evs"
    rw[ed]
    simp only[ec]
    walk_at "evs"
    simp[h2]
   ·rcases List.mem_cons.mp hq' with e | e
    ·have:q'=q:=by lia
     rw[this];exact h2
    ·exact hx q' e hd'
 ·have b1:((x:Int)%(q:Int)==0)=false:=by rw[em];simp;lia
  refine .inl ⟨?_,x,x1,xn,xd,px,fun q' hq' hd'=>?_,rfl⟩
  ·walk_at "evs"
   simp only[b1]
   walk_at "evs"
  ·rcases List.mem_cons.mp hq' with e | e
   ·have:q'=q:=by lia
    rw[this] at hd'
    exact absurd (Nat.mod_eq_zero_of_dvd hd') h1
   ·exact hx q' e hd'
theorem s_v{k W:Nat}(p1:3<=P)(p2:P<=9973)(hm:m<=3)(ht:z1q P m t)(hs:s.length=m)(so:onW P s)(hk:k<=150)(hW:W<2^k)(W1:1<=W)(pW:stZ P m t s W=s){L:List Int}(hL:∀q∈L,2<=q/\q<=100000000) :
 ∃r:Nat,1<=r/\r<=W/\r∣W/\stZ P m t s r=s/\(∀q:Nat,(q:Int)∈L->q∣r->¬stZ P m t s (r/q)=s)/\c_v [.int P,.lst ((z2l P m t k).map tabD),.int W,.lst (L.map D.int),rowD s] = .ok (.int r):=by
 suffices h:∃r:Nat,(1<=r/\r<=W/\r∣W/\stZ P m t s r=s/\(∀q:Nat,(q:Int)∈L->q∣r->¬stZ P m t s (r/q)=s))/\g_v (ini 6 [.int P,.lst ((z2l P m t k).map tabD),.int W,.lst (L.map D.int),rowD s]) = .ok (.rt (.int r)) by
  obtain⟨r,⟨a,b,c,d,e⟩,g⟩:=h
  exact⟨r,a,b,c,d,e,z1k rfl g⟩
 delta g_v
 obtain⟨Γ',e,n,x5,rfl,h1,h2,h3,h4,h5⟩:=z7e (gb:=whGo (gAnd (gT (gBin dEq (gBin dMod (gV 2) (gV 5)) (gC (.int 0)))) (gT (gBin dEq (z0g c_A (gCons (gV 0) (gCons (gV 1) (gCons (gBin dDiv (gV 2) (gV 5)) (gCons (gV 4) gNil))))) (gV 4)))) (gSet 2 (gNL (gBin dDiv (gV 2) (gV 5)))) 200) (i:=5)
  (fun i Γ=>∃(n:Nat) (x5:En),Γ=[.ro (.int P),.ro (.lst ((z2l P m t k).map tabD)),.ro (.int n),.ro (.lst (L.map D.int)),.ro (rowD s),x5]/\1<=n/\n<=W/\n∣W/\stZ P m t s n=s/\∀q:Nat,(q:Int)∈L.take i->q∣n->¬stZ P m t s (n/q)=s) (L.map D.int) 0 [.ro (.int P),.ro (.lst ((z2l P m t k).map tabD)),.ro (.int W),.ro (.lst (L.map D.int)),.ro (rowD s),.no] ⟨W,_,rfl,W1,Nat.le_refl _,⟨1,(Nat.mul_one _).symm⟩,pW,fun q hq=>by simp at hq⟩ (fun j d Γ hd hI=>by
    obtain⟨n,x5,rfl,h1,h2,h3,h4,h5⟩:=hI
    rw[List.getElem?_map] at hd
    cases hj:L[j]? with
    | none=>rw[hj] at hd;cases hd
    | some q =>
      rw[hj] at hd
      injection hd with hd
      subst hd
      obtain⟨q1,q2⟩:=hL q (List.mem_of_getElem? hj)
      obtain⟨q',rfl⟩:=Int.eq_ofNat_of_zero_le (show 0<=q by lia)
      rw[Nat.zero_add] at h5
      obtain⟨n',a1,a2,a3,a4,a5,a6⟩:=x1t (L:=L) (q:=q') (pre:=L.take j) (n:=n) p1 p2 hm ht hs so hk hW (by lia) (by lia) h1 h2 h4 h5
      refine⟨_,.inl a6,n',_,rfl,a1,by lia,Nat.dvd_trans a3 h3,a4,fun z hz=>a5 z ?_⟩
      rw[Nat.zero_add,List.take_add_one,hj] at hz
      rcases List.mem_append.mp hz with w | w
      ·exact List.mem_cons_of_mem _ w
      ·simp at w;rw[w];exact List.mem_cons_self)
 refine⟨n,⟨h1,h2,h3,h4,fun q hq=>h5 q ?_⟩,?_⟩
 ·rw[Nat.zero_add,List.length_map,List.take_length];exact hq
 ·refine y8f (ds:=L.map D.int) (by walk_at "evs") e (z2g ?_)
  walk_at "evs"
theorem s_L{k r W:Nat}(p1:3<=P)(p2:P<=9973)(hm:m<=3)(ht:z1q P m t)(hs:s.length=m)(so:onW P s)(k1:1<=k)(hk:k<=150)(hW:r<2^k)(hr:stZ P m t s (m+r)=stZ P m t s m) :
 ∃i:Nat,i<=m/\stZ P m t s (i+r)=stZ P m t s i/\(∀j,j<i->¬stZ P m t s (j+r)=stZ P m t s j)/\c_L [.int P,.lst ((z2l P m t k).map tabD),.int r,rowD s] = .ok (.int i):=by
 have hp:1<P:=by lia
 have nt:=z7b (z2l P m t k)
 suffices h:∃i:Nat,(i<=m/\stZ P m t s (i+r)=stZ P m t s i/\(∀j,j<i->¬stZ P m t s (j+r)=stZ P m t s j))/\g_L (ini 5 [.int P,.lst ((z2l P m t k).map tabD),.int r,rowD s]) = .ok (.rt (.int i)) by
  obtain⟨i,⟨a,b,c⟩,g⟩:=h
  exact⟨i,a,b,c,z1k rfl g⟩
 delta g_L
 have key:∃i:Nat,(i<=m/\stZ P m t s (i+r)=stZ P m t s i/\(∀j,j<i->¬stZ P m t s (j+r)=stZ P m t s j))/\whGo (gT (gBin dNe (z0g c_A (gCons (gV 0) (gCons (gV 1) (gCons (gV 2) (gCons (gV 3) gNil))))) (gV 3))) (gSt (gSet 3 (gNL (z0g c_F (gCons (gV 0) (gCons (gBin dIx (gV 1) (gC (.int 0))) (gCons (gV 3) gNil)))))) (gSet 4 (gNL (gBin dAdd (gV 4) (gC (.int 1)))))) 10 [.ro (.int P),.ro (.lst ((z2l P m t k).map tabD)),.ro (.int r),.ro (rowD s),.ro (.int 0)] = .ok (.nx [.ro (.int P),.ro (.lst ((z2l P m t k).map tabD)),.ro (.int r),.ro (rowD (stZ P m t s i)),.ro (.int i)]):=by
  refine z5a (fun z Γ=>∃i:Nat,Γ=[.ro (.int P),.ro (.lst ((z2l P m t k).map tabD)),.ro (.int r),.ro (rowD (stZ P m t s i)),.ro (.int i)]/\i+z=m/\∀j,j<i->¬stZ P m t s (j+r)=stZ P m t s j)
   (fun x=>∃i:Nat,(i<=m/\stZ P m t s (i+r)=stZ P m t s i/\(∀j,j<i->¬stZ P m t s (j+r)=stZ P m t s j))/\x = .ok (.nx [.ro (.int P),.ro (.lst ((z2l P m t k).map tabD)),.ro (.int r),.ro (rowD (stZ P m t s i)),.ro (.int i)])) ?_ 10 m _ (by lia) ⟨0,by rw[z9f hs so];rfl,by lia,fun j hj=>by lia⟩
  rintro z Γ ⟨i,rfl,hz,hj⟩
  have ec:=s_A (s:=stZ P m t s i) (n:=r) p1 p2 hm ht (z1g hp ht i) (z8d (by lia) i) hk hW
  rw[z1h hp ht hs] at ec
  have nr:=z0k (stZ P m t s i)
  by_cases h:stZ P m t s (i+r)=stZ P m t s i
  ·refine .inl ⟨?_,i,⟨by lia,h,hj⟩,rfl⟩
   walk_at "evs"
   simp only[ec]
   walk_at "evs"
   simp[h]
  ·have zi:z≠0:=fun w=>by
    rw[show i=m by lia] at h
    exact h hr
   refine .inr ⟨?_,.inl ⟨[.ro (.int P),.ro (.lst ((z2l P m t k).map tabD)),.ro (.int r),.ro (rowD (stZ P m t s (i+1))),.ro (.int ((i+1:Nat):Int))],z-1,by lia,.inl ?_,i+1,rfl,by lia,fun j hj'=>?_⟩⟩
   ·walk_at "evs"
    simp only[ec]
    walk_at "evs"
    simp[h]
   ·have et:=s_F (P:=P) (ts:=powZ P m t (2^0)) (ss:=stZ P m t s i) (by lia) (by lia) (by rw[z1g hp ht];exact z2y hp ht _) (by rw[z1g hp ht];lia)
    have e2:z2e P (powZ P m t (2^0)) (stZ P m t s i)=stZ P m t s (i+1):=by
     rw[<-z1h hp ht hs];rfl
    rw[e2] at et
    have e0:atI ((z2l P m t k).map tabD) 0=some (tabD (powZ P m t (2^0))):=by
     rw[show(0:Int)=((0:Nat):Int) from rfl,z3q,List.getElem?_map]
     unfold z2l
     rw[List.getElem?_map,List.getElem?_range (by lia)];rfl
    have nr2:=z0k (stZ P m t s (i+1))
    refine z0w (d:=rowD (stZ P m t s (i+1))) ?_ (z6m ?_)
    ·simp only[tabD,rowD] at et e0 nr2 ⊢
     walk_at "evs"
     simp only[e0]
     walk_at "evs"
     simp only[et]
     walk_at "evs"
    ·walk_at "evs"
     rw[Int.natCast_add];rfl
   ·rcases Nat.lt_or_ge j i with w | w
    ·exact hj j w
    ·rw[show j=i by lia];exact h
 obtain⟨i,hi,e⟩:=key
 refine⟨i,hi,?_⟩
 refine z0w (d:=.int 0) (by walk_at "evs") (z5o e (z2g ?_))
 walk_at "evs"
end
noncomputable def gz(P:Int):Nat->Int
 | 0=>1
 | j+1=>gz P j*P+1
theorem w1a(P:Int):∀j,(P-1)*gz P j=P^(j+1)-1
 | 0=>by rw[gz,Int.mul_one,Nat.zero_add,Int.pow_succ,Int.pow_zero,Int.one_mul]
 | j+1=>by
   have h:=w1a P j
   rw[gz,Int.pow_succ P (j+1),Int.mul_add,<-Int.mul_assoc,h]
   grind
theorem w5t{P:Int}(p1:3<=P)(p2:P<=9973){j:Nat}(hj:j<3):1<=gz P j/\gz P j<=100000000:=by
 have hc:j=0∨j=1∨j=2:=by lia
 rcases hc with rfl | rfl | rfl
 ·simp only[gz];lia
 ·simp only[gz];lia
 ·simp only[gz]
  have h1:(1*P+1)*P<=9974*9973:=Int.mul_le_mul (by lia) p2 (by lia) (by lia)
  have h2:1*1<=(1*P+1)*P:=Int.mul_le_mul (by lia) (by lia) (by lia) (by lia)
  lia
noncomputable def z5u(P:Int)(m:Nat):List Int:=(P-1)::(List.range m).map (gz P)
noncomputable def z3b(P:Int)(m e:Nat):List Int:=z5u P m++List.replicate e P
theorem x0y{P:Int}{m:Nat}(p1:3<=P)(p2:P<=9973)(m3:m<=3):∀x∈z5u P m,1<=x/\x<=100000000:=fun x hx=>by
 rcases List.mem_cons.mp hx with e | e
 ·lia
 ·obtain⟨j,hj,rfl⟩:=List.mem_map.mp e
  exact w5t p1 p2 (by have:=List.mem_range.mp hj;lia)
theorem x4q{P:Int}{m e:Nat}(p1:3<=P)(p2:P<=9973)(m3:m<=3):∀x∈z3b P m e,1<=x/\x<=100000000:=fun x hx=>by
 rcases List.mem_append.mp hx with h | h
 ·exact x0y p1 p2 m3 x h
 ·rw[(List.mem_replicate.mp h).2];lia
theorem y4t(P:Int)(m e:Nat):(z3b P m e).length=m+1+e:=by unfold z3b z5u;simp;lia
theorem w1v{P:Int}{m:Nat}(p1:3<=P)(p2:P<=9973)(m1:1<=m)(m3:m<=3):∃e:Nat,e<=2/\(m:Int)+1<=P^e/\c_b [.int P,.int m] = .ok ((z3b P m e).map D.int):=by
 have key:∃(e:Nat) (x4 x5:En),(e<=2/\(m:Int)+1<=P^e)/\whGo (gT (gBin dLt (gV 5) (gBin dAdd (gV 1) (gC (.int 1))))) (gSt (gApp 2 (gNL (gV 0))) (gSet 5 (gNL (gBin dMul (gV 5) (gV 0))))) 10 [.ro (.int P),.ro (.int m),.own ((z5u P m).map D.int),.ro (.int (gz P m)),x4,.ro (.int 1)] = .ok (.nx [.ro (.int P),.ro (.int m),.own ((z3b P m e).map D.int),.ro (.int (gz P m)),x4,x5])/\c_b [.int P,.int m] = .ok ((z3b P m e).map D.int):=by
  have wh:∀x4,∃(e:Nat) (x5:En),(e<=2/\(m:Int)+1<=P^e)/\whGo (gT (gBin dLt (gV 5) (gBin dAdd (gV 1) (gC (.int 1))))) (gSt (gApp 2 (gNL (gV 0))) (gSet 5 (gNL (gBin dMul (gV 5) (gV 0))))) 10 [.ro (.int P),.ro (.int m),.own ((z5u P m).map D.int),.ro (.int (gz P m)),x4,.ro (.int 1)] = .ok (.nx [.ro (.int P),.ro (.int m),.own ((z3b P m e).map D.int),.ro (.int (gz P m)),x4,x5]):=by
   intro x4
   refine z5a (fun z Γ=>∃e:Nat,Γ=[.ro (.int P),.ro (.int m),.own ((z3b P m e).map D.int),.ro (.int (gz P m)),x4,.ro (.int (P^e))]/\e+z=2)
    (fun r=>∃(e:Nat) (x5:En),(e<=2/\(m:Int)+1<=P^e)/\r = .ok (.nx [.ro (.int P),.ro (.int m),.own ((z3b P m e).map D.int),.ro (.int (gz P m)),x4,x5])) ?_ 10 2 _ (by lia) ⟨0,by unfold z3b;simp,rfl⟩
   rintro z Γ ⟨e,rfl,hz⟩
   by_cases h:P^e<(m:Int)+1
   ·have e1:decide (P^e<(m:Int)+1)=true:=decide_eq_true h
    have he:e<2:=by
     rcases Nat.lt_or_ge e 2 with w | w
     ·exact w
     ·have:e=2:=by lia
      subst this
      have:3*3<=P^2:=by rw[Int.pow_succ,Int.pow_succ,Int.pow_zero,Int.one_mul];exact Int.mul_le_mul p1 p1 (by lia) (by lia)
      lia
    have pe:(P^e).natAbs<=9973:=by
     have hc:e=0∨e=1:=by lia
     rcases hc with rfl | rfl
     ·simp
     ·rw[Int.pow_succ,Int.pow_zero,Int.one_mul];lia
    refine .inr ⟨by walk_at "evs";rw[e1],.inl ⟨[.ro (.int P),.ro (.int m),.own ((z3b P m (e+1)).map D.int),.ro (.int (gz P m)),x4,.ro (.int (P^(e+1)))],z-1,by lia,.inl ?_,e+1,rfl,by lia⟩⟩
    refine z5o (x2l (d:=.int P) rfl (by walk_at "evs") (by rw[List.length_map,y4t];lia)) ?_
    show gSet 5 _ [.ro (.int P),.ro (.int m),.own ((z3b P m e).map D.int++[.int P]),.ro (.int (gz P m)),x4,.ro (.int (P^e))]=_
    have ep:(z3b P m e).map D.int++[D.int P]=(z3b P m (e+1)).map D.int:=by
     unfold z3b;rw[List.replicate_succ',<-List.append_assoc];simp
    rw[ep]
    refine z6m ?_
    rw[Int.pow_succ]
    walk_at "evs"
   ·have e1:decide (P^e<(m:Int)+1)=false:=decide_eq_false h
    exact .inl ⟨by walk_at "evs";rw[e1],e,_,⟨by lia,by lia⟩,rfl⟩
  have fr:∃x4,z4h (gSt (gApp 2 (gNL (gV 3))) (gSet 3 (gNL (gBin dAdd (gBin dMul (gV 3) (gV 0)) (gC (.int 1)))))) 4 (z3r 0 m) [.ro (.int P),.ro (.int m),.own [.int (P-1)],.ro (.int 1),.no,.no] = .ok (.nx [.ro (.int P),.ro (.int m),.own ((z5u P m).map D.int),.ro (.int (gz P m)),x4,.no]):=by
   obtain⟨Γ',e,x4,rfl⟩:=z7e (gb:=gSt (gApp 2 (gNL (gV 3))) (gSet 3 (gNL (gBin dAdd (gBin dMul (gV 3) (gV 0)) (gC (.int 1)))))) (i:=4) (fun j Γ=>∃x4,Γ=[.ro (.int P),.ro (.int m),.own ((z5u P j).map D.int),.ro (.int (gz P j)),x4,.no]) (z3r 0 m) 0 [.ro (.int P),.ro (.int m),.own [.int (P-1)],.ro (.int 1),.no,.no] ⟨_,rfl⟩ (fun j d Γ hd hI=>by
    obtain⟨x4,rfl⟩:=hI
    obtain⟨hj,rfl⟩:=z7p hd
    rw[Nat.zero_add]
    obtain⟨g1,g2⟩:=w5t (P:=P) (j:=j) p1 p2 (by lia)
    refine⟨[.ro (.int P),.ro (.int m),.own ((z5u P (j+1)).map D.int),.ro (.int (gz P (j+1))),.ro (.int (0+(j:Int))),.no],.inl ?_,_,rfl⟩
    refine z5o (x2l (d:=.int (gz P j)) rfl (by walk_at "evs") (by unfold z5u;simp;lia)) ?_
    show gSet 3 _ [.ro (.int P),.ro (.int m),.own ((z5u P j).map D.int++[.int (gz P j)]),.ro (.int (gz P j)),.ro (.int (0+(j:Int))),.no]=_
    have ep:(z5u P j).map D.int++[D.int (gz P j)]=(z5u P (j+1)).map D.int:=by
     unfold z5u;rw[List.range_succ];simp
    rw[ep]
    refine z6m ?_
    rw[gz]
    walk_at "evs")
   rw[Nat.zero_add,z0j] at e
   exact⟨x4,e⟩
  obtain⟨x4,e4⟩:=fr
  obtain⟨e,x5,he,ew⟩:=wh x4
  refine⟨e,x4,x5,he,ew,y0s rfl ?_⟩
  delta g_b
  refine z1z (ds:=[.int (P-1)]) (by have nl:D.noLs [D.int (P-1)]=true:=z1b [P-1];walk_at "evs") ?_
  refine z0w (d:=.int 1) (by walk_at "evs") ?_
  refine y8f (ds:=z3r 0 m) (by walk_at "evs") e4 ?_
  refine z0w (d:=.int 1) (by walk_at "evs") ?_
  exact z5o ew rfl
 obtain⟨e,_,_,⟨h1,h2⟩,_,h3⟩:=key
 exact⟨e,h1,h2,h3⟩
theorem z6o:∀(a b:List Int),z1d (a++b)=z1d a*z1d b
 | [],b=>by rw[List.nil_append,z1d,Int.one_mul]
 | x::a,b=>by rw[List.cons_append,z1d,z1d,z6o a b,Int.mul_assoc]
theorem y2k:∀(l:List Int),(∀x∈l,1<=x/\x<=100000000)->1<=z1d l/\z1d l<=100000000^l.length
 | [],_=>by rw[z1d];simp
 | x::l,h=>by
   obtain⟨h1,h2⟩:=h x List.mem_cons_self
   obtain⟨h3,h4⟩:=y2k l fun y hy=>h y (List.mem_cons_of_mem _ hy)
   rw[z1d,List.length_cons,Int.pow_succ,Int.mul_comm x]
   refine⟨?_,Int.mul_le_mul h4 h2 (by lia) (Int.le_trans (by lia) h4)⟩
   have:=Int.mul_le_mul h3 h1 (by lia) (by lia)
   lia
theorem y7i{x:Int}:∀{l:List Int},x∈l->x∣z1d l
 | y::l,h=>by
   rw[z1d]
   rcases List.mem_cons.mp h with e | e
   ·rw[e];exact Int.dvd_mul_right _ _
   ·exact Int.dvd_mul_of_dvd_right (y7i e)
theorem z9w{q:Int}(hq:isP q):∀{l:List Int},q∣z1d l->∃x∈l,q∣x
 | [],h=>by
   have:=Int.le_of_dvd (by rw[z1d];lia) h
   rw[z1d] at this
   have:=hq.1
   lia
 | y::l,h=>by
   rw[z1d] at h
   rcases w1e hq h with w | w
   ·exact⟨y,List.mem_cons_self,w⟩
   ·obtain⟨x,hx,hd⟩:=z9w hq w
    exact⟨x,List.mem_cons_of_mem _ hx,hd⟩
theorem s_B{l:List Int}(hl:l.length<=6)(hb:∀x∈l,1<=x/\x<=100000000):c_B [.lst (l.map D.int)] = .ok (.int (z1d l)):=by
 refine z1k rfl ?_
 delta g_B
 refine z0w (d:=.int 1) (by walk_at "evs") ?_
 refine z7w (ds:=l.map D.int) (fun i Γ=>∃x2,Γ=[.ro (.lst (l.map D.int)),.ro (.int (z1d (l.take i))),x2]) (by walk_at "evs") ⟨_,rfl⟩ ?_ ?_
 ·rintro i d Γ hd ⟨x2,rfl⟩
  rw[List.getElem?_map] at hd
  cases hi:l[i]? with
  | none=>rw[hi] at hd;cases hd
  | some x =>
    rw[hi] at hd
    injection hd with hd
    subst hd
    obtain⟨h1,h2⟩:=hb x (List.mem_of_getElem? hi)
    obtain⟨h3,h4⟩:=y2k (l.take i) fun y hy=>hb y (List.mem_of_mem_take hy)
    have h5:z1d (l.take i)<=100000000^6:=by
     have hi6:(l.take i).length<=6:=by rw[List.length_take];lia
     have hc:(l.take i).length=0∨(l.take i).length=1∨(l.take i).length=2∨(l.take i).length=3∨(l.take i).length=4∨(l.take i).length=5∨(l.take i).length=6:=by lia
     rcases hc with e | e | e | e | e | e | e<;>rw[e] at h4<;>refine Int.le_trans h4 (by decide)
    have e1:z1d (l.take (i+1))=z1d (l.take i)*x:=by
     rw[List.take_add_one,hi,z6o]
     show _*(x*1)=_
     rw[Int.mul_one]
    have fit:y0p (z1d (l.take i)) x:=⟨w1j (by lia),w1j (by lia)⟩
    refine .nx (z6m (d:=.int (z1d (l.take (i+1)))) ?_) ⟨_,rfl⟩
    rw[e1]
    walk_at "evs"
 ·rintro Γ ⟨x2,rfl⟩
  rw[List.length_map,List.take_length]
  exact z2g (by walk_at "evs")
noncomputable def facZ(x:Int):List Int:=Classical.epsilon fun qs=>Fac x 1 qs
theorem y0t{x:Int}(h:1<=x):Fac x 1 (facZ x):=Classical.epsilon_spec (x6j (x.toNat+1) x 1 h (by lia) (fun e a b=>by lia))
noncomputable def z5q(l:List Int):List Int:=(l.map facZ).flatten
theorem z9l:∀(l:List Int),(∀x∈l,1<=x/\x<=100000000)->(z5q l).length<=10*l.length
 | [],_=>by simp[z5q]
 | x::l,h=>by
   obtain⟨h1,h2⟩:=h x List.mem_cons_self
   have h3:=(y0t h1).few h2
   have h4:=z9l l fun y hy=>h y (List.mem_cons_of_mem _ hy)
   unfold z5q at *
   rw[List.map_cons,List.flatten_cons,List.length_append,List.length_cons]
   lia
theorem z9k{l:List Int}(hb:∀x∈l,1<=x/\x<=100000000){q:Int}:q∈z5q l↔isP q/\∃x∈l,q∣x:=by
 unfold z5q
 rw[List.mem_flatten]
 constructor
 ·rintro⟨qs,hqs,hq⟩
  obtain⟨x,hx,rfl⟩:=List.mem_map.mp hqs
  obtain⟨a,b,_⟩:=(y0t (hb x hx).1).prime q hq
  exact⟨a,x,hx,b⟩
 ·rintro⟨hq,x,hx,hd⟩
  exact⟨_,List.mem_map.mpr ⟨x,hx,rfl⟩,(y0t (hb x hx).1).mem q hq hd⟩
theorem s_a{l:List Int}(hl:l.length<=6)(hb:∀x∈l,1<=x/\x<=100000000):c_a [.lst (l.map D.int)] = .ok ((z5k (z5q l)).map D.int):=by
 refine y0s rfl ?_
 delta g_a
 refine z1z (ds:=[]) (by walk_at "evs") ?_
 have hlen:=z9l l hb
 refine z7w (ds:=l.map D.int) (fun i Γ=>∃x2,Γ=[.ro (.lst (l.map D.int)),.own ((z5q (l.take i)).map D.int),x2]) (by walk_at "evs") ⟨_,rfl⟩ ?_ ?_
 ·rintro i d Γ hd ⟨x2,rfl⟩
  rw[List.getElem?_map] at hd
  cases hi:l[i]? with
  | none=>rw[hi] at hd;cases hd
  | some x =>
    rw[hi] at hd
    injection hd with hd
    subst hd
    obtain⟨h1,h2⟩:=hb x (List.mem_of_getElem? hi)
    have ep:=s_u h1 h2 (y0t h1)
    have h3:=(y0t h1).few h2
    have h4:=z9l (l.take i) fun y hy=>hb y (List.mem_of_mem_take hy)
    have h5:(l.take i).length<=6:=by rw[List.length_take];lia
    have e1:z5q (l.take (i+1))=z5q (l.take i)++facZ x:=by
     unfold z5q
     rw[List.take_add_one,hi];simp
    refine .nx (w7a (ds:=(z5q (l.take i)).map D.int) (es:=(facZ x).map D.int) rfl (by walk_at "evs";simp only[ep];walk_at "evs") (by rw[List.length_map,List.length_map];lia)) ⟨_,by rw[e1,List.map_append];rfl⟩
 ·rintro Γ ⟨x2,rfl⟩
  rw[List.length_map,List.take_length]
  exact x0v (x6c (ns:=z5q l) (by walk_at "evs") (by lia))
structure RingOf (P:Int) (m:Nat) (t:List (List Int)) (s:List Int) (i r:Nat) (L:List Int):Prop where
 tail:i<=m
 pos:1<=r
 bound:r<2^150
 comes:stZ P m t s (i+r)=stZ P m t s i
 first:∀j,j<i->¬stZ P m t s (j+r)=stZ P m t s j
 least:∀j k,stZ P m t s (j+k)=stZ P m t s j->r∣k
 up:L.Pairwise (·<·)
 prime:∀q∈L,isP q/\q<=100000000/\q∣(r:Int)
 all:∀q,isP q->q∣(r:Int)->q∈L
theorem x7j{P:Int}{p m e:Nat}(ep:P=p)(p1:3<=P):∃M:Nat,z1d (z3b P m e)=((M*p^e:Nat):Int)/\∀k,1<=k->k<=m->(p^k-1)∣M:=by
 have hr:∀e,z1d (List.replicate e P)=P^e:=fun e=>by
  induction e with
  | zero=>rw[List.replicate_zero,z1d,Int.pow_zero]
  | succ e ih=>rw[List.replicate_succ,z1d,ih,Int.pow_succ,Int.mul_comm]
 have gn:∀j,1<=gz P j:=fun j=>by
  induction j with
  | zero=>rw[gz];lia
  | succ j ih =>
    have:1*1<=gz P j*P:=Int.mul_le_mul ih (by lia) (by lia) (by lia)
    rw[gz];lia
 have hh:1<=z1d (z5u P m):=by
  have:∀l:List Int,(∀x∈l,1<=x)->1<=z1d l:=fun l=>by
   induction l with
   | nil=>intro _;rw[z1d];lia
   | cons x l ih =>
     intro h
     have h1:=h x List.mem_cons_self
     have h2:=ih fun y hy=>h y (List.mem_cons_of_mem _ hy)
     have:1*1<=x*z1d l:=Int.mul_le_mul h1 h2 (by lia) (by lia)
     rw[z1d];lia
  refine this _ fun x hx=>?_
  rcases List.mem_cons.mp hx with h | h
  ·lia
  ·obtain⟨j,_,rfl⟩:=List.mem_map.mp h
   exact gn j
 obtain⟨M,hM⟩:=Int.eq_ofNat_of_zero_le (show 0<=z1d (z5u P m) by lia)
 refine⟨M,?_,fun k k1 k2=>?_⟩
 ·unfold z3b
  rw[z6o,hr,hM,Int.natCast_mul,Int.natCast_pow,ep]
 ·refine Int.natCast_dvd_natCast.mp ?_
  have e1:((p^k-1:Nat):Int)=P^k-1:=by
   have:=Nat.pow_pos (n:=k) (show 0<p by lia)
   rw[Int.natCast_sub this,Int.natCast_pow,ep];rfl
  rw[e1]
  obtain⟨j,rfl⟩:∃j,k=j+1:=⟨k-1,by lia⟩
  rw[<-w1a,show((M:Nat):Int)=z1d (z5u P m) from hM.symm]
  unfold z5u
  rw[z1d]
  exact Int.mul_dvd_mul (Int.dvd_refl _) (y7i (List.mem_map.mpr ⟨j,List.mem_range.mpr (by lia),rfl⟩))
theorem s_c{P:Int}{m:Nat}{t:List (List Int)}{s:List Int}(hD:z1x P=false)(p1:3<=P)(p2:P<=9973)(m1:1<=m)(m3:m<=3)(ht:z1q P m t)(hs:s.length=m)(so:onW P s):∃i r L,RingOf P m t s i r L/\c_c [.int P,tabD t,rowD s] = .ok (.tup [.int ((i:Nat):Int),.int ((r:Nat):Int),.lst (L.map D.int)]):=by
 have hp:1<P:=by lia
 obtain⟨p,ep⟩:=Int.eq_ofNat_of_zero_le (show 0<=P by lia)
 obtain⟨e,e2,eP,epa⟩:=w1v (m:=m) p1 p2 m1 m3
 obtain⟨M,hW,hM⟩:=x7j (m:=m) (e:=e) ep p1
 have hb:=x4q (m:=m) (e:=e) p1 p2 m3
 have hl:(z3b P m e).length<=6:=by rw[y4t];lia
 have epr:=s_B hl hb
 have epp:=s_a hl hb
 obtain⟨w1,w2⟩:=y2k (z3b P m e) hb
 rw[hW] at epr w1 w2
 generalize hWW:M*p^e=W at *
 have W1:1<=W:=by lia
 have Wb:W<2^150:=by
  have h0:(W:Int)=z1d (z5u P m)*z1d (List.replicate e P):=by rw[<-hW,<-z6o];rfl
  obtain⟨a1,a2⟩:=y2k (z5u P m) (x0y p1 p2 m3)
  have a3:z1d (z5u P m)<=100000000^4:=by
   have hc:(z5u P m).length=2∨(z5u P m).length=3∨(z5u P m).length=4:=by unfold z5u;simp;lia
   rcases hc with e | e | e<;>rw[e] at a2<;>refine Int.le_trans a2 (by decide)
  have a4:z1d (List.replicate e P)<=9973*9973/\0<=z1d (List.replicate e P):=by
   have hc:e=0∨e=1∨e=2:=by lia
   rcases hc with rfl | rfl | rfl
   ·rw[List.replicate_zero,z1d];lia
   ·rw[List.replicate_succ,List.replicate_zero,z1d,z1d];lia
   ·rw[List.replicate_succ,List.replicate_succ,List.replicate_zero,z1d,z1d,z1d,Int.mul_one]
    exact⟨Int.mul_le_mul p2 p2 (by lia) (by lia),Int.mul_nonneg (by lia) (by lia)⟩
  have a5:(W:Int)<=100000000^4*(9973*9973):=by rw[h0];exact Int.mul_le_mul a3 a4.1 a4.2 (by lia)
  lia
 have mW:m<=W:=by
  have h6:0<p^e:=Nat.pow_pos (by lia)
  have h7:M≠0:=fun z=>by rw[z,Nat.zero_mul] at hWW;lia
  have h8:1*p^e<=M*p^e:=Nat.mul_le_mul_right _ (by lia)
  have h9:((p^e:Nat):Int)=P^e:=by rw[Int.natCast_pow,ep]
  lia
 have el:=s_D p1 p2 m3 ht Wb
 have hk:=x6i Wb
 have hWk:W<2^figZ W:=by
  have:=x6h W
  have h2:=Nat.mod_lt W (Nat.two_pow_pos (figZ W))
  lia
 have k1:1<=figZ W:=by
  rcases Nat.eq_zero_or_pos (figZ W) with z | z
  ·rw[z,Nat.pow_zero] at hWk;lia
  ·exact z
 have hu:=z1g (s:=s) hp ht m
 have uo:=z8d (m:=m) (t:=t) (s:=s) (show 0<P by lia) m
 have eu:=s_A (s:=s) (n:=m) p1 p2 m3 ht hs so hk (by lia)
 have hround:=fun n hn=>y6w (s:=s) (j:=e) (M:=M) ep hD p1 p2 m3 ht hs hM (by
  have h9:((p^e:Nat):Int)=P^e:=by rw[Int.natCast_pow,ep]
  lia) n hn
 rw[hWW] at hround
 have pW:stZ P m t (stZ P m t s m) W=stZ P m t s m:=by rw[z1h hp ht hs];exact hround m (Nat.le_refl m)
 have hL:∀q∈z5k (z5q (z3b P m e)),2<=q/\q<=100000000:=fun q hq=>by
  obtain⟨a,x,hx,hd⟩:=(z9k hb).mp (z7c.mp hq)
  have:=Int.le_of_dvd (by have:=(hb x hx).1;lia) hd
  exact⟨a.1,by have:=(hb x hx).2;lia⟩
 obtain⟨r,r1,rW,rd,pr,hr,er⟩:=s_v (s:=stZ P m t s m) p1 p2 m3 ht hu uo hk hWk W1 pW hL
 rw[z1h hp ht hs] at pr
 obtain⟨i,i1,i2,i3,ei⟩:=s_L (s:=s) (W:=W) p1 p2 m3 ht hs so k1 hk (show r<2^figZ W by lia) pr
 have H:=x4o hp ht hu uo
 have least0:∀k,stZ P m t (stZ P m t s m) k=stZ P m t s m->r∣k:=fun k hk'=>by
  refine H.least r1 (by rw[z1h hp ht hs];exact pr) (fun q q1 q2=>hr q ?_ q2) hk'
  refine z7c.mpr ((z9k hb).mpr ⟨q1,z9w q1 ?_⟩)
  rw[hW]
  exact Int.natCast_dvd_natCast.mpr (Nat.dvd_trans q2 rd)
 refine⟨i,r,(z5k (z5q (z3b P m e))).filter (fun q=>(r:Int)%q==0),⟨i1,r1,by lia,i2,i3,fun j k hjk=>?_,(y5i _).filter _,fun q hq=>?_,fun q q1 q2=>?_⟩,?_⟩
 ·refine least0 k ?_
  have h1:∀n,stZ P m t (stZ P m t s m) (r*n)=stZ P m t s m:=fun n=>H.mul (by rw[z1h hp ht hs];exact pr) n
  have h2:stZ P m t s (m+r*j)=stZ P m t s m:=by rw[<-z1h hp ht hs];exact h1 j
  have h3:j<=m+r*j:=by
   have:1*j<=r*j:=Nat.mul_le_mul_right j r1
   lia
  have h4:stZ P m t s (m+r*j+k)=stZ P m t s (m+r*j):=by
   rw[show m+r*j+k=(j+k)+(m+r*j-j) by lia,<-z1h hp ht hs,hjk,z1h hp ht hs,show j+(m+r*j-j)=m+r*j by lia]
  rw[z1h hp ht hs]
  have h5:=h4
  rw[<-z1h hp ht hs,h2,z1h hp ht hs] at h5
  exact h5
 ·obtain⟨h1,h2⟩:=List.mem_filter.mp hq
  obtain⟨a,_⟩:=(z9k hb).mp (z7c.mp h1)
  exact⟨a,(hL q h1).2,Int.dvd_of_emod_eq_zero (by simpa using h2)⟩
 ·refine List.mem_filter.mpr ⟨z7c.mpr ((z9k hb).mpr ⟨q1,z9w q1 ?_⟩),by simpa using Int.emod_eq_zero_of_dvd q2⟩
  rw[hW]
  exact Int.dvd_trans q2 (Int.natCast_dvd_natCast.mpr rd)
 ·refine z1k rfl ?_
  delta g_c
  have nt:=z7b (z2l P m t (figZ W))
  have nr:=z0k s
  have nr2:=z0k (stZ P m t s m)
  have tl:((t.length:Nat):Int)=(m:Int):=by rw[ht.1]
  refine z0w (d:=.int (m:Int)) (by simp only[tabD];walk_at "evs";rw[tl]) ?_
  refine z1z (ds:=(z3b P m e).map D.int) (by walk_at "evs";simp only[epa];walk_at "evs") ?_
  refine z0w (d:=.int (W:Int)) (by walk_at "evs";simp only[epr];walk_at "evs") ?_
  refine z1z (ds:=(z5k (z5q (z3b P m e))).map D.int) (by walk_at "evs";simp only[epp];walk_at "evs") ?_
  refine z1z (ds:=(z2l P m t (figZ W)).map tabD) (by walk_at "evs";simp only[el];walk_at "evs") ?_
  refine z0w (d:=.int (r:Int)) (by walk_at "evs";simp only[eu];walk_at "evs";simp only[er];walk_at "evs") ?_
  refine z2g ?_
  have efm:∀l:List Int,l.filterMap (fun q=>if ((r:Int)%q==0)=true then some (D.int q) else none)=(l.filter (fun q=>(r:Int)%q==0)).map D.int:=fun l=>by
   induction l with
   | nil=>rfl
   | cons x l ih =>
     rw[List.filterMap_cons,List.filter_cons]
     cases h:((r:Int)%x==0) with
     | true=>simp only[if_true,List.map_cons];rw[ih]
     | false=>simp only[Bool.false_eq_true,if_false];exact ih
  have fl:=z9l _ hb
  have sl:∀l:List Int,(z5k l).length<=l.length:=fun l=>by
   induction l with
   | nil=>exact Nat.le_refl _
   | cons x l ih =>
     have:∀y:List Int,(insU x y).length<=y.length+1:=fun y=>by
      induction y with
      | nil=>simp[insU]
      | cons z y ih=>unfold insU;split<;>simp;split<;>simp;exact ih
     rw[z5k,List.length_cons]
     have:=this (z5k l)
     lia
  have sl':=sl (z5q (z3b P m e))
  walk_at "evs"
  simp only[ei]
  walk_at "evs"
  rw[z9u (k:=D.int) (h:=fun q=>if ((r:Int)%q==0)=true then some (D.int q) else none) (fun q hq=>?_),efm]
  ·walk_at "evs"
  ·have q0:=(hL q hq).1
   walk_at "evs"
   cases h:((r:Int)%q==0) with
   | true=>walk_at "evs"
   | false=>rfl
section
variable {P:Int}{m:Nat}{t:List (List Int)}{s:List Int}{i r:Nat}{L:List Int}
theorem RingOf.turns(H:RingOf P m t s i r L)(hp:1<P)(ht:z1q P m t)(hs:s.length=m):∀(c n:Nat),i<=n->stZ P m t s (n+r*c)=stZ P m t s n
 | 0,n,_=>rfl
 | c+1,n,h=>by
   have h1:stZ P m t s (n+r)=stZ P m t s n:=by
    have:=z1h hp ht hs (i+r) (n-i)
    rw[H.comes,z1h hp ht hs,show i+(n-i)=n by lia,show i+r+(n-i)=n+r by lia] at this
    exact this.symm
   rw[Nat.mul_succ,show n+(r*c+r)=n+r*c+r by lia]
   have h2:=H.turns hp ht hs c n h
   rw[<-z1h hp ht hs,h2,z1h hp ht hs,h1]
theorem RingOf.down(H:RingOf P m t s i r L)(hp:1<P)(ht:z1q P m t)(hs:s.length=m){n:Nat}(h:i<=n):stZ P m t s (i+(n-i)%r)=stZ P m t s n:=by
 have h1:=H.turns hp ht hs ((n-i)/r) (i+(n-i)%r) (by lia)
 have h2:=Nat.div_add_mod (n-i) r
 rw[show i+(n-i)%r+r*((n-i)/r)=n by lia] at h1
 exact h1.symm
variable {g:List Int}
theorem RingOf.off(H:RingOf P m t s i r L)(hp:1<P)(ht:z1q P m t)(hs:s.length=m)(h0:∀a,a<=i->stZ P m t s a≠g)(h1:stZ P m t g r≠g)(n:Nat):stZ P m t s n≠g:=fun z=>by
 rcases Nat.lt_or_ge i n with q | q
 ·refine h1 ?_
  have:=H.turns hp ht hs 1 n (by lia)
  rw[Nat.mul_one,<-z1h hp ht hs,z] at this
  exact this
 ·exact h0 n q z
theorem w6e(k M:Nat)(hM:1<=M):k<=(k+M-1)/M*M/\(k+M-1)/M*M<k+M:=by
 have h1:=Nat.div_add_mod (k+M-1) M
 have h2:=Nat.mod_lt (k+M-1) (show 0<M by lia)
 rw[Nat.mul_comm M] at h1
 lia
theorem RingOf.lands(H:RingOf P m t s i r L)(hp:1<P)(ht:z1q P m t)(hs:s.length=m){M:Nat}(hM:1<=M){k:Nat}(k1:0<k)(k2:k<r)(e:stZ P m t s (i+k)=g):∃l j,1<=l/\l<=(r+M-1)/M/\j<M/\l*M=k+j/\stZ P m t g j=stZ P m t s (i+l*M):=by
 obtain⟨a,b⟩:=w6e k M hM
 refine⟨(k+M-1)/M,(k+M-1)/M*M-k,Nat.div_pos (by lia) (by lia),Nat.div_le_div_right (by lia),by lia,by lia,?_⟩
 rw[<-e,z1h hp ht hs,show i+k+((k+M-1)/M*M-k)=i+(k+M-1)/M*M by lia]
theorem RingOf.apart(H:RingOf P m t s i r L)(hp:1<P)(ht:z1q P m t)(hs:s.length=m){M:Nat}(hM:1<=M)(h0:∀a,a<=i->stZ P m t s a≠g)(h1:∀l j,1<=l->l<=(r+M-1)/M->j<M->stZ P m t g j≠stZ P m t s (i+l*M))(n:Nat):stZ P m t s n≠g:=fun z=>by
 rcases Nat.lt_or_ge i n with q | q
 ·have e:=H.down hp ht hs (n:=n) (by lia)
  rw[z] at e
  have k2:=Nat.mod_lt (n-i) (show 0<r from H.pos)
  have k1:0<(n-i)%r:=by
   rcases Nat.eq_zero_or_pos ((n-i)%r) with w | w
   ·rw[w] at e;exact absurd e (h0 i (Nat.le_refl i))
   ·exact w
  obtain⟨l,j,a,b,c,_,d⟩:=H.lands hp ht hs hM k1 k2 e
  exact h1 l j a b c d
 ·exact h0 n q z
theorem RingOf.found(H:RingOf P m t s i r L)(hp:1<P)(ht:z1q P m t)(hs:s.length=m)(hg:g.length=m)(go:onW P g){M:Nat}(hM:1<=M)(hr:M<=r)(h0:∀a,a<=i->stZ P m t s a≠g)(h1:stZ P m t g r=g)
 {l j:Nat} (l1:1<=l) (jM:j<M) (e:stZ P m t g j=stZ P m t s (i+l*M)) (fl:∀l' j',1<=l'->l'<l->j'<M->stZ P m t g j'≠stZ P m t s (i+l'*M)) (fj:∀j',j'<j->stZ P m t g j'≠stZ P m t s (i+l*M)) :
 ∃n:Nat,i+l*M=n+j/\n<=i+r/\stZ P m t s n=g/\∀a,a<n->stZ P m t s a≠g:=by
 have r1:=H.pos
 have hl:M<=l*M:=by have:=Nat.mul_le_mul_right M l1;lia
 have G:=x4o hp ht hg go
 have e1:stZ P m t s (i+l*M+(r*j-j))=g:=by
  have hj:j<=r*j:=by have:=Nat.mul_le_mul_right j r1;lia
  rw[<-z1h hp ht hs,<-e,z1h hp ht hg,show j+(r*j-j)=r*j by lia]
  exact G.mul h1 j
 have e2:=H.down hp ht hs (n:=i+l*M+(r*j-j)) (by lia)
 rw[e1] at e2
 have k2:=Nat.mod_lt (i+l*M+(r*j-j)-i) (show 0<r from r1)
 have k1:0<(i+l*M+(r*j-j)-i)%r:=by
  rcases Nat.eq_zero_or_pos ((i+l*M+(r*j-j)-i)%r) with w | w
  ·rw[w] at e2;exact absurd e2 (h0 i (Nat.le_refl i))
  ·exact w
 generalize (i+l*M+(r*j-j)-i)%r=k at e2 k1 k2
 have ej:∀b,stZ P m t g b=stZ P m t s (i+k+b):=fun b=>by rw[<-e2,z1h hp ht hs]
 have dv:∀a b,a<=b->stZ P m t s a=stZ P m t s b->r∣b-a:=fun a b h z=>H.least a (b-a) (by rw[show a+(b-a)=b by lia,z])
 obtain⟨l0,j0,a0,_,c0,d0,f0⟩:=H.lands hp ht hs hM k1 k2 e2
 have ll:l<=l0:=by
  rcases Nat.lt_or_ge l0 l with w | w
  ·exact absurd f0 (fl l0 j0 a0 w c0)
  ·exact w
 have lM:l*M<=l0*M:=Nat.mul_le_mul_right M ll
 have kl:k<=l*M:=by
  rcases Nat.lt_or_ge (l*M) k with w | w
  ·have:=Nat.le_of_dvd (by lia) (dv (i+l*M) (i+k+j) (by lia) (by rw[<-ej,e]))
   lia
  ·exact w
 have jl:j<=l*M-k:=by
  rcases Nat.lt_or_ge (l*M-k) j with w | w
  ·exact absurd (by rw[ej,show i+k+(l*M-k)=i+l*M by lia]) (fj (l*M-k) w)
  ·exact w
 have jz:l*M-k-j=0:=by
  rcases Nat.eq_zero_or_pos (l*M-k-j) with w | w
  ·exact w
  ·have:=Nat.le_of_dvd (by lia) (dv (i+k+j) (i+l*M) (by lia) (by rw[<-ej,e]))
   lia
 refine⟨i+k,by lia,by lia,e2,fun a ha z=>?_⟩
 rcases Nat.lt_or_ge i a with w | w
 ·have:=Nat.le_of_dvd (by lia) (dv a (i+k) (by lia) (by rw[e2,z]))
  lia
 ·exact h0 a w z
end
end L3
namespace L3
open PySem
local macro_rules | `(tactic| walk_at "evs") => wkL " L3.z9o L3.z5b L3.z3w L3.s_on L3.z4n L3.z3c L3.z5t L3.z5w L3.z4z L3.z4d L3.z5x L3.z0k L3.z8w L3.y9o L3.y9l L3.x2u L3.Item.d L3.Item.ds_map L3.z7u L3.x3q L3.x3r L3.y6a L3.y0r L3.y3p L3.gZip L3.y7u L3.x6k L3.y1a L3.y3x L3.x9o L3.D.isNon L3.z7z L3.y6e L3.z9t L3.x0z"
theorem x5l(n:Nat)(l:List (List Int)):D.lay (n+2) (.lst (l.map rowD))=true:=by
 rw[w2y,List.all_eq_true]
 rintro d hd
 obtain⟨x,_,rfl⟩:=List.mem_map.mp hd
 exact z4z n x
theorem s_in(l:List (List Int))(x:List Int):dIn (rowD x) (.lst (l.map rowD)) = .ok (.bl (decide (x∈l))):=by
 have e:((l.map rowD).any fun y=>eqD y (rowD x))=decide (x∈l):=by
  rw[List.any_map,Bool.eq_iff_iff,List.any_eq_true,decide_eq_true_iff]
  constructor
  ·rintro⟨y,hy,h⟩
   have:y=x:=by simpa [z4d] using h
   exact this ▸ hy
  ·intro h
   exact⟨x,h,by simp[z4d]⟩
 unfold dIn
 rw[<-e]
 exact z0o ⟨z4z 39 x,x5l 38 l⟩
theorem x1c(x:List Int):∀(l:List (List Int)),x∈l->∃j,(l.map rowD).findIdx? (fun y=>eqD y (rowD x))=some j/\l[j]? = some x/\∀j',j'<j->l[j']? ≠ some x
 | [],h=>by simp at h
 | y::l,h=>by
   by_cases q:y=x
   ·subst q
    refine⟨0,?_,rfl,fun j' h=>absurd h (Nat.not_lt_zero _)⟩
    rw[List.map_cons,List.findIdx?_cons,z4d]
    simp
   ·have hm:x∈l:=by
     rcases List.mem_cons.mp h with w | w
     ·exact absurd w.symm q
     ·exact w
    obtain⟨j,a,b,c⟩:=x1c x l hm
    refine⟨j+1,?_,by simpa using b,fun j' h=>?_⟩
    ·rw[List.map_cons,List.findIdx?_cons,z4d,a]
     simp[q]
    ·cases j' with
     | zero=>simpa using q
     | succ j'=>simpa using c j' (by lia)
theorem x4d{l:List (List Int)}{x:List Int}(h:x∈l)(hl:l.length<=100000):∃j:Nat,y3w (l.map rowD) (rowD x) = .ok (.int (j:Int))/\l[j]? = some x/\∀j',j'<j->l[j']? ≠ some x:=by
 obtain⟨j,a,b,c⟩:=x1c x l h
 refine⟨j,?_,b,c⟩
 unfold y3w
 rw[a]
 exact z0o ⟨z4z 39 x,x5l 38 l,by rw[List.length_map];exact hl⟩
section
variable {P:Int}{m:Nat}{t:List (List Int)}{s:List Int}
noncomputable def z1c(P:Int)(m:Nat)(t:List (List Int))(s:List Int)(n:Nat):List (List Int):=(List.range n).map (stZ P m t s)
theorem z8c{n j:Nat}(h:j<n):(z1c P m t s n)[j]? = some (stZ P m t s j):=by
 unfold z1c
 rw[List.getElem?_map,List.getElem?_range h]
 rfl
theorem y9w{n j:Nat}{x:List Int}(h:(z1c P m t s n)[j]? = some x):j<n/\x=stZ P m t s j:=by
 have hj:j<n:=by
  have:=(List.getElem?_eq_some_iff.mp h).1
  simpa [z1c] using this
 rw[z8c hj] at h
 exact⟨hj,(Option.some.inj h).symm⟩
theorem y2o{n:Nat}{x:List Int}:x∈z1c P m t s n↔∃j,j<n/\stZ P m t s j=x:=by
 unfold z1c
 rw[List.mem_map]
 exact⟨fun⟨j,h,e⟩=>⟨j,List.mem_range.mp h,e⟩,fun⟨j,h,e⟩=>⟨j,List.mem_range.mpr h,e⟩⟩
theorem x1j(n:Nat):(z1c P m t s n).map rowD++[rowD (stZ P m t s n)]=(z1c P m t s (n+1)).map rowD:=by
 unfold z1c
 rw[List.range_succ,List.map_append,List.map_append]
 rfl
theorem z8b(n:Nat):(z1c P m t s n).length=n:=by simp[z1c]
theorem s_C{n:Nat}(p1:3<=P)(p2:P<=9973)(hm:m<=3)(ht:z1q P m t)(hs:s.length=m)(so:onW P s)(hn:n<=90000):c_C [.int P,tabD t,rowD s,.int n] = .ok ((z1c P m t s n).map rowD):=by
 have hp:1<P:=by lia
 refine y0s rfl ?_
 delta g_C
 refine z1z (ds:=[]) (by walk_at "evs") ?_
 refine z7w (ds:=z3r 0 n) (fun j Γ=>j<=n/\∃x,Γ=[.ro (.int P),.ro (tabD t),.ro (rowD (stZ P m t s j)),.ro (.int n),.own ((z1c P m t s j).map rowD),x]) (by walk_at "evs") ⟨Nat.zero_le n,.no,by rw[z9f hs so];rfl⟩ ?_ ?_
 ·rintro j d Γ hd ⟨hj,x,rfl⟩
  have hj':j<n:=by
   have:=(List.getElem?_eq_some_iff.mp hd).1
   rwa [z0j] at this
  have et:=s_F (P:=P) (ts:=t) (ss:=stZ P m t s j) (by lia) (by lia) (by rw[z1g hp ht];exact ht) (by rw[z1g hp ht];lia)
  rw[<-y2h hp ht hs] at et
  have n1:=z0k (stZ P m t s j)
  have n2:=z0k (stZ P m t s (j+1))
  refine .nx (z5o (Γ':=[.ro (.int P),.ro (tabD t),.ro (rowD (stZ P m t s j)),.ro (.int n),.own ((z1c P m t s (j+1)).map rowD),.ro d]) ((x2l (d:=rowD (stZ P m t s j)) rfl (by walk_at "evs") (by rw[List.length_map,z8b];lia)).trans (by rw[<-x1j];rfl)) (z6m (d:=rowD (stZ P m t s (j+1))) ?_)) ⟨hj',_,rfl⟩
  simp only[tabD,rowD] at et n2 ⊢
  walk_at "evs"
  simp only[et]
  walk_at "evs"
 ·rintro Γ ⟨hj,x,rfl⟩
  rw[z0j]
  exact w0t rfl
theorem w4i{r:Nat}(r1:1<=r)(r2:r<=10000):∃M:Nat,1<=M/\M<=100/\M<=r/\r<=M*M/\(M-1)*(M-1)<r/\c_o [.int r] = .ok (.int M):=by
 have key:∃M:Nat,1<=M/\M<=100/\r<=M*M/\(M-1)*(M-1)<r/\whGo (gT (gBin dLt (gBin dMul (gV 1) (gV 1)) (gV 0))) (gSet 1 (gNL (gBin dAdd (gV 1) (gC (.int 1))))) 200 [.ro (.int r),.ro (.int 0)] = .ok (.nx [.ro (.int r),.ro (.int M)]):=by
  refine z5a (fun z Γ=>∃x:Nat,Γ=[.ro (.int r),.ro (.int x)]/\x+z=101/\(1<=x->(x-1)*(x-1)<r)) (fun q=>∃M:Nat,1<=M/\M<=100/\r<=M*M/\(M-1)*(M-1)<r/\q = .ok (.nx [.ro (.int r),.ro (.int M)])) ?_ 200 101 _ (by lia) ⟨0,rfl,rfl,fun h=>absurd h (by lia)⟩
  rintro z Γ ⟨x,rfl,hx,hl⟩
  have xm:(x:Int)*(x:Int)=((x*x:Nat):Int):=(Int.natCast_mul x x).symm
  have x100:x<=101:=by lia
  by_cases h:x*x<r
  ·have xb:x<100:=by
    rcases Nat.lt_or_ge x 100 with w | w
    ·exact w
    ·have:=Nat.mul_le_mul w w
     lia
   have b1:decide ((x:Int)*(x:Int)<(r:Int))=true:=decide_eq_true (by rw[xm];lia)
   have e1:(x:Int)+1=((x+1:Nat):Int):=by lia
   refine .inr ⟨by walk_at "evs";rw[b1],.inl ⟨_,z-1,by lia,.inl (z6m (d:=.int ((x+1:Nat):Int)) (by walk_at "evs";rw[e1])),x+1,rfl,by lia,fun _=>by simpa using h⟩⟩
  ·have b1:decide ((x:Int)*(x:Int)<(r:Int))=false:=decide_eq_false (by rw[xm];lia)
   have x1:1<=x:=by
    rcases Nat.eq_zero_or_pos x with w | w
    ·rw[w] at h;lia
    ·exact w
   have xb:x<=100:=by
    rcases Nat.lt_or_ge x 101 with w | w
    ·lia
    ·have:=hl x1
     rw[show x-1=100 by lia] at this
     lia
   exact .inl ⟨by walk_at "evs";rw[b1],x,x1,xb,by lia,hl x1,rfl⟩
 obtain⟨M,a,b,c,d,e⟩:=key
 refine⟨M,a,b,?_,c,d,z1k rfl ?_⟩
 ·obtain⟨k,rfl⟩:∃k,M=k+1:=⟨M-1,by lia⟩
  rw[Nat.add_sub_cancel] at d
  rcases Nat.eq_zero_or_pos k with w | w
  ·lia
  ·have:=Nat.mul_le_mul_right k w
   lia
 ·delta g_o
  refine z0w (d:=.int 0) (by walk_at "evs") ?_
  refine z5o e (z2g ?_)
  walk_at "evs"
noncomputable def farZ(P:Int)(m:Nat)(t:List (List Int))(e:List Int)(M c:Nat):List (List Int):=(List.range c).map fun j=>stZ P m t e ((j+1)*M)
theorem x9e{e:List Int}{M c:Nat}:(farZ P m t e M c).length=c:=by simp[farZ]
theorem w3n{e:List Int}{M c j:Nat}{x:List Int}(h:(farZ P m t e M c)[j]? = some x):j<c/\x=stZ P m t e ((j+1)*M):=by
 have hj:j<c:=by
  have:=(List.getElem?_eq_some_iff.mp h).1
  simpa [farZ] using this
 unfold farZ at h
 rw[List.getElem?_map,List.getElem?_range hj] at h
 exact⟨hj,(Option.some.inj h).symm⟩
theorem x9f{e:List Int}{M c j:Nat}(hj:j<c):(farZ P m t e M c)[j]? = some (stZ P m t e ((j+1)*M)):=by
 unfold farZ
 rw[List.getElem?_map,List.getElem?_range hj]
 rfl
theorem w6g{M r:Nat}(p1:3<=P)(p2:P<=9973)(hm:m<=3)(ht:z1q P m t)(hs:s.length=m)(so:onW P s)(M1:1<=M)(M2:M<=100)(r2:r<=10000):c_l [.int P,tabD t,.int M,.int r,rowD s] = .ok ((farZ P m t s M ((r+M-1)/M)).map rowD):=by
 have hp:1<P:=by lia
 refine y0s rfl ?_
 delta g_l
 have er:=s_E (n:=M) p1 p2 hm ht (by lia)
 have nt:=z6c (powZ P m t M)
 refine z0w (d:=tabD (powZ P m t M)) (by walk_at "evs";simp only[er];walk_at "evs") ?_
 refine x0v ?_
 have hpk:=z2y hp ht M
 have et:=s_F (P:=P) (ts:=powZ P m t M) (ss:=s) (by lia) (by lia) (by rw[hs];exact hpk) (by lia)
 have ef:z2e P (powZ P m t M) s=stZ P m t s M:=rfl
 rw[ef] at et
 have hd:(r+M-1)/M<=90000:=Nat.le_trans (Nat.div_le_self _ _) (by lia)
 have ew:=s_C (P:=P) (m:=m) (t:=powZ P m t M) (s:=stZ P m t s M) (n:=(r+M-1)/M) p1 p2 hm hpk (z1g hp ht M) (z8d (by lia) M) hd
 have ez:z1c P m (powZ P m t M) (stZ P m t s M) ((r+M-1)/M)=farZ P m t s M ((r+M-1)/M):=by
  unfold z1c farZ
  refine List.map_congr_left fun j _=>?_
  show z2e P (powZ P m (powZ P m t M) j) _=_
  rw[y5s hp ht,show z2e P (powZ P m t (M*j)) (stZ P m t s M)=stZ P m t (stZ P m t s M) (M*j) from rfl,z1h hp ht hs,Nat.succ_mul,Nat.mul_comm j M,Nat.add_comm]
 rw[ez] at ew
 have e1:((r:Int)+(M:Int)-1)/(M:Int)=(((r+M-1)/M:Nat):Int):=by
  rw[show(r:Int)+(M:Int)-1=((r+M-1:Nat):Int) by lia];rfl
 simp only[tabD,rowD] at et ew ⊢
 walk_at "evs"
 simp only[et]
 walk_at "evs"
 rw[e1]
 simp only[ew]
 exact z0o (z2c _)
end
theorem x3s:(Str.ofString "after"==Str.ofString "after")=true:=by decide +kernel
theorem y4x{gb:G->R Fl}{i j:Nat}{I:G->Prop}{A:Nat->D->Prop}{B:Nat->D->D->Prop}:∀{xs:List D} {k:Nat} {Γ:G},I Γ->(∀(n:Nat) (a:D) (Γ:G),xs[n]? = some a->I Γ->(A (k+n) a/\∃Γ',gb ((Γ.set i (.ro (.int ((k+n:Nat):Int)))).set j (.ro a)) = .ok (.nx Γ')/\I Γ')∨∃v,B (k+n) a v/\gb ((Γ.set i (.ro (.int ((k+n:Nat):Int)))).set j (.ro a)) = .ok (.rt v))->((∀(n:Nat) (a:D),xs[n]? = some a->A (k+n) a)/\∃Γ',z3v gb i j (z4w k xs) Γ = .ok (.nx Γ')/\I Γ')∨∃(n:Nat) (a v:D),xs[n]? = some a/\(∀(n':Nat) (a':D),n'<n->xs[n']? = some a'->A (k+n') a')/\B (k+n) a v/\z3v gb i j (z4w k xs) Γ = .ok (.rt v)
 | [],k,Γ,h,_=>.inl ⟨fun n a e=>by simp at e,Γ,rfl,h⟩
 | x::xs,k,Γ,h,q=>by
   rcases q 0 x Γ rfl h with ⟨r,Γ',e1,i1⟩ | ⟨v,r,e1⟩
   ·simp only[Nat.add_zero] at r e1
    rcases y4x (xs:=xs) (k:=k+1) i1 (fun n b Γ hb hI=>by have:=q (n+1) b Γ (by simpa using hb) hI;rw[show k+(n+1)=k+1+n by lia] at this;exact this) with ⟨r2,z⟩ | ⟨n,a,v,h1,h2,h3,z⟩
    ·refine .inl ⟨fun n a ha=>?_,?_⟩
     ·cases n with
      | zero=>simp at ha;subst ha;simpa using r
      | succ n=>rw[show k+(n+1)=k+1+n by lia];exact r2 n a (by simpa using ha)
     ·rw[z4w,z3v,e1];exact z
    ·refine .inr ⟨n+1,a,v,by simpa using h1,fun n' a' hn ha=>?_,by rw[show k+(n+1)=k+1+n by lia];exact h3,by rw[z4w,z3v,e1];exact z⟩
     cases n' with
     | zero=>simp at ha;subst ha;simpa using r
     | succ n'=>rw[show k+(n'+1)=k+1+n' by lia];exact h2 n' a' (by lia) (by simpa using ha)
   ·simp only[Nat.add_zero] at r e1
    exact .inr ⟨0,x,v,rfl,fun n' _ hn=>absurd hn (Nat.not_lt_zero _),by simpa using r,by rw[z4w,z3v,e1]⟩
theorem x5o(n:Nat):D.lay n (.str (Str.ofString "after"))=true:=by rw[y1f];decide +kernel
theorem x5m(n:Nat):D.lay n (.str (Str.ofString "off"))=true:=by rw[y1f];decide +kernel
theorem x5n(n:Nat):D.lay n (.str (Str.ofString "apart"))=true:=by rw[y1f];decide +kernel
theorem w4c:(Str.ofString "off"==Str.ofString "after")=false:=by decide +kernel
theorem w4b:(Str.ofString "apart"==Str.ofString "after")=false:=by decide +kernel
section
variable {P:Int}{m:Nat}{t:List (List Int)}{s g:List Int}{i r:Nat}{L:List Int}
noncomputable def Told(P:Int)(m:Nat)(t:List (List Int))(s g:List Int)(i r:Nat)(d:D):Prop :=
 (∃n:Nat,d = .tup [.str (Str.ofString "after"),.int n]/\n<=i+r/\stZ P m t s n=g/\∀a,a<n->stZ P m t s a≠g) ∨
 ((∀n,stZ P m t s n≠g)/\stZ P m t g r≠g/\d = .tup [.str (Str.ofString "off"),.int i,.int r]) ∨
 ((∀n,stZ P m t s n≠g)/\stZ P m t g r=g/\∃M:Nat,1<=M/\M<=100/\r<=M*M/\(M-1)*(M-1)<r/\(∀x,x∈farZ P m t (stZ P m t s i) M ((r+M-1)/M)->¬x∈z1c P m t g M) /\
   d = .tup [.str (Str.ofString "apart"),.int i,.int r,.lst ((z1c P m t g M).map rowD),.lst ((farZ P m t (stZ P m t s i) M ((r+M-1)/M)).map rowD)])
theorem s_i(H:RingOf P m t s i r L)(p1:3<=P)(p2:P<=9973)(hm:m<=3)(ht:z1q P m t)(hs:s.length=m)(hg:g.length=m)(go:onW P g)(r2:r<=10000)(h0:∀a,a<=i->stZ P m t s a≠g)(h1:stZ P m t g r=g) :
 ∃d,Told P m t s g i r d/\c_i [.int P,tabD t,.int i,.int r,rowD (stZ P m t s i),rowD g] = .ok d:=by
 have hp:1<P:=by lia
 obtain⟨M,M1,M2,Mr,M3,M4,em⟩:=w4i H.pos r2
 have en:=s_C (P:=P) (m:=m) (t:=t) (s:=g) (n:=M) p1 p2 hm ht hg go (by lia)
 have ef:=w6g (P:=P) (m:=m) (t:=t) (s:=stZ P m t s i) (M:=M) (r:=r) p1 p2 hm ht (z1g hp ht i) (z8d (by lia) i) M1 M2 r2
 have n1:=z2c (z1c P m t g M)
 have n2:=z2c (farZ P m t (stZ P m t s i) M ((r+M-1)/M))
 have fz:∀{j:Nat} {x:List Int},(farZ P m t (stZ P m t s i) M ((r+M-1)/M))[j]? = some x->j<(r+M-1)/M/\x=stZ P m t s (i+(j+1)*M):=fun h=>by
  obtain⟨a,b⟩:=w3n h
  exact⟨a,by rw[b,z1h hp ht hs]⟩
 have im:=H.tail
 have body:∀(k:Nat) (x:List Int),k<=20000->(¬x∈z1c P m t g M/\(gIfS (gT (gBin dIn (gV 10) (gV 7))) (gRet (gTup (gCons (gC (.str "after")) (gCons (gBin dSub (gBin dAdd (gV 2) (gBin dMul (gV 9) (gV 6))) (z9t (gV 7) (gV 10))) gNil)))) z1i) ([.ro (.int P),.ro (tabD t),.ro (.int i),.ro (.int r),.ro (rowD (stZ P m t s i)),.ro (rowD g),.ro (.int M),.own ((z1c P m t g M).map rowD),.ro (.lst ((farZ P m t (stZ P m t s i) M ((r+M-1)/M)).map rowD)),.ro (.int (k:Int)),.ro (rowD x)]) = .ok (.nx ([.ro (.int P),.ro (tabD t),.ro (.int i),.ro (.int r),.ro (rowD (stZ P m t s i)),.ro (rowD g),.ro (.int M),.own ((z1c P m t g M).map rowD),.ro (.lst ((farZ P m t (stZ P m t s i) M ((r+M-1)/M)).map rowD)),.ro (.int (k:Int)),.ro (rowD x)]))) ∨
  ∃j:Nat,(z1c P m t g M)[j]? = some x/\(∀j',j'<j->(z1c P m t g M)[j']? ≠ some x)/\(gIfS (gT (gBin dIn (gV 10) (gV 7))) (gRet (gTup (gCons (gC (.str "after")) (gCons (gBin dSub (gBin dAdd (gV 2) (gBin dMul (gV 9) (gV 6))) (z9t (gV 7) (gV 10))) gNil)))) z1i) ([.ro (.int P),.ro (tabD t),.ro (.int i),.ro (.int r),.ro (rowD (stZ P m t s i)),.ro (rowD g),.ro (.int M),.own ((z1c P m t g M).map rowD),.ro (.lst ((farZ P m t (stZ P m t s i) M ((r+M-1)/M)).map rowD)),.ro (.int (k:Int)),.ro (rowD x)]) = .ok (.rt (.tup [.str (Str.ofString "after"),.int ((i:Int)+(k:Int)*(M:Int)-(j:Int))])):=fun k x hk=>by
  have ei:=s_in (z1c P m t g M) x
  have nx:=z0k x
  by_cases q:x∈z1c P m t g M
  ·obtain⟨j,e,a,b⟩:=x4d q (by rw[z8b];lia)
   refine .inr ⟨j,a,b,z8q ?_ (z2g ?_)⟩
   ·rw[decide_eq_true q] at ei
    walk_at "evs"
    simp only[ei]
    walk_at "evs"
   ·walk_at "evs"
    simp only[e]
    walk_at "evs"
  ·refine .inl ⟨q,y1t ?_⟩
   rw[decide_eq_false q] at ei
   walk_at "evs"
   simp only[ei]
   walk_at "evs"
 have loop:=y4x (gb:=(gIfS (gT (gBin dIn (gV 10) (gV 7))) (gRet (gTup (gCons (gC (.str "after")) (gCons (gBin dSub (gBin dAdd (gV 2) (gBin dMul (gV 9) (gV 6))) (z9t (gV 7) (gV 10))) gNil)))) z1i)) (i:=9) (j:=10) (I:=fun Γ=>∃x9 x10,Γ=[.ro (.int P),.ro (tabD t),.ro (.int i),.ro (.int r),.ro (rowD (stZ P m t s i)),.ro (rowD g),.ro (.int M),.own ((z1c P m t g M).map rowD),.ro (.lst ((farZ P m t (stZ P m t s i) M ((r+M-1)/M)).map rowD)),x9,x10]) (A:=fun _ d=>∃x,d=rowD x/\¬x∈z1c P m t g M)
  (B:=fun k d v=>∃(x:List Int) (j:Nat),d=rowD x/\(z1c P m t g M)[j]? = some x/\(∀j',j'<j->(z1c P m t g M)[j']? ≠ some x)/\v = .tup [.str (Str.ofString "after"),.int ((i:Int)+(k:Int)*(M:Int)-(j:Int))])
  (xs:=(farZ P m t (stZ P m t s i) M ((r+M-1)/M)).map rowD) (k:=1) (Γ:=[.ro (.int P),.ro (tabD t),.ro (.int i),.ro (.int r),.ro (rowD (stZ P m t s i)),.ro (rowD g),.ro (.int M),.own ((z1c P m t g M).map rowD),.ro (.lst ((farZ P m t (stZ P m t s i) M ((r+M-1)/M)).map rowD)),.no,.no]) ⟨_,_,rfl⟩ (by
  rintro n a Γ ha ⟨x9,x10,rfl⟩
  rw[List.getElem?_map] at ha
  obtain⟨x,hx,rfl⟩:=Option.map_eq_some_iff.mp ha
  obtain⟨hn,_⟩:=fz hx
  have hc:(r+M-1)/M<=10100:=Nat.le_trans (Nat.div_le_self _ _) (by lia)
  rcases body (1+n) x (by lia) with ⟨q,e⟩ | ⟨j,q1,q2,e⟩
  ·exact .inl ⟨⟨x,rfl,q⟩,_,e,_,_,rfl⟩
  ·exact .inr ⟨_,⟨x,j,rfl,q1,q2,rfl⟩,e⟩)
 have start:∀d,gSt (gFrz 8 (x2p 9 10 (x0z (gVr 8)) (gIfS (gT (gBin dIn (gV 10) (gV 7))) (gRet (gTup (gCons (gC (.str "after")) (gCons (gBin dSub (gBin dAdd (gV 2) (gBin dMul (gV 9) (gV 6))) (z9t (gV 7) (gV 10))) gNil)))) z1i))) (gRet (gTup (gCons (gC (.str "apart")) (gCons (gV 2) (gCons (gV 3) (gCons (gV 7) (gCons (gV 8) gNil))))))) [.ro (.int P),.ro (tabD t),.ro (.int i),.ro (.int r),.ro (rowD (stZ P m t s i)),.ro (rowD g),.ro (.int M),.own ((z1c P m t g M).map rowD),.own ((farZ P m t (stZ P m t s i) M ((r+M-1)/M)).map rowD),.no,.no] = .ok (.rt d) ->
  c_i [.int P,tabD t,.int i,.int r,rowD (stZ P m t s i),rowD g] = .ok d:=fun d h=>by
  refine z1k rfl ?_
  delta g_i
  refine z0w (d:=.int M) (by walk_at "evs";simp only[em];walk_at "evs") ?_
  refine z1z (ds:=(z1c P m t g M).map rowD) (by walk_at "evs";simp only[en];walk_at "evs") ?_
  refine z1z (ds:=(farZ P m t (stZ P m t s i) M ((r+M-1)/M)).map rowD) (by walk_at "evs";simp only[ef];walk_at "evs") ?_
  exact h
 have fr:frzAt 8 [.ro (.int P),.ro (tabD t),.ro (.int i),.ro (.int r),.ro (rowD (stZ P m t s i)),.ro (rowD g),.ro (.int M),.own ((z1c P m t g M).map rowD),.own ((farZ P m t (stZ P m t s i) M ((r+M-1)/M)).map rowD),.no,.no]=[.ro (.int P),.ro (tabD t),.ro (.int i),.ro (.int r),.ro (rowD (stZ P m t s i)),.ro (rowD g),.ro (.int M),.own ((z1c P m t g M).map rowD),.ro (.lst ((farZ P m t (stZ P m t s i) M ((r+M-1)/M)).map rowD)),.no,.no]:=rfl
 have get:∀l,1<=l->l<=(r+M-1)/M->(farZ P m t (stZ P m t s i) M ((r+M-1)/M))[l-1]? = some (stZ P m t s (i+l*M)):=fun l a b=>by
  rw[x9f (by lia),z1h hp ht hs,show l-1+1=l by lia]
 rcases loop with ⟨hA,Γ',eL,x9,x10,rfl⟩ | ⟨n,a,v,hx,hA,⟨x,j,rfl,q1,q2,rfl⟩,eL⟩
 ·have dis:∀x,x∈farZ P m t (stZ P m t s i) M ((r+M-1)/M)->¬x∈z1c P m t g M:=fun x hx=>by
   obtain⟨n,hn⟩:=List.getElem?_of_mem hx
   obtain⟨x',e,q⟩:=hA n (rowD x) (by rw[List.getElem?_map,hn];rfl)
   rw[y0i e]
   exact q
  refine⟨_,.inr (.inr ⟨H.apart hp ht hs M1 h0 fun l j a b c z=>?_,h1,M,M1,M2,M3,M4,dis,rfl⟩),start _ ?_⟩
  ·refine dis _ (List.mem_of_getElem? (get l a b)) (y2o.mpr ⟨j,c,z⟩)
  ·refine z5o (Γ':=[.ro (.int P),.ro (tabD t),.ro (.int i),.ro (.int r),.ro (rowD (stZ P m t s i)),.ro (rowD g),.ro (.int M),.own ((z1c P m t g M).map rowD),.ro (.lst ((farZ P m t (stZ P m t s i) M ((r+M-1)/M)).map rowD)),x9,x10]) ?_ (z2g ?_)
   ·unfold gFrz x2p
    rw[fr]
    walk_at "evs"
    exact eL
   ·walk_at "evs"
 ·rw[List.getElem?_map] at hx
  obtain⟨y,hy,ey⟩:=Option.map_eq_some_iff.mp hx
  obtain rfl:=y0i ey
  obtain⟨hn,e1⟩:=fz hy
  obtain⟨jM,e2⟩:=y9w q1
  obtain⟨n0,a1,a2,a3,a4⟩:=H.found hp ht hs hg go M1 Mr h0 h1 (l:=1+n) (j:=j) (by lia) jM (by rw[<-e2,e1,Nat.add_comm n 1]) (fun l' j' b1 b2 b3 z=>by
   obtain⟨x',e3,q⟩:=hA (l'-1) (rowD (stZ P m t s (i+l'*M))) (by lia) (by rw[List.getElem?_map,get l' b1 (by lia)];rfl)
   rw[<-y0i e3] at q
   exact q (y2o.mpr ⟨j',b3,z⟩)) (fun j' b1 z=>q2 j' b1 (by rw[z8c (by lia),z,e1,Nat.add_comm n 1]))
  refine⟨_,.inl ⟨n0,rfl,a2,a3,a4⟩,start _ (y4e ?_)⟩
  have ev:(i:Int)+((1+n:Nat):Int)*(M:Int)-(j:Int)=(n0:Int):=by
   rw[<-Int.natCast_mul];lia
  rw[ev] at eL
  unfold gFrz x2p
  rw[fr]
  walk_at "evs"
  exact eL
theorem x0e{its:List Item}(hD:z1x P=false)(p1:3<=P)(p2:P<=9973)(m1:1<=m)(m3:m<=3)(hd:Item.deeps its<=3)(ho:Item.oks P m its)(hs:s.length=m)(so:onW P s)(hg:g.length=m)(go:onW P g) :
 ∃(i r:Nat) (L:List Int),RingOf P m (Item.tabs P m its) s i r L/\c_c [.int P,tabD (Item.tabs P m its),rowD s] = .ok (.tup [.int (i:Int),.int (r:Int),.lst (L.map D.int)])/\(r<=10000->∃d,Told P m (Item.tabs P m its) s g i r d/\c_I [.int P,.int m,.tup (its.map Item.d),rowD s,rowD g] = .ok d):=by
 have hp:1<P:=by lia
 have ht:=Item.tabs_ok hp its ho
 have et:=s_y (P:=P) (m:=m) p1 p2 m3 12 its (by lia) ho
 generalize Item.tabs P m its=t at *
 obtain⟨i,r,L,H,eR⟩:=s_c hD p1 p2 m1 m3 ht hs so
 refine⟨i,r,L,H,eR,fun r2=>?_⟩
 have im:=H.tail
 have r1:=H.pos
 have ew:=s_C (P:=P) (m:=m) (t:=t) (s:=s) (n:=i+1) p1 p2 m3 ht hs so (by lia)
 have er:=s_E (n:=r) p1 p2 m3 ht (by lia)
 have eg:=s_F (P:=P) (ts:=powZ P m t r) (ss:=g) (by lia) (by lia) (by rw[hg];exact z2y hp ht r) (by lia)
 have egz:z2e P (powZ P m t r) g=stZ P m t g r:=rfl
 rw[egz] at eg
 have nI:=y1c its
 have nt:=z6c t
 have nw:=z2c (z1c P m t s (i+1))
 have ns:=z0k s
 have ng:=z0k g
 have e1:(i:Int)+1=((i+1:Nat):Int):=by lia
 have b1:decide ((r:Int)>10000)=false:=decide_eq_false (by lia)
 have start:∀d,(gSt (gIfS (gT (gBin dIn (gV 4) (gV 9))) (gRet (gTup (gCons (gC (.str "after")) (gCons (z9t (gV 9) (gV 4)) gNil)))) z1i)
 (gSt (gIfS (gT (gBin dNe (z0g c_F (gCons (gV 0) (gCons (z0g c_E (gCons (gV 0) (gCons (gV 5) (gCons (gV 8) gNil)))) (gCons (gV 4) gNil)))) (gV 4))) (gRet (gTup (gCons (gC (.str "off")) (gCons (gV 7) (gCons (gV 8) gNil))))) z1i)
 (gRet (z7z c_i (gCons (gVr 0) (gCons (gVr 5) (gCons (gVr 7) (gCons (gVr 8) (gCons (gNL (gBin dIx (gV 9) (gV 7))) (gCons (gVr 4) gNil)))))))))) [.ro (.int P),.ro (.int m),.ro (.tup (its.map Item.d)),.ro (rowD s),.ro (rowD g),.ro (tabD t),.ro (.tup [.int (i:Int),.int (r:Int),.lst (L.map D.int)]),.ro (.int i),.ro (.int r),.own ((z1c P m t s (i+1)).map rowD)] = .ok (.rt d)->c_I [.int P,.int m,.tup (its.map Item.d),rowD s,rowD g] = .ok d:=fun d h=>by
  refine z1k rfl ?_
  delta g_I
  refine z0w (d:=tabD t) (by walk_at "evs";simp only[et];walk_at "evs") ?_
  refine z0w (d:=.tup [.int (i:Int),.int (r:Int),.lst (L.map D.int)]) (by walk_at "evs";simp only[eR]) ?_
  refine z0w (d:=.int (i:Int)) (by walk_at "evs") ?_
  refine z0w (d:=.int (r:Int)) (by walk_at "evs") ?_
  refine z1u (by walk_at "evs";rw[b1]) ?_
  refine z1z (ds:=(z1c P m t s (i+1)).map rowD) (by walk_at "evs";rw[e1];simp only[ew];walk_at "evs") ?_
  exact h
 have ei:=s_in (z1c P m t s (i+1)) g
 by_cases q:g∈z1c P m t s (i+1)
 ·obtain⟨j,e,a,b⟩:=x4d q (by rw[z8b];lia)
  obtain⟨jn,e3⟩:=y9w a
  refine⟨_,.inl ⟨j,rfl,by lia,e3.symm,fun a ha z=>b a ha (by rw[z8c (by lia),z])⟩,start _ (y4e (z8q ?_ (z2g ?_)))⟩
  ·rw[decide_eq_true q] at ei
   walk_at "evs"
   simp only[ei]
   walk_at "evs"
  ·walk_at "evs"
   simp only[e]
   walk_at "evs"
 ·have h0:∀a,a<=i->stZ P m t s a≠g:=fun a ha z=>q (y2o.mpr ⟨a,by lia,z⟩)
  rw[decide_eq_false q] at ei
  have skip1:(gIfS (gT (gBin dIn (gV 4) (gV 9))) (gRet (gTup (gCons (gC (.str "after")) (gCons (z9t (gV 9) (gV 4)) gNil)))) z1i) [.ro (.int P),.ro (.int m),.ro (.tup (its.map Item.d)),.ro (rowD s),.ro (rowD g),.ro (tabD t),.ro (.tup [.int (i:Int),.int (r:Int),.lst (L.map D.int)]),.ro (.int i),.ro (.int r),.own ((z1c P m t s (i+1)).map rowD)] = .ok (.nx [.ro (.int P),.ro (.int m),.ro (.tup (its.map Item.d)),.ro (rowD s),.ro (rowD g),.ro (tabD t),.ro (.tup [.int (i:Int),.int (r:Int),.lst (L.map D.int)]),.ro (.int i),.ro (.int r),.own ((z1c P m t s (i+1)).map rowD)]):=y1t (by
   walk_at "evs"
   simp only[ei]
   walk_at "evs")
  by_cases q2:stZ P m t g r=g
  ·obtain⟨d,hT,eO⟩:=s_i H p1 p2 m3 ht hs hg go r2 h0 q2
   refine⟨d,hT,start _ (z5o skip1 (z1u ?_ (z2g ?_)))⟩
   ·rw[q2] at eg
    simp only[tabD,rowD] at er eg ⊢
    walk_at "evs"
    simp only[er]
    walk_at "evs"
    simp only[eg]
    walk_at "evs"
    try simp
   ·have eix:atI ((z1c P m t s (i+1)).map rowD) (i:Int)=some (rowD (stZ P m t s i)):=by
     rw[z3q,List.getElem?_map,z8c (by lia)]
     rfl
    have nsi:=z0k (stZ P m t s i)
    walk_at "evs"
    simp only[eix]
    walk_at "evs"
    simp only[eO]
  ·refine⟨_,.inr (.inl ⟨H.off hp ht hs h0 q2,q2,rfl⟩),start _ (z5o skip1 (y4e (z8q ?_ (z2g ?_))))⟩
   ·simp only[tabD,rowD] at er eg ⊢
    walk_at "evs"
    simp only[er]
    walk_at "evs"
    simp only[eg]
    walk_at "evs"
    try simp[q2]
    rw[z0o ⟨z2u 39 _,z2u 39 _⟩]
    rfl
   ·walk_at "evs"
end
mutual
theorem Item.layD:∀(a:Item) (n:Nat),2*Item.deep a+2<=n->D.lay n a.d=true
 | .set x f,n,h=>by
   obtain⟨k,rfl⟩:∃k,n=k+2:=⟨n-2,by simp only[Item.deep] at h;lia⟩
   have:=z4z k f
   rw[Item.d,z8o]
   simp only[List.all_cons,List.all_nil,y6a,z4c,this,Bool.and_self]
 | .again c its,n,h=>by
   obtain⟨k,rfl⟩:∃k,n=k+2:=⟨n-2,by simp only[Item.deep] at h;lia⟩
   have:=Item.layDs its k (by simp only[Item.deep] at h;lia)
   rw[Item.d,z8o]
   simp only[List.all_cons,List.all_nil,y0r,z4c,z8o,this,Bool.and_self]
theorem Item.layDs:∀(its:List Item) (n:Nat),2*Item.deeps its+2<=n->(Item.ds its).all (D.lay n)=true
 | [],_,_=>rfl
 | a::r,n,h=>by
   have h1:=Item.layD a n (by simp only[Item.deeps] at h;lia)
   have h2:=Item.layDs r n (by simp only[Item.deeps] at h;lia)
   rw[Item.ds,List.all_cons,h1,h2]
   rfl
end
theorem y8x{ns:List Int}{P:Int}{m:Nat}(p1:3<=P)(p2:P<=9973)(m1:1<=m)(m3:m<=3)(hn:ns.length<=63):∃its:List Item,c_g [.lst (ns.map D.int),.int P,.int m] = .ok (.tup (its.map Item.d))/\Item.oks P m its/\Item.deeps its<=3:=by
 obtain⟨its,ei,ho,hd,hc⟩:=w1y (cs:=cutL ns (some 6) (some 40)) (many:=m) (ag:=1) p1 p2 (by lia) (by lia) (Nat.le_trans (x9q ns _ _) hn)
 have nI:=y1c its
 have ly:D.lay 40 (.tup (its.map Item.d))=true:=by rw[z8o,<-Item.ds_map];exact Item.layDs its 39 (by lia)
 have l0:D.lay 40 (.tup [])=true:=by rw[z8o];rfl
 cases its with
 | nil =>
   obtain⟨x,f,es,hs⟩:=w4h (c:=z5n ns 3) (m:=z5n ns 4) (P:=P) (many:=m) p1 p2 (by lia) (by lia)
   refine⟨[.set x f],z1k rfl ?_,Item.oks_iff.mpr fun a ha=>by rw[List.mem_singleton] at ha;subst ha;exact hs,by simp[Item.deeps,Item.deep]⟩
   delta g_g
   refine z0w (d:=.tup []) (by walk_at "evs";rw[y7z];simp only[ei];walk_at "evs";try rfl) ?_
   refine y4e (z8q (by walk_at "evs";try simp only[l0,x1d (show D.pl (.tup [])=true by rw[D.pl];rfl)];try rfl) (z2g ?_))
   walk_at "evs"
   simp only[es]
   walk_at "evs"
   try rfl
 | cons a r =>
   refine⟨a::r,z1k rfl ?_,ho,hd⟩
   delta g_g
   have eF:eqD (.tup ((a::r).map Item.d)) (.tup [])=false:=by
    rw[List.map_cons,eqD,eqDs]
    all_goals simp
   have nI':=nI
   simp only[List.map_cons] at nI'
   refine z0w (d:=.tup ((a::r).map Item.d)) (by walk_at "evs";rw[y7z];simp only[ei];walk_at "evs") ?_
   refine z1u ?_ (z2g (by walk_at "evs"))
   simp only[List.map_cons] at eF ly nI ⊢
   walk_at "evs"
   rw[eF]
   simp only[ly,l0]
   walk_at "evs"
   try rfl
theorem x4c{P:Int}{m:Nat}{its:List Item}{s:List Int}{d:D}(p1:3<=P)(p2:P<=9973)(m3:m<=3)(hd:Item.deeps its<=3)(ho:Item.oks P m its)(h:c_c [.int P,tabD (Item.tabs P m its),rowD s] = .ok d):c_K [.int P,.int m,.tup (its.map Item.d),rowD s] = .ok d:=by
 have et:=s_y (P:=P) (m:=m) p1 p2 m3 12 its (by lia) ho
 generalize Item.tabs P m its=t at *
 refine z1k rfl (z2g ?_)
 have nI:=y1c its
 have ns:=z0k s
 have nt':=z3c t
 walk_at "evs"
 simp only[et]
 walk_at "evs"
 simp only[h]
section
variable {P:Int}{m:Nat}{t:List (List Int)}{s g:List Int}{i r:Nat}{L:List Int}
theorem x9d{M c:Nat}(hp:1<P)(ht:z1q P m t)(hs:s.length=m):z1c P m (powZ P m t M) (stZ P m t s M) c=farZ P m t s M c:=by
 unfold z1c farZ
 refine List.map_congr_left fun j _=>?_
 show z2e P (powZ P m (powZ P m t M) j) _=_
 rw[y5s hp ht,show z2e P (powZ P m t (M*j)) (stZ P m t s M)=stZ P m t (stZ P m t s M) (M*j) from rfl,z1h hp ht hs,Nat.succ_mul,Nat.mul_comm j M,Nat.add_comm]
theorem w0h{n:Nat}(p1:3<=P)(p2:P<=9973)(hm:m<=3)(ht:z1q P m t)(hs:s.length=m)(so:onW P s)(hn:n<=20000):c_x [.int P,tabD t,rowD s,.int n,.lst ((z1c P m t s n).map rowD)] = .ok (.bl true):=by
 have hp:1<P:=by lia
 have nl:=z2c (z1c P m t s n)
 have ll:((z1c P m t s n).map rowD).length=n:=by rw[List.length_map,z8b]
 refine z1k rfl ?_
 delta g_x
 refine z1u (by
  generalize (z1c P m t s n).map rowD=E at nl ll
  walk_at "evs"
  try rw[ll]
  try simp
  try walk_at "evs") ?_
 refine z7w (ds:=(z1c P m t s n).map rowD) (fun j Γ=>j<=n/\∃x5,Γ=[.ro (.int P),.ro (tabD t),.ro (rowD (stZ P m t s j)),.ro (.int n),.ro (.lst ((z1c P m t s n).map rowD)),x5]) (by walk_at "evs") ⟨Nat.zero_le _,.no,by rw[z9f hs so];rfl⟩ ?_ ?_
 ·rintro j dd Γ hd' ⟨hj,x5,rfl⟩
  have hj':j<n:=by
   have:=(List.getElem?_eq_some_iff.mp hd').1
   rwa [ll] at this
  rw[List.getElem?_map,z8c hj'] at hd'
  cases hd'
  have et:=s_F (P:=P) (ts:=t) (ss:=stZ P m t s j) (by lia) (by lia) (by rw[z1g hp ht];exact ht) (by rw[z1g hp ht];lia)
  rw[<-y2h hp ht hs] at et
  have n1:=z0k (stZ P m t s (j+1))
  have n0:=z0k (stZ P m t s j)
  generalize (z1c P m t s n).map rowD=E at nl ll
  refine .nx (z1u (by
   simp only[List.set_cons_succ,List.set_cons_zero,z2s (stZ P m t s j)]
   walk_at "evs"
   try simp) (z6m (d:=rowD (stZ P m t s (j+1))) (by
   simp only[List.set_cons_succ,List.set_cons_zero]
   simp only[tabD,rowD] at et n1 ⊢
   walk_at "evs"
   simp only[et]
   walk_at "evs"))) ⟨hj',_,rfl⟩
 ·rintro Γ ⟨_,x5,rfl⟩
  exact z2g (by walk_at "evs")
theorem y7d(l:List (List Int)):(l.map rowD).all D.isRow=true:=by
 rw[List.all_map,List.all_eq_true]
 intro x _
 show(x.map D.int).all _=true
 rw[List.all_map,List.all_eq_true]
 intro y _
 rfl
theorem x7w{M:Nat}(p1:3<=P)(p2:P<=9973)(hm:m<=3)(ht:z1q P m t)(hs:s.length=m)(so:onW P s)(hg:g.length=m)(go:onW P g)(M1:1<=M)(M2:M<=100)(r2:r<=10000)(M3:r<=M*M)(M4:(M-1)*(M-1)<r)(dis:∀x,x∈farZ P m t s M ((r+M-1)/M)->¬x∈z1c P m t g M) :
 c_k [.int P,tabD t,.int r,rowD s,rowD g,.lst ((z1c P m t g M).map rowD),.lst ((farZ P m t s M ((r+M-1)/M)).map rowD)] = .ok (.bl true):=by
 have hp:1<P:=by lia
 have er:=s_E (n:=M) p1 p2 hm ht (by lia)
 have hpk:=z2y hp ht M
 have et:=s_F (P:=P) (ts:=powZ P m t M) (ss:=s) (by lia) (by lia) (by rw[hs];exact hpk) (by lia)
 have ef:z2e P (powZ P m t M) s=stZ P m t s M:=rfl
 rw[ef] at et
 have hdv:(r+M-1)/M<=20000:=Nat.le_trans (Nat.div_le_self _ _) (by lia)
 have w1:=w0h (P:=P) (m:=m) (t:=t) (s:=g) (n:=M) p1 p2 hm ht hg go (by lia)
 have w2:=w0h (P:=P) (m:=m) (t:=powZ P m t M) (s:=stZ P m t s M) (n:=(r+M-1)/M) p1 p2 hm hpk (z1g hp ht M) (z8d (by lia) M) hdv
 rw[x9d hp ht hs] at w2
 have e1:((r:Int)+(M:Int)-1)/(M:Int)=(((r+M-1)/M:Nat):Int):=by
  rw[show(r:Int)+(M:Int)-1=((r+M-1:Nat):Int) by lia];rfl
 have nN:=z2c (z1c P m t g M)
 have nF:=z2c (farZ P m t s M ((r+M-1)/M))
 have lN:((z1c P m t g M).map rowD).length=M:=by rw[List.length_map,z8b]
 have lF:((farZ P m t s M ((r+M-1)/M)).map rowD).length=(r+M-1)/M:=by rw[List.length_map,x9e]
 have aN:=y7d (z1c P m t g M)
 have aF:=y7d (farZ P m t s M ((r+M-1)/M))
 have nd:(((farZ P m t s M ((r+M-1)/M)).map rowD).any fun y=>((z1c P m t g M).map rowD).any fun x=>eqD x y)=false:=by
  rw[Bool.eq_false_iff]
  intro h
  obtain⟨y,hy,h⟩:=List.any_eq_true.mp h
  obtain⟨x,hx,h⟩:=List.any_eq_true.mp h
  obtain⟨y',hy',rfl⟩:=List.mem_map.mp hy
  obtain⟨x',hx',rfl⟩:=List.mem_map.mp hx
  have e:x'=y':=by simpa [z4d] using h
  exact dis y' hy' (e ▸ hx')
 generalize (z1c P m t g M).map rowD=EN at *
 generalize (farZ P m t s M ((r+M-1)/M)).map rowD=EF at *
 have b1:decide ((M:Int)*(M:Int)<(r:Int))=false:=decide_eq_false (by rw[<-Int.natCast_mul];lia)
 have b2:decide (((M:Int)-1)*((M:Int)-1)≥(r:Int))=false:=decide_eq_false (by
  rw[show(M:Int)-1=((M-1:Nat):Int) by lia,<-Int.natCast_mul];lia)
 have nt:=z3c (powZ P m t M)
 refine z1k rfl ?_
 delta g_k
 refine z1u (by walk_at "evs") ?_
 refine z0w (d:=.int (M:Int)) (by walk_at "evs";try rw[lN]) ?_
 refine z1u (by
  walk_at "evs"
  try simp only[b1]
  walk_at "evs"
  try simp only[b2]
  walk_at "evs"
  simp only[w1]
  walk_at "evs") ?_
 refine z0w (d:=tabD (powZ P m t M)) (by walk_at "evs";simp only[er];walk_at "evs") ?_
 refine z1u (by
  simp only[tabD,rowD] at et w2 ⊢
  walk_at "evs"
  simp only[et]
  walk_at "evs"
  rw[e1]
  simp only[w2]
  walk_at "evs") ?_
 show x6b 5 6 [.ro (.int P),.ro (tabD t),.ro (.int (r:Int)),.ro (rowD s),.ro (rowD g),.ro (.lst EN),.ro (.lst EF),.ro (.int (M:Int)),.ro (tabD (powZ P m t M)),.no,.no]=_
 show R.guard _ (R.ok (Fl.rt (D.bl (!(EF.any fun y=>EN.any fun x=>eqD x y)))))=_
 rw[nd]
 exact z0o ⟨aN,aF,by lia,by lia⟩
end
noncomputable section
noncomputable def w3m:G->R Fl :=
 (gSt (gSet 1 (gNL (z0g c_m (gCons (z0g c_s (gCons (gV 0) (gCons (gC (.int 0)) gNil))) gNil))))
 (gSt (gSet 2 (gNL (gBin dAdd (gC (.int 1)) (gBin dMod (z0g c_s (gCons (gV 0) (gCons (gC (.int 1)) gNil))) (gC (.int 3))))))
 (gSt (gSet 3 (gNL (z0g c_g (gCons (gV 0) (gCons (gV 1) (gCons (gV 2) gNil))))))
 (gSt (gIfS (gT (gBin dEq (gBin dMod (gBin dDiv (z0g c_s (gCons (gV 0) (gCons (gC (.int 1)) gNil))) (gC (.int 3))) (gC (.int 8))) (gC (.int 7)))) (gSet 3 (gNL (gTup gNil))) z1i)
 (gSt (gSet 4 (gNL (z0g c_h (gCons (z0g c_s (gCons (gV 0) (gCons (gC (.int 2)) gNil))) (gCons (gV 1) (gCons (gV 2) gNil))))))
 (gSt (gSet 5 (gNL (z0g c_h (gCons (z0g c_s (gCons (gV 0) (gCons (gC (.int 5)) gNil))) (gCons (gV 1) (gCons (gV 2) gNil))))))
 (gSt (gIfS (gT (gBin dEq (gBin dMod (z0g c_s (gCons (gV 0) (gCons (gC (.int 4)) gNil))) (gC (.int 3))) (gC (.int 0)))) (gSet 5 (gNL (gBin dAdd (gSl (gV 4) gON (gOS (gC (.int 1)))) (gSl (gV 5) (gOS (gC (.int 1))) gON)))) z1i)
 (gSt (y6e [6,7,8] (z7z c_K (gCons (gVr 1) (gCons (gVr 2) (gCons (gVr 3) (gCons (gVr 4) gNil))))))
 (gSt (gIfS (gT (gBin dGt (gV 7) (gC (.int 10000)))) (gRet (gC (.bl true))) z1i)
 (gSt (gSet 9 (gNL (z0g (c_y 12) (gCons (gV 1) (gCons (gV 2) (gCons (gV 3) gNil))))))
 (gSt (gSet 10 (z7z c_I (gCons (gVr 1) (gCons (gVr 2) (gCons (gVr 3) (gCons (gVr 4) (gCons (gVr 5) gNil)))))))
 (gSt (gIfS (gOr (gNot (gT (gIsi z2k (gV 10)))) (gT (gBin dLt (z0g dLen (gCons (gV 10) gNil)) (gC (.int 2))))) (gRet (gC (.bl false))) z1i)
 (gSt (gIfS (gT (gBin dEq (gBin dIx (gV 10) (gC (.int 0))) (gC (.str "after")))) (gSt (gSet 11 (gNL (z8t (gBin dEq (z0g dLen (gCons (gV 10) gNil)) (gC (.int 2))) (z8t (z0g c_r (gCons (gBin dIx (gV 10) (gC (.int 1))) gNil)) (gBin dGe (gBin dIx (gV 10) (gC (.int 1))) (gC (.int 0)))))))
 (gRet (z8t (gV 11) (gBin dEq (z0g c_F (gCons (gV 1) (gCons (z0g c_E (gCons (gV 1) (gCons (gV 9) (gCons (gBin dIx (gV 10) (gC (.int 1))) gNil)))) (gCons (gV 4) gNil)))) (gV 5))))) z1i)
 (gSt (gIfS (gOr (gNot (gT (z0g dAll (gCons (gL (z2z (z5i (gSl (gV 10) (gOS (gC (.int 1))) (gOS (gC (.int 3))))) (fElt (gNL (z0g (noEr c_r) (gCons (gV 0) gNil)))))) gNil)))) (gT (gBin dNe (gSl (gV 10) (gOS (gC (.int 1))) (gOS (gC (.int 3)))) (gTup (gCons (gV 6) (gCons (gV 7) gNil)))))) (gRet (gC (.bl false))) z1i)
 (gSt (gSet 12 (gNL (gV 4)))
 (gSt (gFor 13 (z5v (gBin dAdd (gV 6) (gC (.int 1))))
 (gSt (gIfS (gT (gBin dEq (gV 12) (gV 5))) (gRet (gC (.bl false))) z1i)
 (gIfS (gT (gBin dLt (gV 13) (gV 6))) (gSet 12 (gNL (z0g c_F (gCons (gV 1) (gCons (gV 9) (gCons (gV 12) gNil)))))) z1i)))
 (gSt (gSet 14 (gNL (z0g c_F (gCons (gV 1) (gCons (z0g c_E (gCons (gV 1) (gCons (gV 9) (gCons (gV 7) gNil)))) (gCons (gV 5) gNil))))))
 (gSt (gIfS (gT (gBin dEq (gBin dIx (gV 10) (gC (.int 0))) (gC (.str "off")))) (gRet (z8t (gBin dEq (z0g dLen (gCons (gV 10) gNil)) (gC (.int 3))) (gBin dNe (gV 14) (gV 5)))) z1i)
 (gSt (gIfS (gOr (gT (gBin dNe (gBin dIx (gV 10) (gC (.int 0))) (gC (.str "apart")))) (gOr (gT (gBin dNe (z0g dLen (gCons (gV 10) gNil)) (gC (.int 5)))) (gT (gBin dNe (gV 14) (gV 5))))) (gRet (gC (.bl false))) z1i)
 (gRet (z0g c_k (gCons (gV 1) (gCons (gV 9) (gCons (gV 7) (gCons (gV 12) (gCons (gV 5) (gCons (gBin dIx (gV 10) (gC (.int 3))) (gCons (gBin dIx (gV 10) (gC (.int 4))) gNil))))))))))))))))))))))))))))
noncomputable def c_law:List D->R D:=fnC 1 15 w3m
end
theorem w1i{t u:G->R Fl}{Γ:G}{r:R Fl}(Q:G->Prop)(h:∃Γ',t Γ = .ok (.nx Γ')/\Q Γ')(k:∀Γ',Q Γ'->u Γ'=r):gSt t u Γ=r:=let ⟨Γ',e,q⟩:=h;z5o e (k Γ' q)
theorem law_k72:w6z c_law:=by
 intro ns hn
 obtain⟨P,eP,p1,p2,hD⟩:=w1u (z5n ns 0)
 obtain⟨m,em,m1,m3⟩:=x8p (z5n ns 1)
 have hp:1<P:=by lia
 have p0:0<P:=by lia
 refine z1k rfl ?_
 unfold w3m
 refine z0w (d:=.int P) (by walk_at "evs";simp only[eP];walk_at "evs") ?_
 refine z0w (d:=.int m) (by walk_at "evs";rw[em]) ?_
 obtain⟨its0,ei,ho0,hd0⟩:=y8x (ns:=ns) p1 p2 m1 m3 hn
 have nI0:=y1c its0
 refine z0w (d:=.tup (its0.map Item.d)) (by walk_at "evs";simp only[ei];walk_at "evs") ?_
 refine w1i (fun Γ=>∃its:List Item,Γ=[.ro (.lst (ns.map D.int)),.ro (.int P),.ro (.int m),.ro (.tup (its.map Item.d)),.no,.no,.no,.no,.no,.no,.no,.no,.no,.no,.no]/\Item.oks P m its/\Item.deeps its<=3) ?_ ?_
 ·by_cases q:z5n ns 1/3%8=7
  ·have bq:(z5n ns 1/3%8==7)=true:=by simp[q]
   have n0:(D.tup []).noL=true:=y1c []
   exact⟨_,z8q (by walk_at "evs";rw[bq]) ((z6m (d:=.tup []) (by walk_at "evs")).trans rfl),[],rfl,Item.oks_iff.mpr (fun a ha=>nomatch ha),by simp[Item.deeps]⟩
  ·have bq:(z5n ns 1/3%8==7)=false:=by simp[q]
   exact⟨_,y1t (by walk_at "evs";rw[bq]),its0,rfl,ho0,hd0⟩
 rintro Γ ⟨its,rfl,ho,hd⟩
 clear ei nI0 ho0 hd0 em eP
 have nI:=y1c its
 have sl:=z5d P m (z5n ns 2)
 have so:=z9m (P:=P) p0 m (z5n ns 2)
 refine z0w (d:=rowD (z4p P m (z5n ns 2))) (by walk_at "evs";rfl) ?_
 generalize z4p P m (z5n ns 2)=s at sl so
 have gl0:=z5d P m (z5n ns 5)
 have go0:=z9m (P:=P) p0 m (z5n ns 5)
 refine z0w (d:=rowD (z4p P m (z5n ns 5))) (by walk_at "evs";rfl) ?_
 generalize z4p P m (z5n ns 5)=g0 at gl0 go0
 refine w1i (fun Γ=>∃g:List Int,Γ=[.ro (.lst (ns.map D.int)),.ro (.int P),.ro (.int m),.ro (.tup (its.map Item.d)),.ro (rowD s),.ro (rowD g),.no,.no,.no,.no,.no,.no,.no,.no,.no]/\g.length=m/\onW P g) ?_ ?_
 ·by_cases q:z5n ns 4%3=0
  ·have bq:(z5n ns 4%3==0)=true:=by simp[q]
   have lt:(s.take 1++g0.drop 1).length=m:=by rw[List.length_append,List.length_take,List.length_drop];lia
   have nS:=z0k (s.take 1++g0.drop 1)
   have c1:cutL (s.map D.int) none (some 1)=(s.take 1).map D.int:=by
    have:=y3z (s.map D.int) 1
    rw[<-List.map_take] at this
    exact this
   have c2:cutL (g0.map D.int) (some 1) none=(g0.drop 1).map D.int:=by
    have:=z8x (g0.map D.int) 1
    rw[<-List.map_drop] at this
    exact this
   have l3:(s.take 1).length<=30:=by rw[List.length_take];lia
   have l4:(g0.drop 1).length<=30:=by rw[List.length_drop];lia
   refine⟨_,z8q (by walk_at "evs";rw[bq]) ((z6m (d:=rowD (s.take 1++g0.drop 1)) ?_).trans rfl),_,rfl,lt,fun z hz=>?_⟩
   ·simp only[z2s,List.map_append] at nS ⊢
    walk_at "evs"
    rw[c1,c2]
    walk_at "evs"
   ·rcases List.mem_append.mp hz with z' | z'
    ·exact so z (List.mem_of_mem_take z')
    ·exact go0 z (List.mem_of_mem_drop z')
  ·have bq:(z5n ns 4%3==0)=false:=by simp[q]
   exact⟨_,y1t (by walk_at "evs";rw[bq]),g0,rfl,gl0,go0⟩
 rintro Γ ⟨g,rfl,lg,og⟩
 clear gl0 go0
 obtain⟨i,r,L,H,eR,hR⟩:=x0e hD p1 p2 m1 m3 hd ho sl so lg og
 have er:=x4c p1 p2 m3 hd ho eR
 have et:=s_y (P:=P) (m:=m) p1 p2 m3 12 its (by lia) ho
 have ht:=Item.tabs_ok hp its ho
 have im:=H.tail
 have r1:=H.pos
 have bnd:=H.bound
 generalize Item.tabs P m its=t at *
 have nt:=z3c t
 have eU:(y6e [6,7,8] (z7z c_K (gCons (gVr 1) (gCons (gVr 2) (gCons (gVr 3) (gCons (gVr 4) gNil)))))) [.ro (.lst (ns.map D.int)),.ro (.int P),.ro (.int m),.ro (.tup (its.map Item.d)),.ro (rowD s),.ro (rowD g),.no,.no,.no,.no,.no,.no,.no,.no,.no] = .ok (.nx [.ro (.lst (ns.map D.int)),.ro (.int P),.ro (.int m),.ro (.tup (its.map Item.d)),.ro (rowD s),.ro (rowD g),.ro (.int (i:Int)),.ro (.int (r:Int)),.ro (.lst (L.map D.int)),.no,.no,.no,.no,.no,.no]):=by
  walk_at "evs"
  simp only[er]
  walk_at "evs"
  try rfl
 refine z5o eU ?_
 have ng:=z0k g
 by_cases q:10000<r
 ·have b1:decide ((r:Int)>10000)=true:=decide_eq_true (by lia)
  exact y4e (z8q (by walk_at "evs";try rw[b1]) (z2g (by walk_at "evs")))
 have b1:decide ((r:Int)>10000)=false:=decide_eq_false (by lia)
 refine z1u (by walk_at "evs";try rw[b1]) ?_
 refine z0w (d:=tabD t) (by walk_at "evs";simp only[et];walk_at "evs") ?_
 obtain⟨d,hT,eH⟩:=hR (by lia)
 refine z0w (d:=d) (by walk_at "evs";simp only[eH]) ?_
 have ea:∀a:Nat,a<2^150->c_E [.int P,tabD t,.int a] = .ok (tabD (powZ P m t a)):=fun a ha=>s_E p1 p2 m3 ht ha
 have eb:∀(a:Nat) (v:List Int),v.length=m->c_F [.int P,tabD (powZ P m t a),rowD v] = .ok (rowD (stZ P m t v a)):=fun a v hv=>s_F (P:=P) (ts:=powZ P m t a) (ss:=v) (by lia) (by lia) (by rw[hv];exact z2y hp ht a) (by lia)
 have nst:∀(a:Nat) (v:List Int),(tabD (powZ P m t a)).noL=true/\(rowD (stZ P m t v a)).noL=true:=fun a v=>⟨z3c _,z0k _⟩
 have lk:=x5o 40
 rcases hT with ⟨k,rfl,k1,k2,k3⟩ | hT
 ·have kb:k<=10003:=by lia
  refine z1u (by walk_at "evs";try rfl) ?_
  refine y4e (z8q (by walk_at "evs";try simp only[z7u,x3s,z0o (And.intro lk lk)];try rfl) ?_)
  have b0:decide ((k:Int)≥0)=true:=decide_eq_true (by lia)
  refine z0w (d:=.bl true) (by
   walk_at "evs"
   try simp only[b0]
   try walk_at "evs"
   try rfl) ?_
  have e1:=ea k (by lia)
  have e2:=eb k s sl
  rw[k2] at e2
  obtain⟨q1,q2⟩:=nst k s
  refine z2g ?_
  walk_at "evs"
  simp only[e1]
  walk_at "evs"
  simp only[e2]
  walk_at "evs"
  try simp
 have never:∀a,stZ P m t s a≠g:=by
  rcases hT with ⟨h,_⟩ | ⟨h,_⟩<;>exact h
 have loop:∀(d:D) (u:G->R Fl) (res:R Fl),(∀x13,u [.ro (.lst (ns.map D.int)),.ro (.int P),.ro (.int m),.ro (.tup (its.map Item.d)),.ro (rowD s),.ro (rowD g),.ro (.int (i:Int)),.ro (.int (r:Int)),.ro (.lst (L.map D.int)),.ro (tabD t),.ro d,.no,.ro (rowD (stZ P m t s i)),x13,.no]=res)->gSt (gSet 12 (gNL (gV 4))) (gSt (gFor 13 (z5v (gBin dAdd (gV 6) (gC (.int 1))))
 (gSt (gIfS (gT (gBin dEq (gV 12) (gV 5))) (gRet (gC (.bl false))) z1i)
 (gIfS (gT (gBin dLt (gV 13) (gV 6))) (gSet 12 (gNL (z0g c_F (gCons (gV 1) (gCons (gV 9) (gCons (gV 12) gNil)))))) z1i))) u) [.ro (.lst (ns.map D.int)),.ro (.int P),.ro (.int m),.ro (.tup (its.map Item.d)),.ro (rowD s),.ro (rowD g),.ro (.int (i:Int)),.ro (.int (r:Int)),.ro (.lst (L.map D.int)),.ro (tabD t),.ro d,.no,.no,.no,.no]=res:=fun d u res hu=>by
  have nS:=z0k s
  refine z0w (d:=rowD s) (by walk_at "evs") ?_
  have e1:(i:Int)+1=((i+1:Nat):Int):=by lia
  refine z7w (ds:=z3r 0 (i+1)) (fun j Γ=>∃x13,Γ=[.ro (.lst (ns.map D.int)),.ro (.int P),.ro (.int m),.ro (.tup (its.map Item.d)),.ro (rowD s),.ro (rowD g),.ro (.int (i:Int)),.ro (.int (r:Int)),.ro (.lst (L.map D.int)),.ro (tabD t),.ro d,.no,.ro (rowD (stZ P m t s (min j i))),x13,.no]) (by walk_at "evs";rw[e1];walk_at "evs") ⟨.no,by rw[Nat.zero_min,z9f sl so];rfl⟩ ?_ ?_
  ·rintro j dd Γ hd' ⟨x13,rfl⟩
   obtain⟨hj,rfl⟩:=z7p hd'
   rw[Int.zero_add]
   have hji:min j i=j:=by lia
   have ne:=never (min j i)
   have n0:=z0k (stZ P m t s (min j i))
   by_cases qj:j<i
   ·have b5:decide ((j:Int)<(i:Int))=true:=decide_eq_true (by lia)
    have et:=s_F (P:=P) (ts:=t) (ss:=stZ P m t s j) (by lia) (by lia) (by rw[z1g hp ht];exact ht) (by rw[z1g hp ht];lia)
    rw[<-y2h hp ht sl] at et
    have n1:=z0k (stZ P m t s (j+1))
    rw[show min (j+1) i=j+1 by lia]
    refine .nx (z1u (by
     simp only[List.set_cons_succ,List.set_cons_zero]
     walk_at "evs"
     try simp[ne]) ((z8q (by
     simp only[List.set_cons_succ,List.set_cons_zero]
     walk_at "evs"
     try rw[b5]) (z6m (d:=rowD (stZ P m t s (j+1))) (by
     simp only[List.set_cons_succ,List.set_cons_zero,hji]
     simp only[tabD,rowD] at et n1 ⊢
     walk_at "evs"
     simp only[et]
     walk_at "evs"))).trans rfl)) ⟨_,rfl⟩
   ·have b5:decide ((j:Int)<(i:Int))=false:=decide_eq_false (by lia)
    rw[show min (j+1) i=min j i by lia]
    refine .nx (z1u (by
     simp only[List.set_cons_succ,List.set_cons_zero]
     walk_at "evs"
     try simp[ne]) (y1t (by
     simp only[List.set_cons_succ,List.set_cons_zero]
     walk_at "evs"
     try rw[b5]))) ⟨_,rfl⟩
  ·rintro Γ ⟨x13,rfl⟩
   rw[z0j,show min (i+1) i=i by lia]
   exact hu x13
 have lg2:=lg
 obtain⟨q1,q2⟩:=nst r g
 have e1:=ea r bnd
 have e2:=eb r g lg
 have comp:∀Γ:G,z0y (fun d=>fElt (gNL (z0g (noEr c_r) (gCons (gV 0) gNil))) d Γ) [.int (i:Int),.int (r:Int)] [] = .ok [.bl true,.bl true]:=fun Γ=>by
  have w1:=z3w (i:Int)
  have w2:=z3w (r:Int)
  simp only[z0y,fElt]
  walk_at "evs"
  try rfl
 have eqt:eqD (.tup [.int (i:Int),.int (r:Int)]) (.tup [.int (i:Int),.int (r:Int)])=true:=x1d (by rw[x0g];rfl)
 have ltt:D.lay 40 (.tup [.int (i:Int),.int (r:Int)])=true:=by rw[z8o];simp only[List.all_cons,List.all_nil,z4c,Bool.and_self]
 have chk:∀ds:List D,cutL ds (some 1) (some 3)=[.int (i:Int),.int (r:Int)]->gOr (gNot (gT (z0g dAll (gCons (gL (z2z (z5i (gSl (gV 10) (gOS (gC (.int 1))) (gOS (gC (.int 3))))) (fElt (gNL (z0g (noEr c_r) (gCons (gV 0) gNil)))))) gNil)))) (gT (gBin dNe (gSl (gV 10) (gOS (gC (.int 1))) (gOS (gC (.int 3)))) (gTup (gCons (gV 6) (gCons (gV 7) gNil))))) [.ro (.lst (ns.map D.int)),.ro (.int P),.ro (.int m),.ro (.tup (its.map Item.d)),.ro (rowD s),.ro (rowD g),.ro (.int (i:Int)),.ro (.int (r:Int)),.ro (.lst (L.map D.int)),.ro (tabD t),.ro (.tup ds),.no,.no,.no,.no] = .ok false:=fun ds c3=>by
  have eSl:(gSl (gV 10) (gOS (gC (.int 1))) (gOS (gC (.int 3)))) [.ro (.lst (ns.map D.int)),.ro (.int P),.ro (.int m),.ro (.tup (its.map Item.d)),.ro (rowD s),.ro (rowD g),.ro (.int (i:Int)),.ro (.int (r:Int)),.ro (.lst (L.map D.int)),.ro (tabD t),.ro (.tup ds),.no,.no,.no,.no] = .ok (.tup [.int (i:Int),.int (r:Int)]):=by
   walk_at "evs"
   simp only[c3]
  have c1:z2z (z5i (gSl (gV 10) (gOS (gC (.int 1))) (gOS (gC (.int 3))))) (fElt (gNL (z0g (noEr c_r) (gCons (gV 0) gNil)))) [.ro (.lst (ns.map D.int)),.ro (.int P),.ro (.int m),.ro (.tup (its.map Item.d)),.ro (rowD s),.ro (rowD g),.ro (.int (i:Int)),.ro (.int (r:Int)),.ro (.lst (L.map D.int)),.ro (tabD t),.ro (.tup ds),.no,.no,.no,.no] = .ok [.bl true,.bl true]:=by
   unfold z2z z5i
   rw[eSl]
   show(R.guard (D.noLs [D.int (i:Int),.int (r:Int)]=true) (.ok [D.int (i:Int),.int (r:Int)])>>=_)=_
   rw[z0o (show D.noLs [D.int (i:Int),.int (r:Int)]=true from z1b [(i:Int),(r:Int)])]
   show R.guard _ (z0y _ [D.int (i:Int),.int (r:Int)] [])=_
   rw[comp,z0o (by simp)]
  have eA:z0g dAll (gCons (gL (z2z (z5i (gSl (gV 10) (gOS (gC (.int 1))) (gOS (gC (.int 3))))) (fElt (gNL (z0g (noEr c_r) (gCons (gV 0) gNil)))))) gNil) [.ro (.lst (ns.map D.int)),.ro (.int P),.ro (.int m),.ro (.tup (its.map Item.d)),.ro (rowD s),.ro (rowD g),.ro (.int (i:Int)),.ro (.int (r:Int)),.ro (.lst (L.map D.int)),.ro (tabD t),.ro (.tup ds),.no,.no,.no,.no] = .ok (.bl true):=by
   refine(show ∀φ:G->R (List D),φ _ = .ok [D.bl true,.bl true]->z0g dAll (gCons (gL φ) gNil) _ = .ok (.bl true) from fun φ h=>?_) _ c1
   unfold z0g gCons gL
   rw[h]
   exact z3y [true,true]
  have eT:gTup (gCons (gV 6) (gCons (gV 7) gNil)) [.ro (.lst (ns.map D.int)),.ro (.int P),.ro (.int m),.ro (.tup (its.map Item.d)),.ro (rowD s),.ro (rowD g),.ro (.int (i:Int)),.ro (.int (r:Int)),.ro (.lst (L.map D.int)),.ro (tabD t),.ro (.tup ds),.no,.no,.no,.no] = .ok (.tup [.int (i:Int),.int (r:Int)]):=by
   walk_at "evs"
   try rfl
  unfold gOr gNot gT gBin
  rw[eA,eSl,eT]
  show(R.guard _ (R.ok (D.bl (!eqD (.tup [.int (i:Int),.int (r:Int)]) (.tup [.int (i:Int),.int (r:Int)]))))>>=asB)=_
  rw[eqt,z0o ⟨ltt,ltt⟩]
  rfl
 rcases hT with ⟨_,hne,rfl⟩ | ⟨_,hge,M,M1,M2,M3,M4,dis,rfl⟩
 ·have lo:=x5m 40
  have so':(Str.ofString "off"==Str.ofString "off")=true:=by decide +kernel
  refine z1u (by walk_at "evs";try rfl) ?_
  refine z1u (by walk_at "evs";simp only[z7u,w4c,z0o (And.intro lo lk)];try rfl) ?_
  refine z1u (chk _ rfl) ?_
  refine loop _ _ _ fun x13=>?_
  refine z0w (d:=rowD (stZ P m t g r)) (by
   walk_at "evs"
   simp only[e1]
   walk_at "evs"
   simp only[e2]
   walk_at "evs") ?_
  refine y4e (z8q (by walk_at "evs";try simp only[z7u,so',z0o (And.intro lo lo)];try rfl) (z2g ?_))
  walk_at "evs"
  try simp[hne]
 ·have la:=x5n 40
  have lo:=x5m 40
  have so':(Str.ofString "apart"==Str.ofString "off")=false:=by decide +kernel
  have sa':(Str.ofString "apart"==Str.ofString "apart")=true:=by decide +kernel
  have EQ:=x7w (P:=P) (m:=m) (t:=t) (s:=stZ P m t s i) (g:=g) (r:=r) (M:=M) p1 p2 m3 ht (z1g hp ht i) (z8d p0 i) lg og M1 M2 (by lia) M3 M4 dis
  have nN:=z2c (z1c P m t g M)
  have nF:=z2c (farZ P m t (stZ P m t s i) M ((r+M-1)/M))
  generalize (z1c P m t g M).map rowD=EN at *
  generalize (farZ P m t (stZ P m t s i) M ((r+M-1)/M)).map rowD=EF at *
  refine z1u (by walk_at "evs";try rfl) ?_
  refine z1u (by walk_at "evs";simp only[z7u,w4b,z0o (And.intro la lk)];try rfl) ?_
  refine z1u (chk _ rfl) ?_
  refine loop _ _ _ fun x13=>?_
  rw[hge] at e2 q2
  refine z0w (d:=rowD g) (by
   walk_at "evs"
   simp only[e1]
   walk_at "evs"
   simp only[e2]
   walk_at "evs") ?_
  refine z1u (by walk_at "evs";simp only[z7u,so',z0o (And.intro la lo)];try rfl) ?_
  refine z1u (by
   walk_at "evs"
   try simp only[z7u,sa',z0o (And.intro la la)]
   walk_at "evs"
   try simp) ?_
  refine z2g ?_
  have ix3:atI [D.str (Str.ofString "apart"),.int (i:Int),.int (r:Int),.lst EN,.lst EF] 3=some (.lst EN):=rfl
  have ix4:atI [D.str (Str.ofString "apart"),.int (i:Int),.int (r:Int),.lst EN,.lst EF] 4=some (.lst EF):=rfl
  walk_at "evs"
  try simp only[ix3,ix4]
  walk_at "evs"
  simp only[EQ]
  try walk_at "evs"
  try rfl
end L3
namespace L3
open PySem PySem.Spec PyProof.Rows L2
noncomputable abbrev St:=L2.St
noncomputable instance:Monad R where
 pure:=R.ok
 bind:=R.bind
mutual
noncomputable def Is(K:PySem.W.Frag)(H:Hp):D->V->Prop
 | .non,v=>v = .non
 | .bl b,v=>v = .bl b
 | .int i,v=>v = .int i
 | .str x,v=>v = .str x
 | .tup ds,v=>∃a xs,v = .ref a/\SqT K H a xs/\IsAll K H ds xs
 | .lst ds,v=>∃a xs,v = .ref a/\SqL K H a xs/\IsAll K H ds xs
 | .dct,v=>∃a ob,v = .ref a/\H a=some (.frz ob (.own 0))/\ob.cls = .type "dict"
 | .exc c,v=>∃e oe C,v = .ref e/\H e=some (.frz oe (.own 0))/\oe.cls = .ref C/\PySem.W.nsIn K mainGlobals c.nm=some (some (.ref C))
noncomputable def IsAll(K:PySem.W.Frag)(H:Hp):List D->List V->Prop
 | [],xs=>xs=[]
 | d::ds,xs=>∃x r,xs=x::r/\Is K H d x/\IsAll K H ds r
end
structure Sub (K:PySem.W.Frag) (H H':Hp):Prop where
 t:∀a xs,SqT K H a xs->SqT K H' a xs
 l:∀a xs,SqL K H a xs->SqL K H' a xs
 x:∀a o u,H a=some (.frz o u)->H' a=some (.frz o u)
theorem z3t{K:PySem.W.Frag}{H H':Hp}{a:Addr}{xs:List V}(e:Same H H')(h:SqT K H a xs):SqT K H' a xs:=by
 rcases h with (h | ⟨o,h⟩) | h
 ·exact .inl (.inl (e _ _ h))
 ·exact .inl (.inr ⟨o,e _ _ h⟩)
 ·exact .inr h
theorem Sub.of_same{K:PySem.W.Frag}{H H':Hp}(e:Same H H'):Sub K H H':=⟨fun _ _ h=>z3t e h,fun _ _ h=>e.seq h,fun _ _ _ h=>e _ _ h⟩
mutual
theorem Is.sub{K:PySem.W.Frag}{H H':Hp}(s:Sub K H H'):∀(d:D) (v:V),Is K H d v->Is K H' d v
 | .non,_,h=>h
 | .bl _,_,h=>h
 | .int _,_,h=>h
 | .str _,_,h=>h
 | .tup ds,v,h=>by
   unfold Is at h ⊢
   obtain⟨a,xs,e,h1,h2⟩:=h
   exact⟨a,xs,e,s.t a xs h1,IsAll.sub s ds xs h2⟩
 | .lst ds,v,h=>by
   unfold Is at h ⊢
   obtain⟨a,xs,e,h1,h2⟩:=h
   exact⟨a,xs,e,s.l a xs h1,IsAll.sub s ds xs h2⟩
 | .dct,v,h=>by
   unfold Is at h ⊢
   obtain⟨a,ob,e,h1,h2⟩:=h
   exact⟨a,ob,e,s.x a ob _ h1,h2⟩
 | .exc c,v,h=>by
   unfold Is at h ⊢
   obtain⟨a,oe,C,e,h1,h2⟩:=h
   exact⟨a,oe,C,e,s.x a oe _ h1,h2⟩
theorem IsAll.sub{K:PySem.W.Frag}{H H':Hp}(s:Sub K H H'):∀(ds:List D) (xs:List V),IsAll K H ds xs->IsAll K H' ds xs
 | [],_,h=>h
 | d::ds,xs,h=>by
   unfold IsAll at h ⊢
   obtain⟨x,r,e,h1,h2⟩:=h
   exact⟨x,r,e,Is.sub s d x h1,IsAll.sub s ds r h2⟩
end
theorem Is.same{K:PySem.W.Frag}{H H':Hp}{d:D}{v:V}(h:Is K H d v)(e:Same H H'):Is K H' d v:=Is.sub (.of_same e) d v h
theorem IsAll.same{K:PySem.W.Frag}{H H':Hp}{ds:List D}{xs:List V}(h:IsAll K H ds xs)(e:Same H H'):IsAll K H' ds xs:=IsAll.sub (.of_same e) ds xs h
theorem Is.int_iff{K:PySem.W.Frag}{H:Hp}{i:Int}{v:V}:Is K H (.int i) v↔v = .int i:=by unfold Is;rfl
theorem Is.bl_iff{K:PySem.W.Frag}{H:Hp}{b:Bool}{v:V}:Is K H (.bl b) v↔v = .bl b:=by unfold Is;rfl
theorem Is.str_iff{K:PySem.W.Frag}{H:Hp}{x:Str}{v:V}:Is K H (.str x) v↔v = .str x:=by unfold Is;rfl
theorem Is.non_iff{K:PySem.W.Frag}{H:Hp}{v:V}:Is K H .non v↔v = .non:=by unfold Is;rfl
theorem Is.tup_iff{K:PySem.W.Frag}{H:Hp}{ds:List D}{v:V}:Is K H (.tup ds) v↔∃a xs,v = .ref a/\SqT K H a xs/\IsAll K H ds xs:=by conv=>lhs;unfold Is
theorem Is.lst_iff{K:PySem.W.Frag}{H:Hp}{ds:List D}{v:V}:Is K H (.lst ds) v↔∃a xs,v = .ref a/\SqL K H a xs/\IsAll K H ds xs:=by conv=>lhs;unfold Is
theorem IsAll.nil_iff{K:PySem.W.Frag}{H:Hp}{xs:List V}:IsAll K H [] xs↔xs=[]:=by unfold IsAll;rfl
theorem IsAll.cons_iff{K:PySem.W.Frag}{H:Hp}{d:D}{ds:List D}{xs:List V}:IsAll K H (d::ds) xs↔∃x r,xs=x::r/\Is K H d x/\IsAll K H ds r:=by conv=>lhs;unfold IsAll
theorem IsAll.nil{K:PySem.W.Frag}{H:Hp}:IsAll K H [] []:=IsAll.nil_iff.mpr rfl
theorem IsAll.cons{K:PySem.W.Frag}{H:Hp}{d:D}{ds:List D}{x:V}{xs:List V}(h:Is K H d x)(t:IsAll K H ds xs):IsAll K H (d::ds) (x::xs):=IsAll.cons_iff.mpr ⟨x,xs,rfl,h,t⟩
theorem IsAll.length{K:PySem.W.Frag}{H:Hp}:∀{ds:List D} {xs:List V},IsAll K H ds xs->ds.length=xs.length
 | [],xs,h=>by rw[IsAll.nil_iff.mp h];rfl
 | d::ds,xs,h=>by
   obtain⟨x,r,rfl,_,t⟩:=IsAll.cons_iff.mp h
   rw[List.length_cons,List.length_cons,IsAll.length t]
theorem IsAll.get{K:PySem.W.Frag}{H:Hp}:∀{ds:List D} {xs:List V} {i:Nat} {d:D},IsAll K H ds xs->ds[i]? = some d->∃x,xs[i]? = some x/\Is K H d x
 | [],_,_,_,_,e=>by simp at e
 | d::ds,xs,0,d',h,e=>by
   obtain⟨x,r,rfl,hx,t⟩:=IsAll.cons_iff.mp h
   simp at e;subst e
   exact⟨x,rfl,hx⟩
 | d::ds,xs,i+1,d',h,e=>by
   obtain⟨x,r,rfl,hx,t⟩:=IsAll.cons_iff.mp h
   obtain⟨y,e1,hy⟩:=IsAll.get (i:=i) t (by simpa using e)
   exact⟨y,by simpa using e1,hy⟩
theorem IsAll.getX{K:PySem.W.Frag}{H:Hp}{ds:List D}{xs:List V}{i:Nat}{x:V}(h:IsAll K H ds xs)(e:xs[i]? = some x):∃d,ds[i]? = some d/\Is K H d x:=by
 have hi:i<xs.length:=(List.getElem?_eq_some_iff.mp e).1
 have hd:i<ds.length:=by rw[h.length];exact hi
 obtain⟨y,e1,hy⟩:=h.get (List.getElem?_eq_getElem hd)
 rw[e] at e1;cases e1
 exact⟨_,List.getElem?_eq_getElem hd,hy⟩
theorem IsAll.append{K:PySem.W.Frag}{H:Hp}:∀{ds es:List D} {xs ys:List V},IsAll K H ds xs->IsAll K H es ys->IsAll K H (ds++es) (xs++ys)
 | [],_,_,_,h,t=>by rw[IsAll.nil_iff.mp h];exact t
 | d::ds,es,xs,ys,h,t=>by
   obtain⟨x,r,rfl,hx,tr⟩:=IsAll.cons_iff.mp h
   exact IsAll.cons hx (IsAll.append tr t)
theorem IsAll.drop{K:PySem.W.Frag}{H:Hp}:∀{ds:List D} {xs:List V} (n:Nat),IsAll K H ds xs->IsAll K H (ds.drop n) (xs.drop n)
 | _,_,0,h=>h
 | [],xs,n+1,h=>by rw[IsAll.nil_iff.mp h];exact IsAll.nil
 | d::ds,xs,n+1,h=>by
   obtain⟨x,r,rfl,hx,tr⟩:=IsAll.cons_iff.mp h
   exact IsAll.drop n tr
theorem IsAll.take{K:PySem.W.Frag}{H:Hp}:∀{ds:List D} {xs:List V} (n:Nat),IsAll K H ds xs->IsAll K H (ds.take n) (xs.take n)
 | _,_,0,_=>by rw[List.take_zero,List.take_zero];exact IsAll.nil
 | [],xs,n+1,h=>by rw[IsAll.nil_iff.mp h];exact IsAll.nil
 | d::ds,xs,n+1,h=>by
   obtain⟨x,r,rfl,hx,tr⟩:=IsAll.cons_iff.mp h
   exact IsAll.cons hx (IsAll.take n tr)
theorem IsAll.set{K:PySem.W.Frag}{H:Hp}{d':D}{x':V}(q:Is K H d' x'):∀{ds:List D} {xs:List V} (n:Nat),IsAll K H ds xs->IsAll K H (ds.set n d') (xs.set n x')
 | [],xs,n,h=>by rw[IsAll.nil_iff.mp h];exact IsAll.nil
 | d::ds,xs,0,h=>by
   obtain⟨x,r,rfl,hx,tr⟩:=IsAll.cons_iff.mp h
   exact IsAll.cons q tr
 | d::ds,xs,n+1,h=>by
   obtain⟨x,r,rfl,hx,tr⟩:=IsAll.cons_iff.mp h
   exact IsAll.cons hx (IsAll.set q n tr)
theorem IsAll.ints{K:PySem.W.Frag}{H:Hp}:∀ns:List Int,IsAll K H (ns.map D.int) (ns.map V.int)
 | []=>IsAll.nil
 | n::ns=>IsAll.cons (Is.int_iff.mpr rfl) (IsAll.ints ns)
theorem IsAll.ints_eq{K:PySem.W.Frag}{H:Hp}:∀{ns:List Int} {xs:List V},IsAll K H (ns.map D.int) xs->xs=ns.map V.int
 | [],xs,h=>IsAll.nil_iff.mp h
 | n::ns,xs,h=>by
   obtain⟨x,r,rfl,hx,tr⟩:=IsAll.cons_iff.mp h
   rw[Is.int_iff.mp hx,IsAll.ints_eq tr];rfl
noncomputable def hid(F:List Addr)(H:Hp):Hp:=fun b=>if b∈F then none else H b
theorem y7r{F:List Addr}{H:Hp}{b:Addr}(h:b∈F):hid F H b=none:=by unfold hid;rw[if_pos h]
theorem z1o{F:List Addr}{H:Hp}{b:Addr}(h:b ∉ F):hid F H b=H b:=by unfold hid;rw[if_neg h]
theorem z3x{F:List Addr}{H:Hp}{b:Addr}{o:HO}(h:hid F H b=some o):b ∉ F/\H b=some o:=by
 unfold hid at h
 by_cases q:b∈F
 ·rw[if_pos q] at h;cases h
 ·rw[if_neg q] at h;exact⟨q,h⟩
noncomputable def FOk(H:Hp)(F:List Addr):Prop:=∀b∈F,∃xs,H b=some (.lst xs)
theorem FOk.same{H H':Hp}{F:List Addr}(h:FOk H F)(e:Same H H'):FOk H' F:=fun b hb=>let ⟨xs,q⟩:=h b hb;⟨xs,e _ _ q⟩
theorem FOk.nil{H:Hp}:FOk H []:=fun b hb=>by simp at hb
theorem FOk.cons{H:Hp}{F:List Addr}{a:Addr}{xs:List V}(h:FOk H F)(e:H a=some (.lst xs)):FOk H (a::F):=fun b hb=>by
 rcases List.mem_cons.mp hb with z | z
 ·subst z;exact⟨xs,e⟩
 ·exact h b z
theorem x8x{H:Hp}{F:List Addr}{a:Addr}:Same (hid (a::F) H) (hid F H):=fun b o h=>by
 obtain⟨h1,h2⟩:=z3x h
 rw[z1o fun z=>h1 (List.mem_cons_of_mem _ z)];exact h2
theorem x5w{H H':Hp}{F:List Addr}{a:Addr}(e:Same H H')(hn:H a=none):Same (hid F H) (hid (a::F) H'):=fun b o h=>by
 obtain⟨h1,h2⟩:=z3x h
 rw[z1o fun z=>(List.mem_cons.mp z).elim (fun q=>by rw[q,hn] at h2;cases h2) h1]
 exact e _ _ h2
theorem z2h{H H':Hp}{F:List Addr}(e:Same H H'):Same (hid F H) (hid F H'):=fun b o h=>by
 obtain⟨h1,h2⟩:=z3x h
 rw[z1o h1];exact e _ _ h2
theorem z2j{H:Hp}{F:List Addr}:Same (hid F H) H:=fun b o h=>(z3x h).2
theorem x3v{K:PySem.W.Frag}{H:Hp}{F:List Addr}{a:Addr}{xs:List V}(fo:FOk H F)(h:SqT K H a xs):SqT K (hid F H) a xs:=by
 rcases h with (h1 | ⟨o,h1⟩) | h1
 ·refine .inl (.inl ?_)
  rw[z1o fun q=>by obtain⟨ys,z⟩:=fo a q;rw[h1] at z;cases z];exact h1
 ·refine .inl (.inr ⟨o,?_⟩)
  rw[z1o fun q=>by obtain⟨ys,z⟩:=fo a q;rw[h1] at z;cases z];exact h1
 ·exact .inr h1
mutual
theorem Is.hid{K:PySem.W.Frag}{H:Hp}{F:List Addr}(fo:FOk H F):∀(d:D) (v:V),d.noL=true->Is K H d v->Is K (hid F H) d v
 | .non,_,_,h=>h
 | .bl _,_,_,h=>h
 | .int _,_,_,h=>h
 | .str _,_,_,h=>h
 | .tup ds,v,n,h=>by
   obtain⟨a,xs,e,h1,h2⟩:=Is.tup_iff.mp h
   exact Is.tup_iff.mpr ⟨a,xs,e,x3v fo h1,IsAll.hid fo ds xs (by simpa [D.noL] using n) h2⟩
 | .lst ds,v,n,h=>by simp[D.noL] at n
 | .dct,v,n,h=>by simp[D.noL] at n
 | .exc c,v,n,h=>by
   unfold Is at h ⊢
   obtain⟨a,oe,C,e,h1,h2⟩:=h
   refine⟨a,oe,C,e,?_,h2⟩
   rw[z1o fun q=>by obtain⟨ys,z⟩:=fo a q;rw[h1] at z;cases z];exact h1
theorem IsAll.hid{K:PySem.W.Frag}{H:Hp}{F:List Addr}(fo:FOk H F):∀(ds:List D) (xs:List V),D.noLs ds=true->IsAll K H ds xs->IsAll K (hid F H) ds xs
 | [],_,_,h=>h
 | d::ds,xs,n,h=>by
   obtain⟨x,r,e,h1,h2⟩:=IsAll.cons_iff.mp h
   have n':d.noL=true/\D.noLs ds=true:=by simpa [D.noLs] using n
   exact IsAll.cons_iff.mpr ⟨x,r,e,Is.hid fo d x n'.1 h1,IsAll.hid fo ds r n'.2 h2⟩
end
structure Rel (K:PySem.W.Frag) (H:Hp) (F:List Addr) (Γ:G) (σ:St):Prop where
 len:Γ.length=σ.length
 ro:∀(i:Nat) d,Γ[i]? = some (.ro d)->∃v,σ[i]? = some (some v)/\Is K (hid F H) d v
 own:∀(i:Nat) ds,Γ[i]? = some (.own ds)->∃a xs,σ[i]? = some (some (.ref a))/\a∈F/\H a=some (.lst xs)/\IsAll K (hid F H) ds xs
 inj:∀(i j:Nat) ds es a,Γ[i]? = some (.own ds)->Γ[j]? = some (.own es)->σ[i]? = some (some (.ref a))->σ[j]? = some (some (.ref a))->i=j
theorem Rel.same{K:PySem.W.Frag}{H H':Hp}{F:List Addr}{Γ:G}{σ:St}(r:Rel K H F Γ σ)(e:Same H H'):Rel K H' F Γ σ :=
 ⟨r.len,fun i d h=>let ⟨v,h1,h2⟩:=r.ro i d h;⟨v,h1,h2.same (z2h e)⟩,fun i ds h=>let ⟨a,xs,h1,h2,h3,h4⟩:=r.own i ds h;⟨a,xs,h1,h2,e _ _ h3,h4.same (z2h e)⟩,r.inj⟩
theorem Rel.look{K:PySem.W.Frag}{H:Hp}{F:List Addr}{Γ:G}{σ:St}(r:Rel K H F Γ σ){i:Nat}{d:D}(h:lk Γ i = .ok d):∃v,σ[i]? = some (some v)/\Is K H d v:=by
 unfold lk at h
 cases e:Γ[i]? with
 | none=>rw[e] at h;cases h
 | some en =>
   rw[e] at h
   cases en with
   | no=>cases h
   | ro d'=>cases h;obtain⟨v,h1,h2⟩:=r.ro i d e;exact⟨v,h1,h2.same z2j⟩
   | own ds =>
     cases h
     obtain⟨a,xs,h1,h2,h3,h4⟩:=r.own i ds e
     exact⟨.ref a,h1,Is.lst_iff.mpr ⟨a,xs,rfl,SqL.of h3,h4.same z2j⟩⟩
theorem Rel.lookr{K:PySem.W.Frag}{H:Hp}{F:List Addr}{Γ:G}{σ:St}(r:Rel K H F Γ σ){i:Nat}{d:D}(h:lkr Γ i = .ok d):∃v,σ[i]? = some (some v)/\Is K (hid F H) d v:=by
 unfold lkr at h
 cases e:Γ[i]? with
 | none=>rw[e] at h;cases h
 | some en =>
   rw[e] at h
   cases en with
   | no=>cases h
   | ro d'=>cases h;exact r.ro i d e
   | own ds=>cases h
structure Ext (H:Hp) (F:List Addr) (H':Hp) (F':List Addr):Prop where
 keep:∀b o,b ∉ F->H b=some o->H' b=some o
 old:∀b,b∈F'->b∈F∨H b=none
theorem Ext.refl{H:Hp}{F:List Addr}:Ext H F H F:=⟨fun _ _ _ h=>h,fun _ h=>.inl h⟩
theorem Ext.of_same{H H':Hp}{F:List Addr}(e:Same H H'):Ext H F H' F:=⟨fun _ _ _ h=>e _ _ h,fun _ h=>.inl h⟩
theorem Ext.trans{H H1 H2:Hp}{F F1 F2:List Addr}(a:Ext H F H1 F1)(b:Ext H1 F1 H2 F2):Ext H F H2 F2 where
 keep:=fun c o hc h=>b.keep c o (fun z=>(a.old c z).elim hc fun n=>by rw[h] at n;cases n) (a.keep c o hc h)
 old:=fun c hc=>by
  rcases b.old c hc with h | h
  ·exact a.old c h
  ·by_cases q:c∈F
   ·exact .inl q
   ·refine .inr ?_
    cases e:H c with
    | none=>rfl
    | some o=>rw[a.keep c o q e] at h;cases h
theorem Ext.same{H H':Hp}{F':List Addr}(e:Ext H [] H' F'):Same H H':=fun b o h=>e.keep b o (by simp) h
theorem Ext.hid{H H':Hp}{F F':List Addr}(e:Ext H F H' F'):Same (hid F H) (hid F' H'):=fun b o h=>by
 obtain⟨h1,h2⟩:=z3x h
 have h3:=e.keep b o h1 h2
 rw[z1o fun z=>(e.old b z).elim h1 fun n=>by rw[h2] at n;cases n]
 exact h3
noncomputable def y8p(X:Cx)(pins:List (Addr×Obj))(σ:St)(H:Hp)(c:Er)(x:Value)(s:Shared):Prop :=
 Inv X pins σ H s/\∃(e C:Addr) (oe:Obj) (vs:Array Value),x = .ref e/\X.mg c.nm=some (.ref C)/\H e=none/\X.s₀.heap.get? e=none/\e≠X.env.locals/\(∀y k,X.env.cells.lookup y=some k->k≠e)/\(∀p∈X.pn++pins,p.1≠e) /\
  s.heap.get? e=some oe/\oe.cls = .ref C/\oe.data = .fields vs/\(∃a0,vs[0]? = some a0) /\
  (vs[1]? = some .none∨∃(T:Addr) (oT:Obj) (ts:Array Value),vs[1]? = some (.ref T)/\H T=none/\X.s₀.heap.get? T=none/\T≠X.env.locals/\(∀y k,X.env.cells.lookup y=some k->k≠T)/\(∀p∈X.pn++pins,p.1≠T)/\T≠e /\
    s.heap.get? T=some oT/\oT.data = .fields ts/\(ts[3]? = some .none∨∃L,X.env.frame=some L/\ts[3]? = some (rawInt L)))
noncomputable def Post(X:Cx)(pins:List (Addr×Obj))(σ:St)(H:Hp)(r:R D)(u:Value)(s':Shared):Prop :=
 ∃d v H',r = .ok d/\Inv X pins σ H' s'/\RelV v u/\Same H H'/\Is X.K H' d v
noncomputable def z1p{α:Type}(X:Cx)(pins:List (Addr×Obj))(σ:St)(H:Hp)(r:R α)(x:Value)(s':Shared):Prop :=
 ∃c H',r = .er c/\Same H H'/\y8p X pins σ H' c x s'
theorem z1p.bind{α β:Type}{X:Cx}{pins:List (Addr×Obj)}{σ:St}{H:Hp}{r:R α}{x:Value}{s':Shared}(h:z1p X pins σ H r x s')(k:α->R β):z1p X pins σ H (r>>=k) x s':=by
 obtain⟨c,H',e,h1,h2⟩:=h
 exact⟨c,H',R.stop e k,h1,h2⟩
theorem z1p.later{α β:Type}{X:Cx}{pins:List (Addr×Obj)}{σ:St}{H H1:Hp}{r:R α}{a:α}{k:α->R β}{x:Value}{s':Shared}(e:r = .ok a)(s:Same H H1)(h:z1p X pins σ H1 (k a) x s'):z1p X pins σ H (r>>=k) x s':=by
 obtain⟨c,H',e1,h1,h2⟩:=h
 exact⟨c,H',(R.step e k).trans e1,s.trans h1,h2⟩
structure PD (X:Cx) (e:Expr) (g:G->R D):Prop where
 run:∀(pins:List (Addr×Obj)) (s:Shared) (σ:St) (H:Hp) (F:List Addr) (Γ:G),Inv X pins σ H s->FOk H F->Rel X.K H F Γ σ->g Γ ≠ .no ->
  wpAny (model X.prog X.w) X.A (eval e X.env) (Post X pins σ H (g Γ)) (z1p X pins σ H (g Γ)) s
structure PDr (X:Cx) (e:Expr) (g:G->R D):Prop where
 run:∀(pins:List (Addr×Obj)) (s:Shared) (σ:St) (H:Hp) (F:List Addr) (Γ:G),Inv X pins σ H s->FOk H F->Rel X.K H F Γ σ->g Γ ≠ .no ->
  wpAny (model X.prog X.w) X.A (eval e X.env) (fun u s'=>∃d v H',g Γ = .ok d/\Inv X pins σ H' s'/\RelV v u/\Same H H'/\Is X.K (hid F H') d v) (z1p X pins σ H (g Γ)) s
structure PF (X:Cx) (e:Expr) (g:G->R (List D)):Prop where
 run:∀(pins:List (Addr×Obj)) (s:Shared) (σ:St) (H:Hp) (F:List Addr) (Γ:G),Inv X pins σ H s->FOk H F->Rel X.K H F Γ σ->g Γ ≠ .no ->
  wpAny (model X.prog X.w) X.A (eval e X.env) (fun u s'=>∃ds a xs H',g Γ = .ok ds/\Inv X pins σ H' s'/\u = .ref a/\Same H H'/\H a=none/\H' a=some (.lst xs)/\IsAll X.K (hid (a::F) H') ds xs) (z1p X pins σ H (g Γ)) s
structure PTD (X:Cx) (e:Expr) (g:G->R Bool):Prop where
 run:∀(pins:List (Addr×Obj)) (s:Shared) (σ:St) (H:Hp) (F:List Addr) (Γ:G),Inv X pins σ H s->FOk H F->Rel X.K H F Γ σ->g Γ ≠ .no ->
  wpAny (model X.prog X.w) X.A (isTrue e X.env (eval e X.env)) (fun b s'=>∃H',g Γ = .ok b/\Inv X pins σ H' s'/\Same H H') (z1p X pins σ H (g Γ)) s
structure PWD (X:Cx) (e:Expr) (g:G->R Bool):Prop where
 run:∀(whole:Sem Value) (pins:List (Addr×Obj)) (s:Shared) (σ:St) (H:Hp) (F:List Addr) (Γ:G),Inv X pins σ H s->FOk H F->Rel X.K H F Γ σ->g Γ ≠ .no ->
  wpAny (model X.prog X.w) X.A (isTrue e X.env whole) (fun b s'=>∃H',g Γ = .ok b/\Inv X pins σ H' s'/\Same H H') (z1p X pins σ H (g Γ)) s
theorem PWD.pt{X:Cx}{e:Expr}{g:G->R Bool}(h:PWD X e g):PTD X e g:=⟨h.run _⟩
structure PAD (X:Cx) (es:List Expr) (g:G->R (List D)):Prop where
 run:∀(pos:Pos) (pins:List (Addr×Obj)) (s:Shared) (σ:St) (H:Hp) (F:List Addr) (Γ:G),Inv X pins σ H s->FOk H F->Rel X.K H F Γ σ->g Γ ≠ .no ->
  wpAny (model X.prog X.w) X.A (spliced (backTo pos (starEach es X.env))) (fun us s'=>∃ds vs H',g Γ = .ok ds/\Inv X pins σ H' s'/\Vals vs us/\Same H H'/\IsAll X.K H' ds vs) (z1p X pins σ H (g Γ)) s
section
variable {X:Cx}{e a b c:Expr}{g ga gb gc:G->R D}{pos:Pos}
theorem PDr.pd(h:PDr X e g):PD X e g:=⟨fun pins s σ H F Γ I fo rl hg =>
 thn (h.run pins s σ H F Γ I fo rl hg) fun _ _ ⟨d,v,H',e1,I',r,S,i⟩=>⟨d,v,H',e1,I',r,S,i.same z2j⟩⟩
theorem PD.ro(h:PD X e g):PDr X e (gNL g):=⟨fun pins s σ H F Γ I fo rl hg =>
 wpAny_mono (h.run pins s σ H F Γ I fo rl (R.left hg)) (fun _ _ ⟨d,v,H',e1,I',r,S,i⟩=>by
  have hgx:=R.next hg e1
  obtain⟨n,e2⟩:=R.guard_ne hgx
  exact⟨d,v,H',(R.step e1 _).trans e2,I',r,S,Is.hid (fo.same S) d v n i⟩) fun _ _ x=>x.bind _⟩
theorem PF.ro{g:G->R (List D)}(h:PF X e g):PDr X e (gL g):=⟨fun pins s σ H F Γ I fo rl hg =>
 wpAny_mono (h.run pins s σ H F Γ I fo rl (R.left hg)) (fun _ _ ⟨ds,p,xs,H',e1,I',eu,S,hn,hp,i⟩=>by
  have hF:p ∉ F:=fun z=>by obtain⟨ys,q⟩:=fo p z;rw[hn] at q;cases q
  exact⟨.lst ds,.ref p,H',(R.step e1 _),I',eu,S,Is.lst_iff.mpr ⟨p,xs,rfl,SqL.of (by rw[z1o hF];exact hp),i.same x8x⟩⟩) fun _ _ x=>x.bind _⟩
theorem PF.pd{g:G->R (List D)}(h:PF X e g):PD X e (gL g):=h.ro.pd
theorem PD.of{t:TE}(h:PE X.nox e t)(hq:∀σ H F Γ,FOk H F->Rel X.K H F Γ σ->g Γ ≠ .no->t σ H fun v H'=>∃d,g Γ = .ok d/\Same H H'/\Is X.K H' d v):PD X e g:=⟨fun pins s σ H F Γ I fo rl hg =>
 wpAny_mono (h pins s σ H _ (I.wish _) (hq σ H F Γ fo rl hg)) (fun _ _ ⟨v,H',I',r,d,e1,S,i⟩=>⟨d,v,H',e1,I'.unwish,r,S,i⟩) fun _ _ z=>False.elim z⟩
theorem z0b(i:Nat){x:Str}(hN:X.N[i]? = some x:=by rfl)(hv:Vis X.env.scope x:=by first | exact Or.inl rfl | exact Or.inr (Or.inl rfl) | exact Or.inr (Or.inr rfl))(hd:(x==("__debug__":Str))=false:=by decide)
 (hcd:(x==("__classdict__":Str))=false:=by decide):PD X (.Name x pos) (gV i) :=
 PD.of (t:=tVar i) (z8g (X:=X.nox) hN hv hd hcd) fun σ H F Γ fo rl hg=>by
  obtain⟨d,e⟩:=w6w hg
  obtain⟨v,h1,h2⟩:=rl.look e
  exact⟨v,h1,d,e,.refl _,h2⟩
theorem z1m(i:Nat){x:Str}(hN:X.N[i]? = some x:=by rfl)(hv:Vis X.env.scope x:=by first | exact Or.inl rfl | exact Or.inr (Or.inl rfl) | exact Or.inr (Or.inr rfl))(hd:(x==("__debug__":Str))=false:=by decide)
 (hcd:(x==("__classdict__":Str))=false:=by decide):PDr X (.Name x pos) (gVr i):=by
 refine⟨fun pins s σ H F Γ I fo rl hg=>?_⟩
 obtain⟨d,e⟩:=w5e hg
 obtain⟨v,h1,h2⟩:=rl.lookr e
 exact wpAny_mono (z8g (X:=X.nox) hN hv hd hcd pins s σ H (fun v' H'=>v'=v/\H'=H) (I.wish _) ⟨v,h1,rfl,rfl⟩) (fun _ _ ⟨v',H',I',r,e1,e2⟩=>by
  subst e1 e2
  exact⟨d,v',H',e,I'.unwish,r,.refl _,h2⟩) fun _ _ z=>False.elim z
theorem z0e{i:Int}{j}:PD X (.Constant (.int i) j pos) (gC (.int i)):=PD.of (t:=tC (.int i)) w4o fun _ _ _ _ _ _ _=>⟨_,rfl,.refl _,Is.int_iff.mpr rfl⟩
theorem y2z{b:Bool}{j}:PD X (.Constant (.bool b) j pos) (gC (.bl b)):=PD.of (t:=tC (.bl b)) w4p fun _ _ _ _ _ _ _=>⟨_,rfl,.refl _,Is.bl_iff.mpr rfl⟩
theorem z8i{x:Str}{j}:PD X (.Constant (.str x) j pos) (gC (.str x)):=PD.of (t:=tC (.str x)) w4n fun _ _ _ _ _ _ _=>⟨_,rfl,.refl _,Is.str_iff.mpr rfl⟩
theorem w2i{x:Str}{d:D}{v:V}{u:Value}(hg:Gl X x)(hm:X.mg x=some u)(r:RelV v u)(i:∀H,Is X.K H d v)(hd:(x==("__debug__":Str))=false:=by decide):PD X (.Name x pos) (gC d) :=
 PD.of (t:=tC v) (w2h (X:=X.nox) hg hm r hd) fun _ H _ _ _ _ _=>⟨_,rfl,.refl _,i H⟩
noncomputable def OpD(X:Cx)(f:Value->Value->Sem Value)(g:D->D->R D):Prop:=∃r:R2,OpR X.nox f r/\∀H x y dx dy,Is X.K H dx x->Is X.K H dy y->g dx dy ≠ .no->r x y H fun z H'=>∃d,g dx dy = .ok d/\Same H H'/\Is X.K H' d z
theorem OpD.run{f:Value->Value->Sem Value}{g:D->D->R D}(h:OpD X f g){pins:List (Addr×Obj)}{s:Shared}{σ:St}{H:Hp}{x y:V}{v u:Value}{dx dy:D}(I:Inv X pins σ H s)(rx:RelV x v)(ry:RelV y u)
 (ix:Is X.K H dx x) (iy:Is X.K H dy y) (hg:g dx dy ≠ .no) {E:Value->Shared->Prop}:wpAny (model X.prog X.w) X.A (f v u) (Post X pins σ H (g dx dy)) E s:=by
 obtain⟨r,ho,hr⟩:=h
 exact wpAny_mono (ho pins s σ H x y v u _ (I.wish _) rx ry (hr H x y dx dy ix iy hg)) (fun _ _ ⟨z,H',I',rz,d,e,S,i⟩=>⟨d,z,H',e,I'.unwish,rz,S,i⟩) fun _ _ z=>False.elim z
theorem Post.bind{pins:List (Addr×Obj)}{σ:St}{H H1:Hp}{α:Type}{r:R α}{k:α->R D}{a:α}{u:Value}{s':Shared}(e:r = .ok a)(S:Same H H1)(h:Post X pins σ H1 (k a) u s'):Post X pins σ H (r>>=k) u s':=by
 obtain⟨d,v,H',e1,I,rv,S1,i⟩:=h
 exact⟨d,v,H',(R.step e k).trans e1,I,rv,S.trans S1,i⟩
theorem binD{g2:D->D->R D}{f:Value->Value->Sem Value}(ho:OpD X f g2)(ha:PD X a ga)(hb:PD X b gb){pins:List (Addr×Obj)}{s:Shared}{σ:St}{H:Hp}{F:List Addr}{Γ:G}(I:Inv X pins σ H s)(fo:FOk H F)(rl:Rel X.K H F Γ σ)(hg:gBin g2 ga gb Γ ≠ .no) :
 wpAny (model X.prog X.w) X.A (eval a X.env) (fun v s₁=>wpAny (model X.prog X.w) X.A (eval b X.env) (fun u s₂=>wpAny (model X.prog X.w) X.A (f v u) (Post X pins σ H (gBin g2 ga gb Γ)) (z1p X pins σ H (gBin g2 ga gb Γ)) s₂) (z1p X pins σ H (gBin g2 ga gb Γ)) s₁) (z1p X pins σ H (gBin g2 ga gb Γ)) s:=by
 refine wpAny_mono (ha.run pins s σ H F Γ I fo rl (R.left hg)) (fun v s1 ⟨dx,x,H1,e1,I1,r1,S1,i1⟩=>?_) fun _ _ x=>x.bind _
 have hg1:=R.next hg e1
 refine wpAny_mono (hb.run pins s1 σ H1 F Γ I1 (fo.same S1) (rl.same S1) (R.left hg1)) (fun u s2 ⟨dy,y,H2,e2,I2,r2,S2,i2⟩=>?_) fun _ _ x=>z1p.later e1 S1 (x.bind _)
 have hg2:=R.next hg1 e2
 exact thn (ho.run I2 r1 r2 (i1.same S2) i2 hg2) fun _ _ q=>Post.bind e1 S1 (Post.bind e2 S2 q)
theorem z0p{op:Operator}{g2:D->D->R D}(ho:OpD X (binaryOp op) g2)(ha:PD X a ga)(hb:PD X b gb):PD X (.BinOp a op b pos) (gBin g2 ga gb):=⟨fun pins s σ H F Γ I fo rl hg=>wpAny_BinOp (binD ho ha hb I fo rl hg)⟩
theorem y4s{op:CmpOp}{g2:D->D->R D}(ho:OpD X (compareOp op) g2)(ha:PD X a ga)(hb:PD X b gb)(hm:behindInMarks op b=false):PD X (.Compare a [op] [b] pos) (gBin g2 ga gb):=⟨fun pins s σ H F Γ I fo rl hg=>wpAny_Compare1 (binD ho ha hb I fo rl hg) hm⟩
theorem y7k{pins:List (Addr×Obj)}{σ:St}{H:Hp}{r:R D}{u:Value}{s':Shared}(h:Post X pins σ H r u s')(hg:(r>>=asB) ≠ .no):∃b H',u = .bool b/\(r>>=asB) = .ok b/\Inv X pins σ H' s'/\Same H H':=by
 obtain⟨d,v,H',e1,I,rv,S,i⟩:=h
 obtain⟨b,rfl,e2⟩:=x7e (R.next hg e1)
 rw[Is.bl_iff.mp i] at rv
 exact⟨b,H',rv,(R.step e1 _).trans e2,I,S⟩
theorem z0r{op:CmpOp}{g2:D->D->R D}(ho:OpD X (compareOp op) g2)(ha:PD X a ga)(hb:PD X b gb)(hm:behindInMarks op b=false):PTD X (.Compare a [op] [b] pos) (gT (gBin g2 ga gb)):=by
 refine⟨fun pins s σ H F Γ I fo rl hg=>?_⟩
 refine wpAny_isTrue_Compare1 (wpAny_mono (binD ho ha hb I fo rl (R.left hg)) (fun v s1 h1=>wpAny_mono h1 (fun u s2 h2=>wpAny_mono h2 (fun z s3 h3=>?_) fun _ _ x=>x.bind _) fun _ _ x=>x.bind _) fun _ _ x=>x.bind _) hm
 obtain⟨b,H',rfl,e,I',S⟩:=y7k h3 hg
 exact wpAny_truthy_bool ⟨H',e,I',S⟩
theorem z7q(ha:PD X a ga)(he:∀whole,isTrue a X.env whole=(do let v <-whole;standAt a.pos;holding [v] (truthy v)):=by intro _;rfl):PTD X a (gT ga):=by
 refine⟨fun pins s σ H F Γ I fo rl hg=>?_⟩
 refine isTrue_plain (wpAny_mono (ha.run pins s σ H F Γ I fo rl (R.left hg)) (fun v s1 h3=>?_) fun _ _ x=>x.bind _) (he _)
 obtain⟨b,H',rfl,e,I',S⟩:=y7k h3 hg
 exact wpAny_truthy_bool ⟨H',e,I',S⟩
variable {gA gB:G->R Bool}{rest:List Expr}
theorem y5p(ha:PTD X a gA):PWD X (.BoolOp .And [a] pos) gA:=by
 refine⟨fun wh pins s σ H F Γ I fo rl hg=>?_⟩
 refine isTrue_and (thn (ha.run pins s σ H F Γ I fo rl hg) fun c s1 e=>?_)
 cases c with
 | true=>exact isTrue_and_nil e
 | false=>exact e
theorem z9v(ha:PTD X a gA):PWD X (.BoolOp .Or [a] pos) gA:=by
 refine⟨fun wh pins s σ H F Γ I fo rl hg=>?_⟩
 refine isTrue_or (thn (ha.run pins s σ H F Γ I fo rl hg) fun c s1 e=>?_)
 cases c with
 | false=>exact isTrue_or_nil e
 | true=>exact e
theorem y5q(ha:PTD X a gA)(hb:PWD X (.BoolOp .And (b::rest) pos) gB):PWD X (.BoolOp .And (a::b::rest) pos) (gAnd gA gB):=by
 refine⟨fun wh pins s σ H F Γ I fo rl hg=>?_⟩
 refine isTrue_and (wpAny_mono (ha.run pins s σ H F Γ I fo rl (R.left hg)) (fun c s1 ⟨H1,e1,I1,S1⟩=>?_) fun _ _ x=>x.bind _)
 have hg1:=R.next hg e1
 cases c with
 | true=>exact wpAny_mono (hb.run wh pins s1 σ H1 F Γ I1 (fo.same S1) (rl.same S1) hg1) (fun _ _ ⟨H2,e2,I2,S2⟩=>⟨H2,(R.step e1 _).trans e2,I2,S1.trans S2⟩) fun _ _ x=>z1p.later e1 S1 x
 | false=>exact⟨H1,R.step e1 _,I1,S1⟩
theorem y0j(ha:PTD X a gA)(hb:PWD X (.BoolOp .Or (b::rest) pos) gB):PWD X (.BoolOp .Or (a::b::rest) pos) (gOr gA gB):=by
 refine⟨fun wh pins s σ H F Γ I fo rl hg=>?_⟩
 refine isTrue_or (wpAny_mono (ha.run pins s σ H F Γ I fo rl (R.left hg)) (fun c s1 ⟨H1,e1,I1,S1⟩=>?_) fun _ _ x=>x.bind _)
 have hg1:=R.next hg e1
 cases c with
 | false=>exact wpAny_mono (hb.run wh pins s1 σ H1 F Γ I1 (fo.same S1) (rl.same S1) hg1) (fun _ _ ⟨H2,e2,I2,S2⟩=>⟨H2,(R.step e1 _).trans e2,I2,S1.trans S2⟩) fun _ _ x=>z1p.later e1 S1 x
 | true=>exact⟨H1,R.step e1 _,I1,S1⟩
theorem z8e(ha:PTD X a gA):PTD X (.UnaryOp .Not a pos) (gNot gA):=⟨fun pins s σ H F Γ I fo rl hg =>
 isTrue_not (wpAny_mono (ha.run pins s σ H F Γ I fo rl (R.left hg)) (fun c s1 ⟨H1,e1,I1,S1⟩=>⟨H1,R.step e1 _,I1,S1⟩) fun _ _ x=>x.bind _)⟩
theorem x0i{op}(h:PD X a ga):PD X (.BoolOp op [a] pos) ga:=⟨fun pins s σ H F Γ I fo rl hg=>BoolOp_one (h.run pins s σ H F Γ I fo rl hg)⟩
theorem y7m(ha:PD X a ga)(hb:PD X (.BoolOp .And (b::rest) pos) gb):PD X (.BoolOp .And (a::b::rest) pos) (z8t ga gb):=by
 refine⟨fun pins s σ H F Γ I fo rl hg=>?_⟩
 refine BoolOp_and (wpAny_mono (ha.run pins s σ H F Γ I fo rl (R.left hg)) (fun v s1 ⟨d,x,H1,e1,I1,r1,S1,i1⟩=>?_) fun _ _ x=>x.bind _)
 have hg1:=R.next hg e1
 obtain⟨k,rfl,e2⟩:=x7e (R.left hg1)
 have hg2:=R.next hg1 e2
 rw[Is.bl_iff.mp i1] at r1
 cases r1
 refine wpAny_truthy_bool ?_
 cases k with
 | true=>exact wpAny_mono (hb.run pins s1 σ H1 F Γ I1 (fo.same S1) (rl.same S1) hg2) (fun _ _ q=>Post.bind e1 S1 (Post.bind e2 (.refl _) q)) fun _ _ q=>z1p.later e1 S1 (z1p.later e2 (.refl _) q)
 | false=>exact Post.bind e1 S1 (Post.bind e2 (.refl _) ⟨.bl false,.bl false,H1,rfl,I1,rfl,.refl _,Is.bl_iff.mpr rfl⟩)
theorem w4q(ha:PD X a ga):PD X (.UnaryOp .Not a pos) (y1j ga):=by
 refine⟨fun pins s σ H F Γ I fo rl hg=>?_⟩
 refine UnaryOp_ (wpAny_mono (ha.run pins s σ H F Γ I fo rl (R.left hg)) (fun v s1 ⟨d,x,H1,e1,I1,r1,S1,i1⟩=>?_) fun _ _ x=>x.bind _)
 have hg1:=R.next hg e1
 obtain⟨k,rfl,e2⟩:=x7e (R.left hg1)
 rw[Is.bl_iff.mp i1] at r1
 cases r1
 exact not_of (wpAny_truthy_bool (Post.bind e1 S1 (Post.bind e2 (.refl _) ⟨.bl (!k),.bl (!k),H1,rfl,I1,rfl,.refl _,Is.bl_iff.mpr rfl⟩)))
theorem w4r(ha:PD X a ga):PD X (.UnaryOp .USub a pos) (gNeg ga):=by
 refine⟨fun pins s σ H F Γ I fo rl hg=>?_⟩
 refine UnaryOp_ (wpAny_mono (ha.run pins s σ H F Γ I fo rl (R.left hg)) (fun v s1 ⟨d,x,H1,e1,I1,r1,S1,i1⟩=>?_) fun _ _ x=>x.bind _)
 have hg1:=R.next hg e1
 cases d with
 | int i =>
   rw[Is.int_iff.mp i1] at r1
   obtain⟨t,rfl⟩:=r1
   exact neg_int (Post.bind e1 S1 ⟨.int (-i),.int (-i),H1,rfl,I1.tok _,⟨_,rfl⟩,.refl _,Is.int_iff.mpr rfl⟩)
 | _=>exact absurd rfl hg1
theorem w6q(hc:PTD X c gA)(ha:PD X a ga)(hb:PD X b gb):PD X (.IfExp c a b pos) (gIf gA ga gb):=by
 refine⟨fun pins s σ H F Γ I fo rl hg=>?_⟩
 refine wpAny_IfExp (wpAny_mono (hc.run pins s σ H F Γ I fo rl (R.left hg)) (fun k s1 ⟨H1,e1,I1,S1⟩=>?_) fun _ _ x=>x.bind _)
 have hg1:=R.next hg e1
 cases k with
 | true=>exact wpAny_mono (ha.run pins s1 σ H1 F Γ I1 (fo.same S1) (rl.same S1) hg1) (fun _ _ q=>Post.bind e1 S1 q) fun _ _ q=>z1p.later e1 S1 q
 | false=>exact wpAny_mono (hb.run pins s1 σ H1 F Γ I1 (fo.same S1) (rl.same S1) hg1) (fun _ _ q=>Post.bind e1 S1 q) fun _ _ q=>z1p.later e1 S1 q
variable {es:List Expr}{gs:G->R (List D)}
theorem z0d:PAD X [] gNil:=⟨fun pos pins s σ H F Γ I fo rl hg=>Calls.spliced_nil ⟨[],[],H,rfl,I,.nil,.refl _,IsAll.nil⟩⟩
theorem z0a(ha:PD X e g)(hr:PAD X es gs)(hs:starEach (e::es) X.env=(false,eval e X.env)::starEach es X.env:=by rfl):PAD X (e::es) (gCons g gs):=by
 refine⟨fun pos pins s σ H F Γ I fo rl hg=>?_⟩
 rw[hs]
 show wpAny _ _ (spliced ((false,eval e X.env)::backTo pos (starEach es X.env))) _ _ s
 refine Calls.spliced_cons (wpAny_mono (ha.run pins s σ H F Γ I fo rl (R.left hg)) (fun u s1 ⟨d,x,H1,e1,I1,r1,S1,i1⟩=>?_) fun _ _ x=>x.bind _)
 have hg1:=R.next hg e1
 refine wpAny_mono (hr.run pos pins s1 σ H1 F Γ I1 (fo.same S1) (rl.same S1) (R.left hg1)) (fun us s2 ⟨ds,vs,H2,e2,I2,r2,S2,i2⟩=>?_) fun _ _ x=>z1p.later e1 S1 (x.bind _)
 exact⟨d::ds,x::vs,H2,(R.step e1 _).trans (R.step e2 _),I2,.cons r1 r2,S1.trans S2,IsAll.cons (i1.same S2) i2⟩
theorem z9i{n:Nat}(h:n<=1000):n<=sizeLine:=Nat.le_of_lt (x3x h)
theorem z1r{H:Hp}{p:Addr}(h:H p=none)(o:HO):Same H (upd H p o):=fun b u q=>by rw[z0u (z0z q h)];exact q
theorem z7a{x1}(h:PAD X es gs):PD X (.Tuple es x1 pos) (gTup gs):=by
 refine⟨fun pins s σ H F Γ I fo rl hg=>?_⟩
 refine wpAny_Tuple_spliced (wpAny_mono (h.run pos pins s σ H F Γ I fo rl (R.left hg)) (fun us s1 ⟨ds,vs,H1,e1,I1,r1,S1,i1⟩=>?_) fun _ _ x=>x.bind _)
 have hgx:=R.next hg e1
 obtain⟨hl,e2⟩:=R.guard_ne hgx
 have hz:vs.length<=sizeLine:=by rw[<-i1.length];exact z9i hl
 refine⟨by rw[<-r1.length];exact hz,?_⟩
 have hf:H1 s1.heap.objs.size=none:=I1.hok.fresh (Nat.le_refl _)
 have S2:=z1r hf (.tup vs)
 refine Post.bind e1 S1 ⟨.tup ds,.ref s1.heap.objs.size,upd H1 s1.heap.objs.size (.tup vs),e2,I1.laid (t':=s1.toks) (fun b u e=>Heap.get?_push_of_some _ e) (Nat.le_refl _) ?_,rfl,S2,Is.tup_iff.mpr ⟨_,vs,rfl,SqT.of z0q,i1.same S2⟩⟩
 exact⟨hz,us,r1,⟨_,Heap.get?_push_size _ rfl,rfl,_,rfl⟩⟩
theorem z7y(h:PAD X es gs):PF X (.List es pos) (gLst gs):=by
 refine⟨fun pins s σ H F Γ I fo rl hg=>?_⟩
 refine wpAny_List_spliced (wpAny_mono (h.run pos pins s σ H F Γ I fo rl (R.left hg)) (fun us s1 ⟨ds,vs,H1,e1,I1,r1,S1,i1⟩=>?_) fun _ _ x=>x.bind _)
 have hgx:=R.next hg e1
 obtain⟨⟨hl,hn⟩,e2⟩:=R.guard_ne hgx
 have hz:vs.length<=sizeLine:=by rw[<-i1.length];exact z9i hl
 refine⟨by rw[<-r1.length];exact hz,?_⟩
 have hf:H1 s1.heap.objs.size=none:=I1.hok.fresh (Nat.le_refl _)
 have S2:=z1r hf (.lst vs)
 have hH:H s1.heap.objs.size=none:=S1.free hf
 refine⟨ds,s1.heap.objs.size,vs,upd H1 s1.heap.objs.size (.lst vs),(R.step e1 _).trans e2,I1.laid (t':=s1.toks) (fun b u e=>Heap.get?_push_of_some _ e) (Nat.le_refl _) ?_,rfl,S1.trans S2,hH,z0q,?_⟩
 ·exact⟨hz,us,0,r1,Heap.get?_push_size _ rfl⟩
 ·exact IsAll.hid (((fo.same S1).same S2).cons z0q) ds vs hn (i1.same S2)
end
section
variable {X:Cx}{e a b c:Expr}{g ga gb gc:G->R D}{pos:Pos}
theorem od_I{f:Value->Value->Sem Value}{C:Int->Int->Prop}[∀i j,Decidable (C i j)]{v:Int->Int->V}{d:Int->Int->D}(hd:∀K H i j,Is K H (d i j) (v i j))(ho:OpR X.nox f (rI C v)) :
 OpD X f (fun x y=>match x,y with | .int i,.int j=>R.guard (C i j) (.ok (d i j)) | _,_=>.no):=by
 refine⟨_,ho,fun H x y dx dy ix iy hg=>?_⟩
 cases dx with
 | int i =>
   cases dy with
   | int j =>
     obtain⟨hc,e⟩:=R.guard_ne (show R.guard (C i j) (.ok (d i j)) ≠ .no from hg)
     exact⟨i,j,Is.int_iff.mp ix,Is.int_iff.mp iy,hc,d i j,e,.refl _,hd _ _ _ _⟩
   | _=>exact absurd rfl hg
 | _=>exact absurd rfl hg
theorem x4t{f:Value->Value->Sem Value}{v:Int->Int->V}{d:Int->Int->D}(hd:∀K H i j,Is K H (d i j) (v i j))(ho:OpR X.nox f (rI0 v)) :
 OpD X f (fun x y=>match x,y with | .int i,.int j=>.ok (d i j) | _,_=>.no):=by
 refine⟨_,ho,fun H x y dx dy ix iy hg=>?_⟩
 cases dx with
 | int i =>
   cases dy with
   | int j=>exact⟨i,j,Is.int_iff.mp ix,Is.int_iff.mp iy,d i j,rfl,.refl _,hd _ _ _ _⟩
   | _=>exact absurd rfl hg
 | _=>exact absurd rfl hg
theorem z9p:OpD X (binaryOp .Sub) dSub:=x4t (d:=fun i j=>.int (i-j)) (fun _ _ _ _=>Is.int_iff.mpr rfl) w4s
theorem z5p:OpD X (binaryOp .FloorDiv) dDiv:=od_I (d:=fun i j=>.int (i/j)) (fun _ _ _ _=>Is.int_iff.mpr rfl) (C:=fun i j=>0<j/\j<1073741824) w2m
theorem z3i:OpD X (binaryOp .Mod) dMod:=od_I (d:=fun i j=>.int (i%j)) (fun _ _ _ _=>Is.int_iff.mpr rfl) (C:=fun i j=>0<j) w4v
theorem w4y:OpD X (binaryOp .Pow) dPow:=od_I (d:=fun i j=>.int (i^j.toNat)) (fun _ _ _ _=>Is.int_iff.mpr rfl) (C:=fun i j=>0<=j/\j<=1000000/\i.natAbs<18446744073709551616) w4t
theorem y7n:OpD X (compareOp .Lt) dLt:=x4t (d:=fun i j=>.bl (decide (i<j))) (fun _ _ _ _=>Is.bl_iff.mpr rfl) w6r
theorem w6v:OpD X (compareOp .LtE) dLe:=x4t (d:=fun i j=>.bl (decide (i<=j))) (fun _ _ _ _=>Is.bl_iff.mpr rfl) w6s
theorem x4s:OpD X (compareOp .Gt) dGt:=x4t (d:=fun i j=>.bl (decide (j<i))) (fun _ _ _ _=>Is.bl_iff.mpr rfl) w6t
theorem w5a:OpD X (compareOp .GtE) dGe:=x4t (d:=fun i j=>.bl (decide (j<=i))) (fun _ _ _ _=>Is.bl_iff.mpr rfl) w6u
noncomputable def w6m(K:PySem.W.Frag):R2:=fun x y H Q=>∃a b xs ys,x = .ref a/\y = .ref b/\SqT K H a xs/\SqT K H b ys/\xs.length+ys.length<=sizeLine /\
 (xs=[]->Q (.ref b) H)/\(xs≠[]->ys=[]->Q (.ref a) H)/\(xs≠[]->ys≠[]->∀p,H p=none->Q (.ref p) (upd H p (.tup (xs++ys))))
theorem w2p:OpR X (binaryOp .Add) (w6m X.K):=by
 intro pins s σ H x y v u Q I rx ry h
 obtain⟨a,b,xs,ys,rfl,rfl,ha,hb,hz,q0,q1,q2⟩:=h
 by_cases hx:xs=[]
 ·cases rx
  cases ry
  obtain⟨its,r1,p1,_⟩:=I.tuple ha
  obtain⟨its2,r2,p2,_⟩:=I.tuple hb
  have hi:its=[]:=r1.nil_iff.mpr hx
  obtain⟨⟨cls,dd,data,sl⟩,ho,hc,n,hd⟩:=id p1
  obtain⟨⟨cls2,dd2,data2,sl2⟩,ho2,hc2,n2,hd2⟩:=id p2
  simp only at hc hd hc2 hd2
  subst hc hd hc2 hd2
  exact concat_meets ⟨_,ho,rfl⟩ ⟨_,ho2,rfl⟩ noFill_tuple_add seq_tuple_add PySem.F.slot_tuple_add PySem.F.entry_tuple_add (PySem.F.args_tuple_add_2 _ _)
   (tuple_addW0 a b its.toArray its2.toArray n n2 dd dd2 sl sl2 (by rw[hi];rfl)) ⟨ho,ho2,⟨.ref b,H,I,rfl,q0 hx⟩⟩
 ·exact w2n pins s σ H _ _ v u Q I rx ry ⟨a,b,xs,ys,rfl,rfl,ha,hb,hx,hz,q1 hx,q2 hx⟩
theorem z2m:OpD X (binaryOp .Add) dAdd:=by
 refine⟨_,OpR.or (w4w (X:=X.nox)) (w2p (X:=X.nox)),fun H x y dx dy ix iy hg=>?_⟩
 cases dx with
 | int i =>
   cases dy with
   | int j=>exact .inl ⟨i,j,Is.int_iff.mp ix,Is.int_iff.mp iy,.int (i+j),rfl,.refl _,Is.int_iff.mpr rfl⟩
   | _=>exact absurd rfl hg
 | tup ds =>
   cases dy with
   | tup es =>
     obtain⟨hc,e⟩:=R.guard_ne (show R.guard (ds.length+es.length<=1000) (R.ok (D.tup (ds++es)))≠R.no from hg)
     obtain⟨a,xs,rfl,h1,h2⟩:=Is.tup_iff.mp ix
     obtain⟨b,ys,rfl,h3,h4⟩:=Is.tup_iff.mp iy
     refine .inr ⟨a,b,xs,ys,rfl,rfl,h1,h3,by rw[<-h2.length,<-h4.length];exact z9i hc,fun z=>?_,fun z z'=>?_,fun z z' p hp=>?_⟩
     ·refine⟨.tup (ds++es),e,.refl _,Is.tup_iff.mpr ⟨b,ys,rfl,h3,?_⟩⟩
      have:ds=[]:=List.length_eq_zero_iff.mp (by rw[h2.length,z];rfl)
      rw[this];exact h4
     ·refine⟨.tup (ds++es),e,.refl _,Is.tup_iff.mpr ⟨a,xs,rfl,h1,?_⟩⟩
      have:es=[]:=List.length_eq_zero_iff.mp (by rw[h4.length,z'];rfl)
      rw[this,List.append_nil];exact h2
     ·have S:=z1r hp (.tup (xs++ys))
      exact⟨.tup (ds++es),e,S,Is.tup_iff.mpr ⟨p,xs++ys,rfl,SqT.of z0q,(h2.append h4).same S⟩⟩
   | _=>exact absurd rfl hg
 | _=>exact absurd rfl hg
theorem x1n(l:Addr)(items:Array Value)(n:Nat)(dd:Option Addr)(sl:Array (Option Value))(k:Int)(u:Tok)(h1:(decide (k < -(2^63))||decide (k≥2^63))=false)(hc:(items.isEmpty||k==1)=true) :
 Meets (Builtin.«tuple.__mul__» ⟨[.ref l,.int k u],[]⟩) (fun _ Q s=>s.heap.get? l=some { cls:=.type "tuple",dict:=dd,data:=.seq items n,slots:=sl }/\Q (.ok (.ret (Value.ref l))) s) :=
 .of_wp fun prog w A Q s h=>by obtain⟨hp,g,d,tk,os⟩:=s;obtain⟨hl,h⟩:=h;have f1:=AutoSeq1.idx_int;wp_walk using wpAny_loadPart' hl;refine wpAny_ite_false (by rw[h1];rfl) ?_;wp_walk using wpAny_loadPart' hl;exact⟨_,rfl,h⟩
theorem x1p(l:Addr)(items:Array Value)(n:Nat)(dd:Option Addr)(sl:Array (Option Value))(k:Int)(u:Tok)(h1:(decide (k < -(2^63))||decide (k≥2^63))=false)(hc:(items.isEmpty||k==1)=false)(hc2:(decide (k<=0)||items.isEmpty)=true) :
 Meets (Builtin.«tuple.__mul__» ⟨[.ref l,.int k u],[]⟩) (fun _ Q s=>s.heap.get? l=some { cls:=.type "tuple",dict:=dd,data:=.seq items n,slots:=sl }/\Q (.ok (.ret (Value.ref s.heap.objs.size))) { s with heap:=s.heap.push { cls:=.type "tuple",data:=.seq #[] } }) :=
 .of_wp fun prog w A Q s h=>by obtain⟨hp,g,d,tk,os⟩:=s;obtain⟨hl,h⟩:=h;have f1:=AutoSeq1.idx_int;wp_walk using wpAny_loadPart' hl;refine wpAny_ite_false (by rw[h1];rfl) ?_;wp_walk using wpAny_loadPart' hl;exact⟨_,rfl,h⟩
theorem x1o(l:Addr)(items:Array Value)(n:Nat)(dd:Option Addr)(sl:Array (Option Value))(k:Int)(u:Tok)(h1:(decide (k < -(2^63))||decide (k≥2^63))=false)(hc:(items.isEmpty||k==1)=false)(hc2:(decide (k<=0)||items.isEmpty)=false)(hc3:¬((items.size:Int)*k>(2^63-1)/8))(hc4:Builtin.Tuple.tupleTooMany ((items.size:Int)*k)=false)(hc5:¬((List.replicate k.toNat items).foldl (fun x1 x2=>x1++x2) #[]).size>sizeLine) :
 Meets (Builtin.«tuple.__mul__» ⟨[.ref l,.int k u],[]⟩) (fun _ Q s=>s.heap.get? l=some { cls:=.type "tuple",dict:=dd,data:=.seq items n,slots:=sl }/\Q (.ok (.ret (Value.ref s.heap.objs.size))) { s with heap:=s.heap.push { cls:=.type "tuple",data:=.seq ((List.replicate k.toNat items).foldl (·++·) #[]) } }) :=
 .of_wp fun prog w A Q s h=>by obtain⟨hp,g,d,tk,os⟩:=s;obtain⟨hl,h⟩:=h;have f1:=AutoSeq1.idx_int;wp_walk using wpAny_loadPart' hl;refine wpAny_ite_false (by rw[h1];rfl) ?_;wp_walk using wpAny_loadPart' hl;refine wpAny_ite_false (decide_eq_false hc3) ?_;wp_walk using wpAny_loadPart' hl;exact⟨_,rfl,h⟩
theorem y2b:fillsNumberSlot (.type "tuple") "mul"=pure false :=
 PySem.fillsNumberSlot_seq (id:="tuple.__mul__") (r:=some (.builtin "tuple.__rmul__")) F.slot_tuple_mul.lookup (by decide +kernel) F.slot_tuple_rmul.lookup (by decide +kernel)
theorem y7f:seqRepeat? (.type "tuple")=pure (some (.builtin "tuple.__mul__")):=by
 unfold seqRepeat?
 rw[PySem.seqSlot_of (T:="tuple") (name:="__mul__") (id:="tuple.__mul__") F.slot_tuple_mul.lookup (by decide +kernel),PySem.seqSlot_of (T:="tuple") (name:="__rmul__") (id:="tuple.__rmul__") F.slot_tuple_rmul.lookup (by decide +kernel)]
 rfl
theorem y4i(a:Int)(t:Tok)(l:Addr)(items:Array Value)(n:Nat)(dd:Option Addr)(sl:Array (Option Value)) :
 Meets (Builtin.«int.__rmul__» ⟨[.int a t,.ref l],[]⟩) (fun _ Q s=>s.heap.get? l=some { cls:=.type "tuple",dict:=dd,data:=.seq items n,slots:=sl }/\Q (.ok (.ret Value.notImplemented)) s) :=
 .of_wp fun prog w A Q s h=>by obtain⟨hp,g,d,tk,os⟩:=s;obtain⟨hl,h⟩:=h;wp_walk;exact⟨_,rfl,h⟩
noncomputable def w6j(K:PySem.W.Frag):R2:=fun x y H Q=>∃l k xs,x = .ref l/\y = .int k/\SqT K H l xs/\0<=k/\k<1000000/\xs.length*k.toNat<=1000 /\
 ((xs=[]∨k=1)->Q (.ref l) H)/\(xs≠[]->k≠1->∀p,H p=none->Q (.ref p) (upd H p (.tup (List.replicate k.toNat xs).flatten)))
theorem w2l:OpR X (binaryOp .Mult) (w6j X.K):=by
 intro pins s σ H x y v u Q I rx ry h
 obtain⟨l,k,xs,rfl,rfl,hH,h1,h2,hz,q0,q1⟩:=h
 cases rx
 obtain⟨t,rfl⟩:=ry
 obtain⟨its,r,p1,hz2⟩:=I.tuple hH
 have hl:its.length=xs.length:=r.length.symm
 obtain⟨⟨cls,dd,data,sl⟩,ho,hc,n,hd⟩:=id p1
 simp only at hc hd
 subst hc hd
 have hb:(decide (k < -(2^63))||decide (k≥2^63))=false:=by
  rw[decide_eq_false (by lia),decide_eq_false (by lia)];rfl
 refine wpAny_binaryOp_repeat_ref (T:="tuple") (U:="int") (by decide) ⟨_,ho,rfl⟩ (fun s'=>typeIs_int s' k t) y2b F.fills_int_mul F.slot_int_rmul y7f F.slot_int_index.lookup
  (call_meets F.slot_int_rmul (typeIs_int s k t) F.entry_int_rmul (F.args_int_rmul_2 _ _) (y4i k t l its.toArray n dd sl) ⟨ho,rfl,⟨_,ho,rfl⟩,?_⟩)
 by_cases c1:xs=[]∨k=1
 ·have hc1:(its.toArray.isEmpty||k==1)=true:=by
   rcases c1 with c | c
   ·have:its=[]:=List.length_eq_zero_iff.mp (by rw[hl,c];rfl)
    rw[this];rfl
   ·rw[c];simp
  exact call_meets F.slot_tuple_mul ⟨_,ho,rfl⟩ F.entry_tuple_mul (F.args_tuple_mul_2 _ _) (x1n l its.toArray n dd sl k t hb hc1) ⟨ho,⟨.ref l,H,I,rfl,q0 c1⟩⟩
 ·have hx:xs≠[]:=fun e=>c1 (.inl e)
  have hk1:k≠1:=fun e=>c1 (.inr e)
  have hne:its≠[]:=fun e=>hx (List.length_eq_zero_iff.mp (by rw[<-hl,e];rfl))
  have he:its.toArray.isEmpty=false:=by cases its with | nil=>exact absurd rfl hne | cons a b=>rfl
  have hc1:(its.toArray.isEmpty||k==1)=false:=by rw[he];simpa using hk1
  by_cases c2:k<=0
  ·have hk0:k=0:=by lia
   refine call_meets F.slot_tuple_mul ⟨_,ho,rfl⟩ F.entry_tuple_mul (F.args_tuple_mul_2 _ _) (x1p l its.toArray n dd sl k t hb hc1 (by rw[decide_eq_true c2];rfl)) ⟨ho,?_⟩
   have e0:(List.replicate k.toNat xs).flatten=[]:=by rw[hk0];rfl
   refine⟨.ref s.heap.objs.size,_,I.laid (t':=s.toks) (o:=.tup (List.replicate k.toNat xs).flatten) (fun b ob q=>Heap.get?_push_of_some _ q) (Nat.le_refl _) ?_,rfl,q1 hx hk1 _ (I.hok.fresh (Nat.le_refl _))⟩
   rw[e0]
   exact⟨by decide,[],.nil,⟨_,Heap.get?_push_size _ rfl,rfl,_,rfl⟩⟩
  ·have f0:∀m:Nat,List.foldl (fun x1 x2=>x1++x2) #[] (List.replicate m its.toArray)=(List.replicate m its).flatten.toArray:=fun m=>by
    have:=y7v its m []
    rw[List.nil_append] at this
    exact this
   have hlr:(List.replicate k.toNat its).flatten.length<=1000:=by rw[x5i,hl,Nat.mul_comm];exact hz
   have hsz:(its.toArray.size:Int)*k<=1000:=by
    rw[List.size_toArray,hl,show k=((k.toNat:Nat):Int) by lia]
    exact_mod_cast hz
   refine call_meets F.slot_tuple_mul ⟨_,ho,rfl⟩ F.entry_tuple_mul (F.args_tuple_mul_2 _ _) (x1o l its.toArray n dd sl k t hb hc1 (by rw[decide_eq_false c2,he];rfl) (by lia) ?_ ?_) ⟨ho,?_⟩
   ·unfold Builtin.Tuple.tupleTooMany
    have:(1000:Int)<=(sizeLine:Int):=by decide
    exact decide_eq_false (by lia)
   ·rw[f0,List.size_toArray]
    have:=z9i hlr
    lia
   ·rw[f0]
    refine⟨.ref s.heap.objs.size,_,I.laid (t':=s.toks) (o:=.tup (List.replicate k.toNat xs).flatten) (fun b ob q=>Heap.get?_push_of_some _ q) (Nat.le_refl _) ?_,rfl,q1 hx hk1 _ (I.hok.fresh (Nat.le_refl _))⟩
    exact⟨by rw[x5i,Nat.mul_comm];exact z9i hz,_,r.rep k.toNat,⟨_,Heap.get?_push_size _ rfl,rfl,_,rfl⟩⟩
theorem IsAll.rep{K:PySem.W.Frag}{H:Hp}{ds:List D}{xs:List V}(h:IsAll K H ds xs):∀n:Nat,IsAll K H (List.replicate n ds).flatten (List.replicate n xs).flatten
 | 0=>IsAll.nil
 | n+1=>by rw[List.replicate_succ,List.flatten_cons,List.replicate_succ,List.flatten_cons];exact h.append (IsAll.rep h n)
theorem y0n:OpD X (binaryOp .Mult) dMul:=by
 refine⟨_,OpR.or (w4u (X:=X.nox)) (w2l (X:=X.nox)),fun H x y dx dy ix iy hg=>?_⟩
 cases dx with
 | int i =>
   cases dy with
   | int j =>
     obtain⟨hc,e⟩:=R.guard_ne (show R.guard (z9x i j) (R.ok (D.int (i*j)))≠R.no from hg)
     refine .inl ⟨i,j,Is.int_iff.mp ix,Is.int_iff.mp iy,?_,.int (i*j),e,.refl _,Is.int_iff.mpr rfl⟩
     unfold z9x y2d at hc
     show(-(2^64)<i/\i<2^64)∨(-(2^64)<j/\j<2^64)
     lia
   | _=>exact absurd rfl hg
 | tup ds =>
   cases dy with
   | int j =>
     obtain⟨⟨hc1,hc2⟩,e⟩:=R.guard_ne (show R.guard (0<=j/\j<1000000/\ds.length*j.toNat<=1000) (R.ok (D.tup (List.replicate j.toNat ds).flatten))≠R.no from hg)
     obtain⟨a,xs,rfl,h1,h2⟩:=Is.tup_iff.mp ix
     have hxl:=h2.length
     refine .inr ⟨a,j,xs,rfl,Is.int_iff.mp iy,h1,hc1,hc2.1,by rw[<-hxl];exact hc2.2,fun c=>?_,fun z z' p hp=>?_⟩
     ·refine⟨_,e,.refl _,Is.tup_iff.mpr ⟨a,xs,rfl,h1,?_⟩⟩
      rcases c with c | c
      ·have:ds=[]:=List.length_eq_zero_iff.mp (by rw[hxl,c];rfl)
       rw[this,c]
       have e2:∀m:Nat,(List.replicate m ([]:List D)).flatten=[]:=fun m=>by simp
       rw[e2];exact IsAll.nil
      ·subst c
       show IsAll X.K H (List.replicate 1 ds).flatten xs
       rw[show(List.replicate 1 ds).flatten=ds by simp];exact h2
     ·have S:=z1r hp (.tup (List.replicate j.toNat xs).flatten)
      exact⟨_,e,S,Is.tup_iff.mpr ⟨p,_,rfl,SqT.of z0q,(h2.rep _).same S⟩⟩
   | _=>exact absurd rfl hg
 | _=>exact absurd rfl hg
mutual
noncomputable def D.py:D->PyData
 | .non=>.none
 | .bl b=>.bool b
 | .int i=>.int i
 | .str x=>.str x
 | .tup ds=>.tuple (D.pys ds)
 | .lst ds=>.list (D.pys ds)
 | .dct=>.dict []
 | .exc _=>.dict []
noncomputable def D.pys:List D->List PyData
 | []=>[]
 | d::ds=>d.py::D.pys ds
end
mutual
theorem z9r:∀(n:Nat) (d:D),D.lay n d=true->d.py.canLay0=true/\d.py.depth<=n
 | n,.non,_=>by simp[D.py,PyData.canLay0,PyData.depth]
 | n,.bl _,_=>by simp[D.py,PyData.canLay0,PyData.depth]
 | n,.int _,_=>by simp[D.py,PyData.canLay0,PyData.depth]
 | n,.str x,h=>by
   have h':PyData.strOk x=true:=by have:=h;rw[y1f] at this;exact this
   simp[D.py,PyData.canLay0,PyData.depth,h']
 | 0,.tup ds,h=>by simp[D.lay] at h
 | 0,.lst ds,h=>by simp[D.lay] at h
 | n+1,.tup ds,h=>by
   have q:=lays_py n ds (by simpa [D.lay] using h)
   constructor
   ·simpa [D.py,PyData.canLay0] using q.1
   ·have:=q.2
    simp only[D.py,PyData.depth];lia
 | n+1,.lst ds,h=>by
   have q:=lays_py n ds (by simpa [D.lay] using h)
   constructor
   ·simpa [D.py,PyData.canLay0] using q.1
   ·have:=q.2
    simp only[D.py,PyData.depth];lia
 | n,.dct,h=>by cases n<;>simp[D.lay] at h
 | n,.exc _,h=>by cases n<;>simp[D.lay] at h
theorem lays_py:∀(n:Nat) (ds:List D),D.lays n ds=true->PyData.canLayAll0 (D.pys ds)=true/\PyData.depthAll (D.pys ds)<=n
 | n,[],_=>by simp[D.pys,PyData.canLayAll0,PyData.depthAll]
 | n,d::ds,h=>by
   have h':D.lay n d=true/\D.lays n ds=true:=by simpa [D.lays] using h
   have q1:=z9r n d h'.1
   have q2:=lays_py n ds h'.2
   constructor
   ·simp[D.pys,PyData.canLayAll0,q1.1,q2.1]
   ·have:=q1.2;have:=q2.2
    simp only[D.pys,PyData.depthAll];lia
end
mutual
theorem z5c{pins:List (Addr×Obj)}{σ:St}{H:Hp}{s:Shared}(I:Inv X pins σ H s):∀(n:Nat) (d:D) (v:V) (u:Value),D.lay n d=true->Is X.K H d v->RelV v u->∃as,Reads s.heap u d.py as
 | _,.non,v,u,_,i,r=>by
   rw[Is.non_iff.mp i] at r;cases (show u=Value.none from r)
   exact⟨_,.none⟩
 | _,.bl b,v,u,_,i,r=>by
   rw[Is.bl_iff.mp i] at r;cases (show u=Value.bool b from r)
   exact⟨_,.bool b⟩
 | _,.int k,v,u,_,i,r=>by
   rw[Is.int_iff.mp i] at r
   obtain⟨t,rfl⟩:=(show ∃t,u=Value.int k t from r)
   exact⟨_,.int k t⟩
 | _,.str x,v,u,_,i,r=>by
   rw[Is.str_iff.mp i] at r
   obtain⟨t,rfl⟩:=(show ∃t,u=Value.str x t from r)
   exact⟨_,.str x t⟩
 | 0,.tup ds,v,u,h,_,_=>by simp[D.lay] at h
 | 0,.lst ds,v,u,h,_,_=>by simp[D.lay] at h
 | n+1,.tup ds,v,u,h,i,r=>by
   obtain⟨a,xs,rfl,h1,h2⟩:=Is.tup_iff.mp i
   cases (show u=Value.ref a from r)
   obtain⟨its,rv,⟨o,ho,hc,m,hd⟩,_⟩:=I.tuple h1
   obtain⟨as,ra⟩:=readsAll_of I n ds xs its (by simpa [D.lay] using h) h2 rv
   exact⟨as,by unfold D.py;exact .tuple ho hc hd (by simpa using ra)⟩
 | n+1,.lst ds,v,u,h,i,r=>by
   obtain⟨a,xs,rfl,h1,h2⟩:=Is.lst_iff.mp i
   cases (show u=Value.ref a from r)
   obtain⟨its,rv,⟨o,m,ho,hc,_,hd⟩,_⟩:=I.list h1
   obtain⟨as,ra⟩:=readsAll_of I n ds xs its (by simpa [D.lay] using h) h2 rv
   exact⟨a::as,by unfold D.py;exact .list ho hc hd (by simpa using ra)⟩
 | n,.dct,v,u,h,_,_=>by cases n<;>simp[D.lay] at h
 | n,.exc _,v,u,h,_,_=>by cases n<;>simp[D.lay] at h
theorem readsAll_of{pins:List (Addr×Obj)}{σ:St}{H:Hp}{s:Shared}(I:Inv X pins σ H s):∀(n:Nat) (ds:List D) (xs:List V) (us:List Value),D.lays n ds=true->IsAll X.K H ds xs->Vals xs us->∃as,ReadsAll s.heap us (D.pys ds) as
 | n,[],xs,us,_,i,r=>by
   rw[IsAll.nil_iff.mp i] at r
   cases r
   exact⟨_,by unfold D.pys;exact .nil⟩
 | n,d::ds,xs,us,h,i,r=>by
   obtain⟨x,r',rfl,h1,h2⟩:=IsAll.cons_iff.mp i
   have h':D.lay n d=true/\D.lays n ds=true:=by simpa [D.lays] using h
   cases r with
   | cons q1 q2 =>
     obtain⟨as,ra⟩:=z5c I n d x _ h'.1 h1 q1
     obtain⟨bs,rb⟩:=readsAll_of I n ds r' _ h'.2 h2 q2
     exact⟨as++bs,by unfold D.pys;exact .cons ra rb⟩
end
mutual
theorem y7w:∀x y:D,eqD x y=PyData.eqv x.py y.py
 | .non,y=>by cases y<;>simp[eqD,D.py,PyData.eqv]
 | .bl _,y=>by cases y<;>simp[eqD,D.py,PyData.eqv]
 | .int _,y=>by cases y<;>simp[eqD,D.py,PyData.eqv]
 | .str _,y=>by cases y<;>simp[eqD,D.py,PyData.eqv]
 | .dct,y=>by cases y<;>simp[eqD,D.py,PyData.eqv]
 | .exc _,y=>by cases y<;>simp[eqD,D.py,PyData.eqv]
 | .tup xs,y=>by
   cases y with
   | tup ys=>rw[eqD,D.py,D.py,PyData.eqv,eqDs_py xs ys]
   | _=>simp[eqD,D.py,PyData.eqv]
 | .lst xs,y=>by
   cases y with
   | lst ys=>rw[eqD,D.py,D.py,PyData.eqv,eqDs_py xs ys]
   | _=>simp[eqD,D.py,PyData.eqv]
theorem eqDs_py:∀xs ys:List D,eqDs xs ys=PyData.eqvAll (D.pys xs) (D.pys ys)
 | [],[]=>by simp[eqDs,D.pys,PyData.eqvAll]
 | [],_::_=>by simp[eqDs,D.pys,PyData.eqvAll]
 | _::_,[]=>by simp[eqDs,D.pys,PyData.eqvAll]
 | x::xs,y::ys=>by rw[eqDs,D.pys,D.pys,PyData.eqvAll,y7w x y,eqDs_py xs ys]
end
theorem z6w(hu:X.A.units+64<cLine):OpD X (compareOp .Eq) dEq:=by
 refine⟨fun x y H Q=>∃dx dy,Is X.K H dx x/\Is X.K H dy y/\D.lay 40 dx=true/\D.lay 40 dy=true/\Q (.bl (eqD dx dy)) H,?_,fun H x y dx dy ix iy hg=>?_⟩
 ·intro pins s σ H x y v u Q I rx ry h
  obtain⟨dx,dy,ix,iy,l1,l2,q⟩:=h
  obtain⟨as,ra⟩:=z5c I 40 dx x v l1 ix rx
  obtain⟨bs,rb⟩:=z5c I 40 dy y u l2 iy ry
  have p1:=z9r 40 dx l1
  have p2:=z9r 40 dy l2
  have hu':X.A.units+64<cLine:=hu
  refine PySem.SeqAt.compareEq_reads ra rb p1.1 p2.1 (show X.A.units+min dx.py.depth dy.py.depth<cLine by lia) ⟨.bl (eqD dx dy),H,I,by rw[y7w];rfl,q⟩
 ·obtain⟨⟨l1,l2⟩,e⟩:=R.guard_ne hg
  exact⟨dx,dy,ix,iy,l1,l2,.bl (eqD dx dy),e,.refl _,Is.bl_iff.mpr rfl⟩
theorem y5u(hu:X.A.units+64<cLine):OpD X (compareOp .NotEq) dNe:=by
 refine⟨fun x y H Q=>∃dx dy,Is X.K H dx x/\Is X.K H dy y/\D.lay 40 dx=true/\D.lay 40 dy=true/\Q (.bl (!eqD dx dy)) H,?_,fun H x y dx dy ix iy hg=>?_⟩
 ·intro pins s σ H x y v u Q I rx ry h
  obtain⟨dx,dy,ix,iy,l1,l2,q⟩:=h
  obtain⟨as,ra⟩:=z5c I 40 dx x v l1 ix rx
  obtain⟨bs,rb⟩:=z5c I 40 dy y u l2 iy ry
  have p1:=z9r 40 dx l1
  have p2:=z9r 40 dy l2
  have hu':X.A.units+64<cLine:=hu
  refine PySem.SeqAt.compareNe_reads ra rb p1.1 p2.1 (show X.A.units+min dx.py.depth dy.py.depth<cLine by lia) ⟨.bl (!eqD dx dy),H,I,by rw[y7w];rfl,q⟩
 ·obtain⟨⟨l1,l2⟩,e⟩:=R.guard_ne hg
  exact⟨dx,dy,ix,iy,l1,l2,.bl (!eqD dx dy),e,.refl _,Is.bl_iff.mpr rfl⟩
theorem IsAll.atI{K:PySem.W.Frag}{H:Hp}{ds:List D}{xs:List V}{i:Int}{d:D}(h:IsAll K H ds xs)(e:atI ds i=some d):∃x,L2.atI xs i=some x/\Is K H d x:=by
 unfold L2.atI
 unfold L3.atI at e
 rw[<-h.length]
 show ∃x,((L3.ixN ds.length i).bind fun j=>xs[j]?)=some x/\Is K H d x
 cases q:L3.ixN ds.length i with
 | none=>rw[q] at e;cases e
 | some j =>
   rw[q] at e
   exact h.get (by simpa using e)
theorem z3h(ha:PD X a ga)(hb:PD X b gb)(hs:w3w b:=by intro _ _;rfl):PD X (.Subscript a b pos) (gBin dIx ga gb):=by
 refine⟨fun pins s σ H F Γ I fo rl hg=>?_⟩
 refine Subscript_ (wpAny_mono (ha.run pins s σ H F Γ I fo rl (R.left hg)) (fun v s1 ⟨dx,x,H1,e1,I1,r1,S1,i1⟩=>?_) fun _ _ x=>x.bind _)
 have hg1:=R.next hg e1
 refine wpAny_mono (hb.run pins s1 σ H1 F Γ I1 (fo.same S1) (rl.same S1) (R.left hg1)) (fun u s2 ⟨dy,y,H2,e2,I2,r2,S2,i2⟩=>?_) fun _ _ x=>z1p.later e1 S1 (x.bind _)
 have hg2:=R.next hg1 e2
 have i1':=i1.same S2
 have fin:∀(d:D) (z:V),dIx dx dy = .ok d->Is X.K H2 d z->∀(w':Value) (s':Shared),EP X.nox pins σ (fun z' H'=>z'=z/\H'=H2) w' s'->Post X pins σ H (gBin dIx ga gb Γ) w' s':=fun d z ed iz w' s' ⟨z',H',I',rz,ez,eH⟩=>by
  subst ez eH
  exact Post.bind e1 S1 (Post.bind e2 S2 ⟨d,z',H',ed,I'.unwish,rz,.refl _,iz⟩)
 cases dx with
 | tup ds =>
   cases dy with
   | int i =>
     obtain⟨p,xs,rfl,h1,h2⟩:=Is.tup_iff.mp i1'
     cases q:atI ds i with
     | none=>exact absurd (show dIx (.tup ds) (.int i) = .no by simp only[dIx,q]) hg2
     | some d =>
       obtain⟨z,ez,iz⟩:=h2.atI q
       exact wpAny_mono (w5p (X:=X.nox) a b pins s2 σ H2 _ y v u _ (I2.wish _) r1 r2 ⟨p,xs,i,z,rfl,Is.int_iff.mp i2,h1,ez,rfl,rfl⟩ (hs _ _)) (fun w' s' h=>fin d z (by show dIx (.tup ds) (.int i) = .ok d;simp only[dIx,q]) iz w' s' h) fun _ _ z=>False.elim z
   | _=>exact absurd rfl hg2
 | lst ds =>
   cases dy with
   | int i =>
     obtain⟨p,xs,rfl,h1,h2⟩:=Is.lst_iff.mp i1'
     cases q:atI ds i with
     | none=>exact absurd (show dIx (.lst ds) (.int i) = .no by simp only[dIx,q]) hg2
     | some d =>
       obtain⟨z,ez,iz⟩:=h2.atI q
       exact wpAny_mono (w3f (X:=X.nox) a b pins s2 σ H2 _ y v u _ (I2.wish _) r1 r2 ⟨p,xs,i,z,rfl,Is.int_iff.mp i2,h1,ez,rfl,rfl⟩ (hs _ _)) (fun w' s' h=>fin d z (by show dIx (.lst ds) (.int i) = .ok d;simp only[dIx,q]) iz w' s' h) fun _ _ z=>False.elim z
   | _=>exact absurd rfl hg2
 | _=>exact absurd rfl hg2
variable {x:Str}{p:Pos}{es:List Expr}{gs:G->R (List D)}{bid T:String}
noncomputable def y4g(X:Cx)(f:Value)(g:List D->R D):Prop:=∃r:List V->Hp->VK->Prop,y0d X.nox f r/\∀H xs ds,IsAll X.K H ds xs->g ds ≠ .no->r xs H fun z H'=>∃d,g ds = .ok d/\Same H H'/\Is X.K H' d z
theorem y4g.run{f:Value}{g:List D->R D}(h:y4g X f g){pins:List (Addr×Obj)}{s:Shared}{σ:St}{H:Hp}{xs:List V}{us:List Value}{ds:List D}(I:Inv X pins σ H s)(r:Vals xs us)(i:IsAll X.K H ds xs)(hg:g ds ≠ .no){E:Value->Shared->Prop} :
 wpAny (model X.prog X.w) X.A (call f us) (Post X pins σ H (g ds)) E s:=by
 obtain⟨r',ho,hr⟩:=h
 exact wpAny_mono (ho pins s σ H xs us _ (I.wish _) r (hr H xs ds i hg)) (fun _ _ ⟨z,H',I',rz,d,e,S,i⟩=>⟨d,z,H',e,I'.unwish,rz,S,i⟩) fun _ _ z=>False.elim z
theorem z1j{g:List D->R D}(hc:y4g X (.builtin bid) g)(hm:X.mg x=none)(hv:bootBuiltins x=some (.builtin bid))(ha:PAD X (e::es) gs)(hg:Gl X x:=by rfl)(hn:x≠"__name__":=by decide)(hdb:(x==("__debug__":Str))=false:=by decide)
 (he:starEach (e::es) X.env=(false,eval e X.env)::starEach es X.env:=by rfl) (hpl:(backTo pos (starEach es X.env)).any (·.1)=false:=by rfl):PD X (.Call (.Name x p) (e::es) [] pos) (z0g g gs):=by
 refine⟨fun pins s σ H F Γ I fo rl hgg=>?_⟩
 refine wpAny_Call_Name_kw (z4m I hg hm hv ?_ hn hdb)
 refine PyProof.Rows.callWith_builtin1 (wpAny_mono (ha.run pos pins s σ H F Γ I fo rl (R.left hgg)) (fun us s1 ⟨ds,vs,H1,e1,I1,r1,S1,i1⟩=>?_) fun _ _ x=>x.bind _) he hpl
 exact thn (hc.run I1 r1 i1 (R.next hgg e1)) fun _ _ q=>Post.bind e1 S1 q
theorem z3u{g:List D->R D}(hc:y4g X (.type T) g)(hm:X.mg x=none)(hv:bootBuiltins x=some (.type T))(ha:PAD X (e::es) gs)(hg:Gl X x:=by rfl)(hn:x≠"__name__":=by decide)(hdb:(x==("__debug__":Str))=false:=by decide)
 (he:starEach (e::es) X.env=(false,eval e X.env)::starEach es X.env:=by rfl) (hpl:(backTo pos (starEach es X.env)).any (·.1)=false:=by rfl):PD X (.Call (.Name x p) (e::es) [] pos) (z0g g gs):=by
 refine⟨fun pins s σ H F Γ I fo rl hgg=>?_⟩
 refine wpAny_Call_Name_kw (z4m I hg hm hv ?_ hn hdb)
 refine PyProof.Rows.callWith_type1 (wpAny_mono (ha.run pos pins s σ H F Γ I fo rl (R.left hgg)) (fun us s1 ⟨ds,vs,H1,e1,I1,r1,S1,i1⟩=>?_) fun _ _ x=>x.bind _) he hpl
 exact thn (hc.run I1 r1 i1 (R.next hgg e1)) fun _ _ q=>Post.bind e1 S1 q
theorem z9s{K:PySem.W.Frag}{H:Hp}{d:D}{xs:List V}(h:IsAll K H [d] xs):∃v,xs=[v]/\Is K H d v:=by
 obtain⟨x,r,rfl,h1,h2⟩:=IsAll.cons_iff.mp h
 rw[IsAll.nil_iff.mp h2]
 exact⟨x,rfl,h1⟩
theorem w0w{K:PySem.W.Frag}{H:Hp}{d d':D}{xs:List V}(h:IsAll K H [d,d'] xs):∃v v',xs=[v,v']/\Is K H d v/\Is K H d' v':=by
 obtain⟨x,r,rfl,h1,h2⟩:=IsAll.cons_iff.mp h
 obtain⟨v,rfl,h3⟩:=z9s h2
 exact⟨x,v,rfl,h1,h3⟩
theorem z6k:y4g X (.builtin "len") dLen:=by
 refine⟨_,y8e (X:=X.nox),fun H xs ds i hg=>?_⟩
 unfold dLen at hg
 split at hg
 ·rename_i ys
  obtain⟨v,rfl,h⟩:=z9s i
  obtain⟨a,zs,rfl,h1,h2⟩:=Is.tup_iff.mp h
  exact⟨a,zs,rfl,.inr h1,.int ys.length,rfl,.refl _,Is.int_iff.mpr (by rw[h2.length])⟩
 ·rename_i ys
  obtain⟨v,rfl,h⟩:=z9s i
  obtain⟨a,zs,rfl,h1,h2⟩:=Is.lst_iff.mp h
  exact⟨a,zs,rfl,.inl h1,.int ys.length,rfl,.refl _,Is.int_iff.mpr (by rw[h2.length])⟩
 ·exact absurd rfl hg
theorem z5e:y4g X (.type "tuple") z2r:=by
 refine⟨_,y6i (X:=X.nox),fun H xs ds i hg=>?_⟩
 unfold z2r at hg
 split at hg
 ·rename_i ys
  obtain⟨v,rfl,h⟩:=z9s i
  obtain⟨a,zs,rfl,h1,h2⟩:=Is.tup_iff.mp h
  exact⟨a,zs,rfl,.inr ⟨h1,.tup ys,rfl,.refl _,h⟩⟩
 ·rename_i ys
  obtain⟨v,rfl,h⟩:=z9s i
  obtain⟨a,zs,rfl,h1,h2⟩:=Is.lst_iff.mp h
  refine⟨a,zs,rfl,.inl ⟨h1,fun l hl=>?_⟩⟩
  have S:=z1r hl (.tup zs)
  exact⟨.tup ys,rfl,S,Is.tup_iff.mpr ⟨l,zs,rfl,SqT.of z0q,h2.same S⟩⟩
 ·exact absurd rfl hg
theorem w1h(hc:X.calm=true):y4g X (.builtin "min") dMin:=by
 refine⟨_,x6w (X:=X.nox) hc,fun H xs ds i hg=>?_⟩
 unfold dMin at hg
 split at hg
 ·rename_i i' j'
  obtain⟨v,v',rfl,h,h'⟩:=w0w i
  exact⟨i',j',by rw[Is.int_iff.mp h,Is.int_iff.mp h'],_,rfl,.refl _,Is.int_iff.mpr rfl⟩
 ·exact absurd rfl hg
theorem x7n(hc:X.calm=true):y0d X (.builtin "sum") (fun xs H Q=>∃(a:Addr) (ns:List Int),xs=[.ref a]/\SqL X.K H a (ns.map V.int)/\Q (.int ns.sum) H):=by
 intro pins s σ H xs us Q I r h
 obtain⟨a,ns,rfl,hq,q⟩:=h
 obtain⟨u,rfl,ru⟩:=y8t r
 cases ru
 obtain⟨its,rv,pl,_⟩:=I.list hq
 have hi:IntsAre its ns:=intsAre_of rv
 obtain⟨ys,hy⟩:=hi.allInts.items
 have hl:=pl.isList
 rw[hy] at hl
 refine sum_intListG (I.ok.hd hc) hl fun h' tk t' hk=>⟨.int ns.sum,H,I.kept hk,⟨t',?_⟩,q⟩
 have hn:numsOf its.toArray.toList=ns:=by rw[show its.toArray.toList=its from rfl,hi.numsOf]
 rw[hy,nums_intItems] at hn
 rw[preSum_eq,List.take_of_length_le (by simp),hn]
theorem w1g(hc:X.calm=true):y4g X (.builtin "sum") dSum:=by
 refine⟨_,x7n (X:=X.nox) hc,fun H xs ds i hg=>?_⟩
 unfold dSum at hg
 split at hg
 ·rename_i ys
  obtain⟨v,rfl,h⟩:=z9s i
  obtain⟨a,zs,rfl,h1,h2⟩:=Is.lst_iff.mp h
  cases q:ints? ys with
  | none=>rw[q] at hg;exact absurd rfl hg
  | some ns =>
    have:=ints?_some q
    subst this
    rw[h2.ints_eq] at h1
    exact⟨a,ns,rfl,h1,.int ns.sum,by show dSum [.lst (ns.map D.int)]=_;simp only[dSum,q],.refl _,Is.int_iff.mpr rfl⟩
 ·exact absurd rfl hg
theorem IsAll.bools_eq{K:PySem.W.Frag}{H:Hp}:∀{ns:List Bool} {xs:List V},IsAll K H (ns.map D.bl) xs->xs=ns.map V.bl
 | [],xs,h=>IsAll.nil_iff.mp h
 | n::ns,xs,h=>by
   obtain⟨x,r,rfl,hx,tr⟩:=IsAll.cons_iff.mp h
   rw[Is.bl_iff.mp hx,IsAll.bools_eq tr];rfl
theorem y4f:∀{bs:List Bool} {us:List Value} {i:Nat} {v:Value},Vals (bs.map V.bl) us->us[i]? = some v->∃b,bs[i]? = some b/\v = .bool b
 | [],us,i,v,r,e=>by cases r;simp at e
 | b::bs,us,0,v,r,e=>by
   cases r with
   | cons r1 r2=>simp at e;subst e;exact⟨b,rfl,r1⟩
 | b::bs,us,i+1,v,r,e=>by
   cases r with
   | cons r1 r2 =>
     obtain⟨b',e1,e2⟩:=y4f (i:=i) r2 (by simpa using e)
     exact⟨b',by simpa using e1,e2⟩
theorem y8l:∀bs:List Bool,((List.range bs.length).any fun i=>(bs[i]?).getD false)=bs.any (fun b=>b)
 | []=>rfl
 | b::bs=>by
   rw[List.length_cons,List.range_succ_eq_map,List.any_cons,List.any_map,List.any_cons,<-y8l bs]
   rfl
theorem y8m(hc:X.calm=true):y0d X (.builtin "any") (fun xs H Q=>∃(a:Addr) (bs:List Bool),xs=[.ref a]/\SqL X.K H a (bs.map V.bl)/\Q (.bl (bs.any (fun b=>b))) H):=by
 intro pins s σ H xs us Q I r h
 obtain⟨a,bs,rfl,hq,q⟩:=h
 obtain⟨u,rfl,ru⟩:=y8t r
 cases ru
 obtain⟨its,rv,pl,_⟩:=I.list hq
 have hl:=pl.isList
 have hlt:a<s.heap.objs.size:=by obtain⟨_,e,_⟩:=hl;exact Heap.lt_size e
 have hlen:its.length=bs.length:=by rw[<-rv.length,List.length_map]
 refine call_any_walk (wpAny_pyIter_list hl ?_)
 refine⟨s.heap.objs.size,[s.heap.objs.size,a],[s.heap.objs.size],its.toArray.size,_,_,fun i=>(bs[i]?).getD false,rfl,Walks.list (A:=X.A.in1) (I.ok.hd hc) _ a (Nat.ne_of_lt hlt) its.toArray,
  ⟨⟨_,Heap.get?_push_size _ rfl,rfl,rfl⟩,hl.push _⟩,fun i v s' Q' E' hP hQ=>?_,fun h' tk hk=>?_⟩
 ·obtain⟨b,e,rfl⟩:=y4f rv (i:=i) (v:=v) (by simpa using hP)
  simp only[e,Option.getD_some] at hQ
  exact wpAny_truthy_bool hQ
 ·have e:((List.range its.toArray.size).any fun i=>(bs[i]?).getD false)=bs.any (fun b=>b):=by
   rw[List.size_toArray,hlen];exact y8l bs
  refine⟨.bl (bs.any (fun b=>b)),H,I.kept (fun b x ex=>hk b x (fun hm=>by rw[List.mem_singleton.mp hm] at ex;exact Nat.lt_irrefl _ (Heap.lt_size ex)) (Heap.get?_push_of_some _ ex)),by rw[e];rfl,q⟩
theorem w5z(hc:X.calm=true):y4g X (.builtin "any") dAny:=by
 refine⟨_,y8m (X:=X.nox) hc,fun H xs ds i hg=>?_⟩
 unfold dAny at hg
 split at hg
 ·rename_i ys
  obtain⟨v,rfl,h⟩:=z9s i
  obtain⟨a,zs,rfl,h1,h2⟩:=Is.lst_iff.mp h
  cases q:bools? ys with
  | none=>rw[q] at hg;exact absurd rfl hg
  | some ns =>
    have:=bools?_some q
    subst this
    rw[h2.bools_eq] at h1
    exact⟨a,ns,rfl,h1,.bl (ns.any (fun b=>b)),by show dAny [.lst (ns.map D.bl)]=_;simp only[dAny,q],.refl _,Is.bl_iff.mpr rfl⟩
 ·exact absurd rfl hg
end
noncomputable def CXE(P:Program)(w:World):CXT:=fun outer H s E x s'=>∃(e C T:Addr) (oe oT:Obj) (vs ts:Array Value) (H':Hp),x = .ref e/\s'.os=s.os/\AllBare s'.gens/\Un (frs outer) [] H H' s.heap s'.heap/\HOk P w H' s'.heap /\
 H' e=none/\s.heap.get? e=none/\s'.heap.get? e=some oe/\oe.cls = .ref C/\oe.data = .fields vs/\(∃a0,vs[0]? = some a0)/\vs[1]? = some (.ref T)/\H' T=none/\s.heap.get? T=none/\T≠e/\s'.heap.get? T=some oT/\oT.data = .fields ts/\ts[3]? = some .none/\E (.ref C) none H'
noncomputable def spD(K:PySem.W.Frag)(mg:Str->Option Value)(φ:List D->R D):Sp:=fun vs H Q E=>∃ds,IsAll K H ds vs/\φ ds ≠ .no/\(∀d v H',φ ds = .ok d->Same H H'->Is K H' d v->Q v H')/\(∀c C H',φ ds = .er c->mg c.nm=some (.ref C)->Same H H'->E (.ref C) none H')
noncomputable def spF(K:PySem.W.Frag)(mg:Str->Option Value)(φ:List D->R (List D)):Sp:=fun vs H Q E=>∃ds,IsAll K H ds vs/\φ ds ≠ .no/\(∀es a xs H',φ ds = .ok es->Same H H'->H a=none->H' a=some (.lst xs)->IsAll K H' es xs->Q (.ref a) H')/\(∀c C H',φ ds = .er c->mg c.nm=some (.ref C)->Same H H'->E (.ref C) none H')
structure FnD (P:Program) (w:World) (K:PySem.W.Frag) (mg:Str->Option Value) (base:Heap) (k:Nat) (f:Addr) (fd:FuncData) (ps:List Str) (φ:List D->R D):Prop where
 ok:FnOk P w K mg base (CXE P w) k f fd ps (spD K mg φ)
 binds:y4l K fd ps []
 kp:PySem.W.keepIn K (.ref f)=true
structure FnF (P:Program) (w:World) (K:PySem.W.Frag) (mg:Str->Option Value) (base:Heap) (k:Nat) (f:Addr) (fd:FuncData) (ps:List Str) (φ:List D->R (List D)):Prop where
 ok:FnOk P w K mg base (CXE P w) k f fd ps (spF K mg φ)
 binds:y4l K fd ps []
 kp:PySem.W.keepIn K (.ref f)=true
theorem FnD.mono{P:Program}{w:World}{K:PySem.W.Frag}{mg:Str->Option Value}{base:Heap}{j k:Nat}{f:Addr}{fd:FuncData}{ps:List Str}{φ:List D->R D}(F:FnD P w K mg base j f fd ps φ)(h:j<=k):FnD P w K mg base k f fd ps φ:=⟨F.ok.mono h,F.binds,F.kp⟩
section
variable {X:Cx}{e a b c:Expr}{g ga gb gc:G->R D}{pos p:Pos}{x:Str}{es:List Expr}{gs:G->R (List D)}
theorem _root_.L2.Inv.gone{pins:List (Addr×Obj)}{σ:St}{H:Hp}{s:Shared}{q:Addr}(I:Inv X pins σ H s)(hex:X.ex=[])(hq:s.heap.get? q=none):X.s₀.heap.get? q=none/\q≠X.env.locals/\(∀y k,X.env.cells.lookup y=some k->k≠q)/\(∀p∈X.pn++pins,p.1≠q):=by
 refine⟨?_,fun z=>?_,fun y k ek z=>?_,fun p hp z=>?_⟩
 ·cases e0:X.s₀.heap.get? q with
  | none=>rfl
  | some o =>
    obtain⟨o',e1⟩:=I.base.there q o e0 (by rw[hex];simp)
    rw[hq] at e1;cases e1
 ·obtain⟨m,⟨o,_,_,ho,_⟩,_⟩:=I.loc
  rw[<-z,hq] at ho;cases ho
 ·obtain⟨v,o,ho,_⟩:=I.cell y k ek
  rw[z,hq] at ho;cases ho
 ·have ho:=(I.pin p hp).1
  rw[z,hq] at ho;cases ho
theorem y1u{pins:List (Addr×Obj)}{σ:St}{H:Hp}{s s':Shared}{u:Value}{r:R D}{E:XK}(hex:X.ex=[]∨∀C H',¬E (.ref C) none H')(I:Inv X pins σ H s)(h:CXE X.prog X.w X.stack H s E u s')
 (hE:∀C H',E (.ref C) none H'->∃c,r = .er c/\X.mg c.nm=some (.ref C)/\Same H H'):z1p X pins σ H r u s':=by
 obtain⟨e,C,T,oe,oT,vs,ts,H',rfl,os,bare,un,hok,he0,he1,he2,he3,he4,he5,hv,hT0,hT1,hT2,hT3,hT4,hT5,hE'⟩:=h
 have hex:X.ex=[]:=hex.resolve_right fun z=>z C H' hE'
 obtain⟨c,er,hm,S⟩:=hE C H' hE'
 obtain⟨hh,gg,dd,tt,os'⟩:=s'
 obtain rfl:os'=s.os:=os
 have I':Inv X pins σ H' { s with heap:=hh,gens:=gg,drawn:=dd,toks:=tt }:=I.call (h':=hh) (g':=gg) (d':=dd) (t':=tt) (ch:=[]) un hok bare (fun b z=>absurd z (by simp))
 have fr:∀q:Addr,s.heap.get? q=none->X.s₀.heap.get? q=none/\q≠X.env.locals/\(∀y k,X.env.cells.lookup y=some k->k≠q)/\(∀p∈X.pn++pins,p.1≠q):=fun q hq=>I.gone hex hq
 obtain⟨f1,f2,f3,f4⟩:=fr e he1
 obtain⟨g1,g2,g3,g4⟩:=fr T hT1
 exact⟨c,H',er,S,I',e,C,oe,vs,rfl,hm,he0,f1,f2,f3,f4,he2,he3,he4,he5,.inr ⟨T,oT,ts,hv,hT0,g1,g2,g3,g4,hT2,hT3,hT4,.inl hT5⟩⟩
theorem runD{k:Nat}{f:Addr}{fd:FuncData}{ps:List Str}{φ:List D->R D}(Fn:FnD X.prog X.w X.K X.mg X.base k f fd ps φ)(hr:Room k X.A){pins:List (Addr×Obj)}{σ:St}{H:Hp}{s:Shared}{us:List Value}{vs:List V}{ds:List D}
 (I:Inv X pins σ H s) (r:Vals vs us) (i:IsAll X.K H ds vs) (hg:φ ds ≠ .no) (hx:X.ex=[]∨∀c,φ ds ≠ .er c):wpAny (model X.prog X.w) X.A (call (.ref f) us) (Post X pins σ H (φ ds)) (z1p X pins σ H (φ ds)) s:=by
 have hsp:spD X.K X.mg φ vs H (fun v H'=>∃d,φ ds = .ok d/\Same H H'/\Is X.K H' d v) (fun C' _ H'=>∃c C,C' = .ref C/\φ ds = .er c/\X.mg c.nm=some (.ref C)/\Same H H') :=
  ⟨ds,i,hg,fun d v H' e S iv=>⟨d,e,S,iv⟩,fun c C H' e hm S=>⟨c,C,rfl,e,hm,S⟩⟩
 have hl:us.length=ps.length:=by rw[<-r.length];exact Fn.ok.len _ _ _ _ hsp
 have hb:=Fn.binds s us I.kIn (by rw[List.append_nil];exact hl)
 rw[List.append_nil] at hb
 refine wpAny_call (codeAny_mono (Fn.ok.run X.A X.stack s H ⟨us,[]⟩ us vs _ _ hr I.env0 hb r hsp) fun r' s' hq=>?_)
 cases r' with
 | error u =>
   refine y1u (E:=fun C' _ H'=>∃c C,C' = .ref C/\φ ds = .er c/\X.mg c.nm=some (.ref C)/\Same H H') (hx.imp_right fun z C H' ⟨c,_,_,q,_⟩=>z c q) I hq fun C H' hE=>?_
   obtain⟨c,C',e,h1,h2,h3⟩:=hE
   cases e
   exact⟨c,h1,h2,h3⟩
 | ok fl =>
   cases fl with
   | ret u =>
     obtain⟨v,H',I',rv,d,e,S,iv⟩:=I.after hq
     exact⟨d,v,H',e,I',rv,S,iv⟩
   | next=>exact False.elim hq
   | brk=>exact False.elim hq
   | cont=>exact False.elim hq
theorem z0i{k:Nat}{f:Addr}{fd:FuncData}{ps:List Str}{φ:List D->R D}(Fn:FnD X.prog X.w X.K X.mg X.base k f fd ps φ)(hr:Room k X.A)(hm:X.mg x=some (.ref f))(ha:PAD X (e::es) gs)(hex:X.ex=[]:=by rfl)(hg:Gl X x:=by rfl)(hdb:(x==("__debug__":Str))=false:=by decide)
 (he:starEach (e::es) X.env=(false,eval e X.env)::starEach es X.env:=by rfl) (hpl:(backTo pos (starEach es X.env)).any (·.1)=false:=by rfl):PD X (.Call (.Name x p) (e::es) [] pos) (z0g φ gs):=by
 refine⟨fun pins s σ H F Γ I fo rl hgg=>?_⟩
 refine wpAny_Call_Name_kw (y1e I hg hm ?_ hdb)
 refine PySem.W.callWith_K (h₀:=X.base) I.ok.mod.kin Fn.kp (wpAny_mono (ha.run pos pins s σ H F Γ I fo rl (R.left hgg)) (fun us s1 ⟨ds,vs,H1,e1,I1,r1,S1,i1⟩=>⟨I1.kIn,?_⟩) fun _ _ x=>x.bind _) he hpl
 exact wpAny_mono (runD Fn hr I1 r1 i1 (R.next hgg e1) (.inl hex)) (fun _ _ q=>Post.bind e1 S1 q) fun _ _ q=>z1p.later e1 S1 q
theorem FnD.noEr{P:Program}{w:World}{K:PySem.W.Frag}{mg:Str->Option Value}{base:Heap}{k:Nat}{f:Addr}{fd:FuncData}{ps:List Str}{φ:List D->R D}(F:FnD P w K mg base k f fd ps φ):FnD P w K mg base k f fd ps (L3.noEr φ):=by
 refine⟨F.ok.imp fun vs H Q E h=>?_,F.binds,F.kp⟩
 obtain⟨ds,i,hne,hok,her⟩:=h
 obtain⟨d,e1,e2⟩:=x4x hne
 exact⟨ds,i,(by rw[e1];exact fun z=>nomatch z),fun d' v H' e S iv=>hok d' v H' (e2.trans (e1.symm.trans e)) S iv,fun c C H' e=>by rw[e1] at e;cases e⟩
theorem z9g{k:Nat}{f:Addr}{fd:FuncData}{ps:List Str}{φ:List D->R D}(Fn:FnD X.prog X.w X.K X.mg X.base k f fd ps φ)(hr:Room k X.A)(hm:X.mg x=some (.ref f))(ha:PAD X (e::es) gs)(hg:Gl X x:=by rfl)(hdb:(x==("__debug__":Str))=false:=by decide)
 (he:starEach (e::es) X.env=(false,eval e X.env)::starEach es X.env:=by rfl) (hpl:(backTo pos (starEach es X.env)).any (·.1)=false:=by rfl):PD X (.Call (.Name x p) (e::es) [] pos) (z0g (L3.noEr φ) gs):=by
 refine⟨fun pins s σ H F Γ I fo rl hgg=>?_⟩
 refine wpAny_Call_Name_kw (y1e I hg hm ?_ hdb)
 refine PySem.W.callWith_K (h₀:=X.base) I.ok.mod.kin Fn.kp (wpAny_mono (ha.run pos pins s σ H F Γ I fo rl (R.left hgg)) (fun us s1 ⟨ds,vs,H1,e1,I1,r1,S1,i1⟩=>⟨I1.kIn,?_⟩) fun _ _ x=>x.bind _) he hpl
 have hg1:=R.next hgg e1
 obtain⟨d,_,e3⟩:=x4x hg1
 exact wpAny_mono (runD Fn.noEr hr I1 r1 i1 hg1 (.inr fun c z=>by rw[e3] at z;cases z)) (fun _ _ q=>Post.bind e1 S1 q) fun _ _ q=>z1p.later e1 S1 q
theorem runF{k:Nat}{f:Addr}{fd:FuncData}{ps:List Str}{φ:List D->R (List D)}(Fn:FnF X.prog X.w X.K X.mg X.base k f fd ps φ)(hr:Room k X.A){pins:List (Addr×Obj)}{σ:St}{H:Hp}{s:Shared}{us:List Value}{vs:List V}{ds:List D}
 (I:Inv X pins σ H s) (r:Vals vs us) (i:IsAll X.K H ds vs) (hg:φ ds ≠ .no) (hx:X.ex=[]∨∀c,φ ds ≠ .er c):wpAny (model X.prog X.w) X.A (call (.ref f) us) (fun u s'=>∃es a xs H',φ ds = .ok es/\Inv X pins σ H' s'/\u = .ref a/\Same H H'/\H a=none/\H' a=some (.lst xs)/\IsAll X.K H' es xs) (z1p X pins σ H (φ ds)) s:=by
 have hsp:spF X.K X.mg φ vs H (fun v H'=>∃es a xs,v = .ref a/\φ ds = .ok es/\Same H H'/\H a=none/\H' a=some (.lst xs)/\IsAll X.K H' es xs) (fun C' _ H'=>∃c C,C' = .ref C/\φ ds = .er c/\X.mg c.nm=some (.ref C)/\Same H H') :=
  ⟨ds,i,hg,fun es a xs H' e S h1 h2 h3=>⟨es,a,xs,rfl,e,S,h1,h2,h3⟩,fun c C H' e hm S=>⟨c,C,rfl,e,hm,S⟩⟩
 have hl:us.length=ps.length:=by rw[<-r.length];exact Fn.ok.len _ _ _ _ hsp
 have hb:=Fn.binds s us I.kIn (by rw[List.append_nil];exact hl)
 rw[List.append_nil] at hb
 refine wpAny_call (codeAny_mono (Fn.ok.run X.A X.stack s H ⟨us,[]⟩ us vs _ _ hr I.env0 hb r hsp) fun r' s' hq=>?_)
 cases r' with
 | error u =>
   obtain⟨c,H',e1,S,fl⟩:=y1u (r:=φ ds>>=fun _=>.ok D.non) (E:=fun C' _ H'=>∃c C,C' = .ref C/\φ ds = .er c/\X.mg c.nm=some (.ref C)/\Same H H') (hx.imp_right fun z C H' ⟨c,_,_,q,_⟩=>z c q) I hq fun C H' hE=>by
    obtain⟨c,C',e,h1,h2,h3⟩:=hE
    cases e
    exact⟨c,R.stop h1 _,h2,h3⟩
   refine⟨c,H',?_,S,fl⟩
   cases q:φ ds with
   | no=>exact absurd q hg
   | ok _=>rw[q] at e1;cases e1
   | er c'=>rw[q] at e1;cases e1;rfl
 | ok fl =>
   cases fl with
   | ret u =>
     obtain⟨v,H',I',rv,es,a,xs,rfl,e,S,h1,h2,h3⟩:=I.after hq
     exact⟨es,a,xs,H',e,I',rv,S,h1,h2,h3⟩
   | next=>exact False.elim hq
   | brk=>exact False.elim hq
   | cont=>exact False.elim hq
theorem z6b{k:Nat}{f:Addr}{fd:FuncData}{ps:List Str}{φ:List D->R (List D)}(Fn:FnF X.prog X.w X.K X.mg X.base k f fd ps φ)(hr:Room k X.A)(hm:X.mg x=some (.ref f))(ha:PAD X (e::es) gs)(hex:X.ex=[]:=by rfl)(hg:Gl X x:=by rfl)(hdb:(x==("__debug__":Str))=false:=by decide)
 (he:starEach (e::es) X.env=(false,eval e X.env)::starEach es X.env:=by rfl) (hpl:(backTo pos (starEach es X.env)).any (·.1)=false:=by rfl):PF X (.Call (.Name x p) (e::es) [] pos) (z3e φ gs):=by
 refine⟨fun pins s σ H F Γ I fo rl hgg=>?_⟩
 refine wpAny_Call_Name_kw (y1e I hg hm ?_ hdb)
 refine PySem.W.callWith_K (h₀:=X.base) I.ok.mod.kin Fn.kp (wpAny_mono (ha.run pos pins s σ H F Γ I fo rl (R.left hgg)) (fun us s1 ⟨ds,vs,H1,e1,I1,r1,S1,i1⟩=>⟨I1.kIn,?_⟩) fun _ _ x=>x.bind _) he hpl
 have hg1:=R.next hgg e1
 refine wpAny_mono (runF Fn hr I1 r1 i1 (R.left hg1) (.inl hex)) (fun u s' ⟨es',a,xs,H',e2,I2,eu,S2,h1,h2,h3⟩=>?_) fun _ _ q=>z1p.later e1 S1 (q.bind _)
 have hgx:=R.next hg1 e2
 obtain⟨n,e3⟩:=R.guard_ne hgx
 exact⟨es',a,xs,H',(R.step e1 _).trans ((R.step e2 _).trans e3),I2,eu,S1.trans S2,S1.free h1,h2,IsAll.hid (((fo.same S1).same S2).cons h2) es' xs n h3⟩
theorem w2g{x:Str}(ha:PD X a ga)(hm:X.mg x=none)(hv:bootBuiltins x=some (.type "list"))(hg:Gl X x:=by rfl)(hn:x≠"__name__":=by decide)(hdb:(x==("__debug__":Str))=false:=by decide)
 (he:starEach [a] X.env=(false,eval a X.env)::starEach [] X.env:=by rfl) (hpl:(backTo pos (starEach [] X.env)).any (·.1)=false:=by rfl):PF X (.Call (.Name x p) [a] [] pos) (z7t ga):=by
 refine⟨fun pins s σ H F Γ I fo rl hgg=>?_⟩
 refine wpAny_Call_Name_kw (z4m I hg hm hv ?_ hn hdb)
 refine PyProof.Rows.callWith_type1 (wpAny_mono ((z0a ha z0d he).run pos pins s σ H F Γ I fo rl (fun z=>?_)) (fun us s1 ⟨ds,vs,H1,e1,I1,r1,S1,i1⟩=>?_) fun _ _ q=>?_) he hpl
 ·unfold gCons at z
  cases q:ga Γ with
  | no=>exact absurd (show z7t ga Γ = .no by unfold z7t;rw[q];rfl) hgg
  | ok d=>rw[q] at z;cases z
  | er c=>rw[q] at z;cases z
 ·have e0:∃d,ga Γ = .ok d/\ds=[d]:=by
   unfold gCons at e1
   cases q:ga Γ with
   | no=>rw[q] at e1;cases e1
   | ok d=>rw[q] at e1;cases e1;exact⟨d,rfl,rfl⟩
   | er c=>rw[q] at e1;cases e1
  obtain⟨d,ed,rfl⟩:=e0
  obtain⟨v,rfl,iv⟩:=z9s i1
  have hg1:=R.next hgg ed
  have fin:∀(p':Addr) (ys:List V) (es':List D),v = .ref p'->(SqL X.K H1 p' ys∨SqT X.K H1 p' ys)->IsAll X.K H1 es' ys->D.noLs es'=true->z7t ga Γ = .ok es' ->
   wpAny (model X.prog X.w) X.A (call (.type "list") us) (fun u s'=>∃ds a xs H',z7t ga Γ = .ok ds/\Inv X pins σ H' s'/\u = .ref a/\Same H H'/\H a=none/\H' a=some (.lst xs)/\IsAll X.K (hid (a::F) H') ds xs) (z1p X pins σ H (z7t ga Γ)) s1:=fun p' ys es' ev hq ie hn' eg=>by
   subst ev
   refine wpAny_mono (y8d (X:=X.nox) pins s1 σ H1 _ us (fun z H'=>∃l,z = .ref l/\H1 l=none/\H'=upd H1 l (.lst ys)) (I1.wish _) r1 ⟨p',ys,rfl,hq,fun l hl=>⟨l,rfl,hl,rfl⟩⟩) (fun u s' ⟨z,H',I',rz,l,ez,hl,eH⟩=>?_) fun _ _ z=>False.elim z
   subst ez eH
   have S2:=z1r hl (.lst ys)
   exact⟨es',l,ys,_,eg,I'.unwish,rz,S1.trans S2,S1.free hl,z0q,IsAll.hid (((fo.same S1).same S2).cons z0q) es' ys hn' (ie.same S2)⟩
  cases d with
  | tup es' =>
    obtain⟨n,e2⟩:=R.guard_ne (show R.guard (D.noLs es'=true) (.ok es') ≠ .no from hg1)
    obtain⟨p',ys,ev,h1,h2⟩:=Is.tup_iff.mp iv
    exact fin p' ys es' ev (.inr h1) h2 n ((R.step ed _).trans e2)
  | lst es' =>
    obtain⟨n,e2⟩:=R.guard_ne (show R.guard (D.noLs es'=true) (.ok es') ≠ .no from hg1)
    obtain⟨p',ys,ev,h1,h2⟩:=Is.lst_iff.mp iv
    exact fin p' ys es' ev (.inl h1) h2 n ((R.step ed _).trans e2)
  | _=>exact absurd rfl hg1
 ·obtain⟨c',H',e1,S,fl⟩:=q
  refine⟨c',H',?_,S,fl⟩
  unfold gCons at e1
  cases q:ga Γ with
  | no=>rw[q] at e1;cases e1
  | ok d=>rw[q] at e1;cases e1
  | er c=>rw[q] at e1;cases e1;unfold z7t;rw[q];rfl
end
noncomputable def JD(K:PySem.W.Frag)(H:Hp)(F:List Addr)(J:It)(ds:List D):Prop:=∀H1,(∀b o,b ∉ F->H b=some o->H1 b=some o) ->
 (∀i:Nat,i<ds.length->J.go i H1/\∀x H2,J.yld i H1 x H2->H2=H1/\∃d,ds[i]? = some d/\∀F',(∀b,b∈F'->b∈F∨H b=none)->Is K (hid F' H1) d x)/\J.stop ds.length H1
noncomputable def JC(K:PySem.W.Frag)(H:Hp)(F:List Addr)(J:It)(ds:List D):Prop:=∀H1,Same H H1 ->
 (∀i:Nat,i<ds.length->J.go i H1/\∀x H2,J.yld i H1 x H2->H2=H1/\∃d,ds[i]? = some d/\Is K (hid F H1) d x)/\J.stop ds.length H1
theorem JD.jc{K:PySem.W.Frag}{H:Hp}{F:List Addr}{J:It}{ds:List D}(h:JD K H F J ds):JC K H F J ds:=fun H1 S=>by
 obtain⟨h1,h2⟩:=h H1 fun b o _ q=>S b o q
 refine⟨fun i hi=>⟨(h1 i hi).1,fun x H2 y=>?_⟩,h2⟩
 obtain⟨e,d,ed,iv⟩:=(h1 i hi).2 x H2 y
 exact⟨e,d,ed,iv F fun b hb=>.inl hb⟩
structure PIx (Jx:PySem.W.Frag->Hp->List Addr->It->List D->Prop) (X:Cx) (tg iter:Expr) (g:G->R (List D)):Prop where
 run:∀(pins:List (Addr×Obj)) (s:Shared) (σ:St) (H:Hp) (F:List Addr) (Γ:G),Inv X pins σ H s->FOk H F->Rel X.K H F Γ σ->g Γ ≠ .no ->
  wpAny (model X.prog X.w) X.A (eval iter X.env) (fun v s1=>wpAny (model X.prog X.w) X.A (pyIter v) (fun itv s2=>∃(ds:List D) (it:Addr) (fp:List Addr) (tn:Nat->Heap->Prop) (J:It) (H':Hp),g Γ = .ok ds/\itv = .ref it/\Inv X pins σ H' s2/\Same H H' /\
   Turn X.prog X.w X.K tg J fp it tn/\tn 0 s2.heap/\(∀b∈fp,FpOk X pins H' b)/\Jx X.K H' F J ds) (z1p X pins σ H (g Γ)) s1) (z1p X pins σ H (g Γ)) s
noncomputable abbrev PIF:=PIx JD
noncomputable abbrev PIC:=PIx JC
theorem PIx.pic{X:Cx}{tg iter:Expr}{g:G->R (List D)}(h:PIF X tg iter g):PIC X tg iter g:=⟨fun pins s σ H F Γ I fo rl hg =>
 thn (h.run pins s σ H F Γ I fo rl hg) fun v s1 h1=>thn h1 fun itv s2 ⟨ds,it,fp,tn,J,H',e,ei,I',S,T,t0,fk,j⟩=>⟨ds,it,fp,tn,J,H',e,ei,I',S,T,t0,fk,j.jc⟩⟩
section
variable {X:Cx}{tg a b:Expr}{ga gb:G->R D}
theorem w3e{K:PySem.W.Frag}{H:Hp}{F:List Addr}{p:Addr}{xs:List V}{ds:List D}(h:SqL K H p xs)(i:IsAll K (hid F H) ds xs):JC K H F (Itl K p) ds:=fun H1 S=>by
 have h1:=S.seq h
 have il:=i.length
 refine⟨fun j hj=>⟨⟨xs,xs[j]'(by lia),h1,List.getElem?_eq_getElem (by lia)⟩,fun x H2 y=>⟨y.1,?_⟩⟩,⟨xs,h1,by lia⟩⟩
 exact(i.same (z2h S)).getX (y.2 xs h1)
theorem x2m{H H1:Hp}{F F':List Addr}(S:∀b o,b ∉ F->H b=some o->H1 b=some o)(o:∀b,b∈F'->b∈F∨H b=none):Same (hid F H) (hid F' H1):=Ext.hid ⟨S,o⟩
theorem w0u{K:PySem.W.Frag}{H:Hp}{F:List Addr}{p:Addr}{xs:List V}{ds:List D}(h:SqT K (hid F H) p xs)(i:IsAll K (hid F H) ds xs):JD K H F (Itt K p) ds:=fun H1 S=>by
 have h1:SqT K H1 p xs:=z3t (z2j (F:=F)) (z3t (x2m S fun b hb=>.inl hb) h)
 have il:=i.length
 refine⟨fun j hj=>⟨⟨xs,xs[j]'(by lia),h1,List.getElem?_eq_getElem (by lia)⟩,fun x H2 y=>⟨y.1,?_⟩⟩,⟨xs,h1,by lia⟩⟩
 obtain⟨d,ed,iv⟩:=i.getX (y.2 xs h1)
 exact⟨d,ed,fun F' hF=>iv.same (x2m S hF)⟩
theorem w3c{K:PySem.W.Frag}{H:Hp}{F:List Addr}{p:Addr}{xs:List V}{ds:List D}(h:SqL K (hid F H) p xs)(i:IsAll K (hid F H) ds xs):JD K H F (Itl K p) ds:=fun H1 S=>by
 have h1:SqL K H1 p xs:=(z2j (F:=F)).seq ((x2m S fun b hb=>.inl hb).seq h)
 have il:=i.length
 refine⟨fun j hj=>⟨⟨xs,xs[j]'(by lia),h1,List.getElem?_eq_getElem (by lia)⟩,fun x H2 y=>⟨y.1,?_⟩⟩,⟨xs,h1,by lia⟩⟩
 obtain⟨d,ed,iv⟩:=i.getX (y.2 xs h1)
 exact⟨d,ed,fun F' hF=>iv.same (x2m S hF)⟩
theorem y9k{pins:List (Addr×Obj)}{σ:St}{H:Hp}{s:Shared}{p:Addr}{xs:List V}{E:Value->Shared->Prop}{Q:Value->Shared->Prop}(I:Inv X pins σ H s)(h:SqL X.K H p xs)
 (q:∀it s2,Inv X pins σ H s2->Turn X.prog X.w X.K tg (Itl X.K p) [it] it (fun i h=>h.IsListIter it p i)->s2.heap.IsListIter it p 0->(∀b∈[it],FpOk X pins H b)->Q (.ref it) s2):wpAny (model X.prog X.w) X.A (pyIter (.ref p)) Q E s:=by
 obtain⟨its,rv,pl,hz⟩:=I.list h
 refine wpAny_pyIter_list pl.isList (q s.heap.objs.size _ (I.kept (t':=s.toks) fun b o e=>Heap.get?_push_of_some _ e) (x3k p _) ⟨_,Heap.get?_push_size _ rfl,rfl,rfl⟩ fun b hb=>?_)
 have e:b=s.heap.objs.size:=by simpa using hb
 subst e
 exact I.fpOk (Nat.le_refl _) (I.hok.fresh (Nat.le_refl _))
theorem w0v{pins:List (Addr×Obj)}{σ:St}{H:Hp}{s:Shared}{p:Addr}{xs:List V}{E:Value->Shared->Prop}{Q:Value->Shared->Prop}(I:Inv X pins σ H s)(h:SqT X.K H p xs)
 (q:∀it s2,Inv X pins σ H s2->Turn X.prog X.w X.K tg (Itt X.K p) [it] it (fun i h=>h.IsTupleIter it p i)->s2.heap.IsTupleIter it p 0->(∀b∈[it],FpOk X pins H b)->Q (.ref it) s2):wpAny (model X.prog X.w) X.A (pyIter (.ref p)) Q E s:=by
 obtain⟨its,rv,pl,hz⟩:=I.tuple h
 refine wpAny_pyIter_tuple (show s.heap.IsTuple p its.toArray from pl) (q s.heap.objs.size _ (I.kept (t':=s.toks) fun b o e=>Heap.get?_push_of_some _ e) (x1k p _) ⟨_,Heap.get?_push_size _ rfl,rfl,rfl⟩ fun b hb=>?_)
 have e:b=s.heap.objs.size:=by simpa using hb
 subst e
 exact I.fpOk (Nat.le_refl _) (I.hok.fresh (Nat.le_refl _))
theorem z8f(ha:PDr X a ga):PIF X tg a (gSeq ga):=by
 refine⟨fun pins s σ H F Γ I fo rl hg=>?_⟩
 refine wpAny_mono (ha.run pins s σ H F Γ I fo rl (R.left hg)) (fun v s1 ⟨d,x,H1,e1,I1,r1,S1,i1⟩=>?_) fun _ _ x=>x.bind _
 have hg1:=R.next hg e1
 cases d with
 | tup ds =>
   obtain⟨p,xs,rfl,h1,h2⟩:=Is.tup_iff.mp i1
   cases (show v=Value.ref p from r1)
   exact w0v (tg:=tg) I1 (z3t (z2j (F:=F)) h1) fun it s2 I2 T t0 fk=>⟨ds,it,_,_,_,H1,R.step e1 _,rfl,I2,S1,T,t0,fk,w0u h1 h2⟩
 | lst ds =>
   obtain⟨p,xs,rfl,h1,h2⟩:=Is.lst_iff.mp i1
   cases (show v=Value.ref p from r1)
   exact y9k (tg:=tg) I1 ((z2j (F:=F)).seq h1) fun it s2 I2 T t0 fk=>⟨ds,it,_,_,_,H1,R.step e1 _,rfl,I2,S1,T,t0,fk,w3c h1 h2⟩
 | _=>exact absurd rfl hg1
theorem y2u(ha:PD X a ga):PIC X tg a (z5i ga):=by
 refine⟨fun pins s σ H F Γ I fo rl hg=>?_⟩
 refine wpAny_mono (ha.run pins s σ H F Γ I fo rl (R.left hg)) (fun v s1 ⟨d,x,H1,e1,I1,r1,S1,i1⟩=>?_) fun _ _ x=>x.bind _
 have hg1:=R.next hg e1
 cases d with
 | tup ds =>
   obtain⟨n,e2⟩:=R.guard_ne (show R.guard (D.noLs ds=true) (.ok ds) ≠ .no from hg1)
   obtain⟨p,xs,rfl,h1,h2⟩:=Is.tup_iff.mp i1
   cases (show v=Value.ref p from r1)
   exact w0v (tg:=tg) I1 h1 fun it s2 I2 T t0 fk=>⟨ds,it,_,_,_,H1,(R.step e1 _).trans e2,rfl,I2,S1,T,t0,fk,(w0u (x3v (fo.same S1) h1) (IsAll.hid (fo.same S1) ds xs n h2)).jc⟩
 | lst ds =>
   obtain⟨n,e2⟩:=R.guard_ne (show R.guard (D.noLs ds=true) (.ok ds) ≠ .no from hg1)
   obtain⟨p,xs,rfl,h1,h2⟩:=Is.lst_iff.mp i1
   cases (show v=Value.ref p from r1)
   exact y9k (tg:=tg) I1 h1 fun it s2 I2 T t0 fk=>⟨ds,it,_,_,_,H1,(R.step e1 _).trans e2,rfl,I2,S1,T,t0,fk,w3e h1 (IsAll.hid (fo.same S1) ds xs n h2)⟩
 | _=>exact absurd rfl hg1
theorem x0w{K:PySem.W.Frag}{H:Hp}{F:List Addr}(lo:Int)(n:Nat):JD K H F (Itr lo n) (z3r lo n):=fun H1 S=>by
 rw[z0j]
 refine⟨fun j hj=>⟨hj,fun x H2 y=>⟨y.1,.int (lo+(j:Int)),y0z lo n j hj,fun F' _=>?_⟩⟩,Nat.le_refl _⟩
 exact Is.int_iff.mpr y.2
theorem z2w{p pos:Pos}(ha:PD X a ga)(hm:X.mg "range"=none)(hg:Gl X "range":=by rfl)(hs:starEach [a] X.env=[(false,eval a X.env)]:=by rfl):PIF X tg (.Call (.Name "range" p) [a] [] pos) (z5v ga):=by
 refine⟨fun pins s σ H F Γ I fo rl hgg=>?_⟩
 refine Call_ (z4m I hg hm boot_range (PyProof.Rows.callWith_type1 ?_ hs rfl))
 rw[hs]
 show wpAny _ _ (spliced ((false,eval a X.env)::backTo pos [])) _ _ s
 refine Calls.spliced_cons (wpAny_mono (ha.run pins s σ H F Γ I fo rl (R.left hgg)) (fun u s1 ⟨d,v,H1,e1,I1,r1,S1,i1⟩=>Calls.spliced_nil ?_) fun _ _ x=>x.bind _)
 have hg1:=R.next hgg e1
 cases d with
 | int j =>
   obtain⟨⟨h1,h2⟩,e2⟩:=R.guard_ne (show R.guard (-(2^62)<=j/\j<2^62) (.ok (z3r 0 j.toNat)) ≠ .no from hg1)
   rw[Is.int_iff.mp i1] at r1
   obtain⟨t,rfl⟩:=(show ∃t,u=Value.int j t from r1)
   refine call_range_1 (thn (x0f (tg:=tg) (R:=fun J H'=>J=Itr 0 (j-0).toNat/\H'=H1) I1 (by lia) (by lia) h1 h2 ⟨rfl,rfl⟩) fun itv s2 ⟨it,fp,tn,J,H',ei,I2,T,t0,fk,eJ,eH⟩=>?_)
   subst eJ eH
   rw[Int.sub_zero] at T
   exact⟨_,it,fp,tn,_,H',(R.step e1 _).trans e2,ei,I2,S1,T,t0,fk,x0w 0 j.toNat⟩
 | _=>exact absurd rfl hg1
theorem x2e{p pos:Pos}(ha:PD X a ga)(hb:PD X b gb)(hm:X.mg "range"=none)(hg:Gl X "range":=by rfl)(hs:starEach [a,b] X.env=[(false,eval a X.env),(false,eval b X.env)]:=by rfl)(hs2:starEach [b] X.env=[(false,eval b X.env)]:=by rfl) :
 PIF X tg (.Call (.Name "range" p) [a,b] [] pos) (z9z ga gb):=by
 refine⟨fun pins s σ H F Γ I fo rl hgg=>?_⟩
 refine Call_ (z4m I hg hm boot_range (PyProof.Rows.callWith_type1 ?_ (by rw[hs,hs2]) (by rw[hs2];rfl)))
 rw[hs]
 show wpAny _ _ (spliced ((false,eval a X.env)::backTo pos [(false,eval b X.env)])) _ _ s
 refine Calls.spliced_cons (wpAny_mono (ha.run pins s σ H F Γ I fo rl (R.left hgg)) (fun u s1 ⟨d,v,H1,e1,I1,r1,S1,i1⟩=>?_) fun _ _ x=>x.bind _)
 have hg1:=R.next hgg e1
 show wpAny _ _ (spliced ((false,eval b X.env)::backTo pos [])) _ _ s1
 refine Calls.spliced_cons (wpAny_mono (hb.run pins s1 σ H1 F Γ I1 (fo.same S1) (rl.same S1) (R.left hg1)) (fun u2 s2 ⟨d2,v2,H2,e2,I2,r2,S2,i2⟩=>Calls.spliced_nil ?_) fun _ _ x=>z1p.later e1 S1 (x.bind _))
 have hg2:=R.next hg1 e2
 cases d with
 | int i =>
   cases d2 with
   | int j =>
     obtain⟨⟨⟨h1,h2⟩,h3,h4⟩,e3⟩:=R.guard_ne (show R.guard ((-(2^62)<=i/\i<2^62) /\ -(2^62)<=j/\j<2^62) (.ok (z3r i (j-i).toNat)) ≠ .no from hg2)
     rw[Is.int_iff.mp i1] at r1
     rw[Is.int_iff.mp i2] at r2
     obtain⟨t,rfl⟩:=(show ∃t,u=Value.int i t from r1)
     obtain⟨t',rfl⟩:=(show ∃t,u2=Value.int j t from r2)
     refine call_range_2 (thn (x0f (tg:=tg) (R:=fun J H'=>J=Itr i (j-i).toNat/\H'=H2) I2 h1 h2 h3 h4 ⟨rfl,rfl⟩) fun itv s3 ⟨it,fp,tn,J,H',ei,I3,T,t0,fk,eJ,eH⟩=>?_)
     subst eJ eH
     exact⟨_,it,fp,tn,_,H',(R.step e1 _).trans ((R.step e2 _).trans e3),ei,I3,S1.trans S2,T,t0,fk,x0w i (j-i).toNat⟩
   | _=>exact absurd rfl hg2
 | _=>exact absurd rfl hg2
end
theorem x8u{k:NameKind}(h:(k==NameKind.free)=true):k = .free:=by cases k<;>first | rfl | (exact absurd h (by decide))
noncomputable def capt(env:Env):List (Str×NameKind)->List (Str×Addr)->List (Str×Addr)
 | [],cs=>cs
 | (n,k)::r,cs=>if (k == .free)=true then (match env.cells.lookup n with | some a=>capt env r ((n,a)::cs) | none=>capt env r cs) else capt env r cs
theorem z4s{env:Env}{x:Str}{c:Addr}:∀(names:List (Str×NameKind)) (cs:List (Str×Addr)),(x,c)∈capt env names cs->(x,c)∈cs∨env.cells.lookup x=some c
 | [],cs,h=>.inl h
 | (n,k)::r,cs,h=>by
   unfold capt at h
   split at h
   ·split at h
    ·rename_i a e
     rcases z4s r _ h with q | q
     ·rcases List.mem_cons.mp q with z | z
      ·cases z;exact .inr e
      ·exact .inl z
     ·exact .inr q
    ·exact z4s r _ h
   ·exact z4s r _ h
theorem y2n{env:Env}{p:Str×Addr}:∀(names:List (Str×NameKind)) (cs:List (Str×Addr)),p∈cs->p∈capt env names cs
 | [],cs,h=>h
 | (n,k)::r,cs,h=>by
   unfold capt
   split
   ·split
    ·exact y2n r _ (List.mem_cons_of_mem _ h)
    ·exact y2n r _ h
   ·exact y2n r _ h
theorem z7v{env:Env}{x:Str}{c:Addr}(e:env.cells.lookup x=some c):∀(names:List (Str×NameKind)) (cs:List (Str×Addr)),(x,NameKind.free)∈names->(x,c)∈capt env names cs
 | [],cs,h=>by simp at h
 | (n,k)::r,cs,h=>by
   unfold capt
   rcases List.mem_cons.mp h with z | z
   ·cases z
    rw[if_pos (show(NameKind.free==NameKind.free)=true by decide),e]
    exact y2n r _ List.mem_cons_self
   ·split
    ·split
     ·exact z7v e r _ z
     ·exact z7v e r _ z
    ·exact z7v e r _ z
theorem z2t{α:Type}:∀{l:List (Str×α)} {x:Str} {c:α},(x,c)∈l->∃c',l.lookup x=some c'/\(x,c')∈l
 | [],_,_,h=>by simp at h
 | (n,a)::r,x,c,h=>by
   by_cases e:x=n
   ·subst e;exact⟨a,by simp[List.lookup],List.mem_cons_self⟩
   ·rcases List.mem_cons.mp h with z | z
    ·cases z;exact absurd rfl e
    ·obtain⟨c',h1,h2⟩:=z2t z
     exact⟨c',by rw[List.lookup_cons,beq_eq_false_iff_ne.mpr e];exact h1,List.mem_cons_of_mem _ h2⟩
noncomputable def y1m(N:List Str)(env:Env)(y:Str)(scope:Scope):Bool :=
 decide (scope.kind = .function)&&scope.names.all (fun p=>decide (p.2 ≠ .cell)&&(decide (p.2 ≠ .local)||decide (scope.names.lookup p.1=some .local))&&(decide (p.2 ≠ .free)||((env.cells.lookup p.1).isSome&&(decide (env.scope.names.lookup p.1=some .cell)||decide (env.scope.names.lookup p.1=some .free)))))
  && decide (scope.names.lookup y=some .local)&&decide (scope.names.lookup (("":Str))=none)&&N.all (fun z=>decide (scope.names.lookup z≠some .local)||decide (z=y))&&N.all (fun z=>decide (z≠("":Str)))
structure CompOk (N:List Str) (env:Env) (y:Str) (scope:Scope):Prop where
 kind:scope.kind = .function
 nocell:∀p∈scope.names,p.2 ≠ .cell
 names:∀p∈scope.names,p.2 = .local->scope.names.lookup p.1=some .local
 free:∀p∈scope.names,p.2 = .free->(∃c,env.cells.lookup p.1=some c)/\(env.scope.names.lookup p.1=some .cell∨env.scope.names.lookup p.1=some .free)
 loc:scope.names.lookup y=some .local
 nil:scope.names.lookup (("":Str))=none
 only:∀z∈N,scope.names.lookup z=some .local->z=y
 none:∀z∈N,z≠("":Str)
theorem y4b{N:List Str}{env:Env}{y:Str}{scope:Scope}(h:y1m N env y scope=true):CompOk N env y scope:=by
 unfold y1m at h
 simp only[Bool.and_eq_true,List.all_eq_true,Bool.or_eq_true,decide_eq_true_eq] at h
 obtain⟨⟨⟨⟨⟨h1,h2⟩,h3⟩,h4⟩,h5⟩,h6⟩:=h
 refine⟨h1,fun p hp=>(h2 p hp).1.1,fun p hp e=>((h2 p hp).1.2).resolve_left fun z=>z e,fun p hp e=>?_,h3,h4,fun z hz e=>(h5 z hz).resolve_left fun q=>q e,h6⟩
 have q:=((h2 p hp).2).resolve_left fun z=>z e
 exact⟨Option.isSome_iff_exists.mp q.1,q.2⟩
noncomputable def z1l(X:Cx)(y:Str)(scope:Scope)(C:Addr)(s₂:Shared)(H₂:Hp)(fp:List Addr)(pn:List (Addr×Obj)):Cx :=
 { X with N:=y::X.N.map (fun z=>if z=y then ("":Str) else z),s₀:=s₂,H₀:=H₂,env:=compEnvC scope (capt X.env scope.names []) C X.env,outer:=X.stack,ex:=fp,fn:=fun _=>false,pn:=pn,xe:=fun _ _=>False }
theorem pure_M{α β:Type}{M:Model}{A:Around}{E E':Value->Shared->Prop}{s:Shared}{a:α}{t:Sem β}{P:α->Shared->Prop}{Q:β->Shared->Prop}(h:wpAny M A (pure a) P E s)(k:P a s->wpAny M A t Q E' s):wpAny M A t Q E' s:=fun Γ p hΓ=>k (h Γ p hΓ) Γ p hΓ
theorem x0x{P:Program}{w:World}{H:Hp}{h:Heap}{a:Addr}{o:HO}(x:HOk P w H h)(hn:H a=none)(new:z7k P w (upd H a o) h a o):HOk P w (upd H a o) h:=fun b u e=>by
 by_cases hb:b=a
 ·subst hb;rw[z0q] at e;cases e;exact new
 ·rw[z0u hb] at e
  exact(x b u e).stay (fun c v _ q=>q) (fun c q=>by rw[z0u (z0z q hn)];exact q) fun c xs q=>by rw[z0u (z0z q hn)];exact q
theorem x6s{X:Cx}{y:Str}{scope:Scope}{C Dd:Addr}{fp:List Addr}{pins pl:List (Addr×Obj)}{σ σ':St}{H₂ H':Hp}{s₂ s1:Shared}{xs:List V}{its:List Value}{n:Nat}(I:Inv X pins σ H₂ s₂)
 (J:Inv (z1l X y scope C s₂ H₂ fp (X.pn++pins)) pl σ' H' s1) (hD:s₂.heap.objs.size<=Dd) (hn:H' Dd=none) (hd:s1.heap.get? Dd=some { cls:=.type "list",data:=.seq its.toArray n }) (rv:Vals xs its) (hz:xs.length<=sizeLine) (hf:∀b∈fp,FpOk X pins H₂ b) :
 Inv X pins σ (upd H' Dd (.lst xs)) s1:=by
 have os:s1.os=s₂.os:=J.os
 have un:Un (frs X.stack) fp H₂ H' s₂.heap s1.heap:=J.base
 have hok:HOk X.prog X.w H' s1.heap:=J.hok
 have bare:AllBare s1.gens:=J.bare
 clear J
 obtain⟨hh,gg,dd,tt,os'⟩:=s1
 obtain rfl:os'=s₂.os:=os
 have neD:∀b o,s₂.heap.get? b=some o->b≠Dd:=fun b o e=>Nat.ne_of_lt (Nat.lt_of_lt_of_le (Heap.lt_size e) hD)
 refine I.call (h':=hh) (g':=gg) (d':=dd) (t':=tt) (ch:=fp) ⟨un.keep,un.slot,fun b o e n' hx=>?_,un.there,fun b ys e=>?_,fun b o u e=>?_,fun b ps e=>?_⟩ (x0x hok hn ⟨hz,its,n,rv,hd⟩) bare fun b hb=>?_
 ·rw[z0u (neD b o e)];exact un.free b o e n' hx
 ·have q:=un.tups b ys e
  rw[z0u (z0z q hn)];exact q
 ·have q:=un.frzs b o u e
  rw[z0u (z0z q hn)];exact q
 ·obtain⟨more,q⟩:=un.tbls b ps e
  exact⟨more,by rw[z0u (z0z q hn)];exact q⟩
 ·obtain⟨f0,f1,f2,f3,f4,f5⟩:=hf b hb
  exact⟨f3.imp_right fun z=>Heap.get?_none_of_le z,f1,f4,f5⟩
theorem w3s{X:Cx}{y:Str}{scope:Scope}{C:Addr}{fp:List Addr}{pins:List (Addr×Obj)}{σ:St}{H₂:Hp}{s₂:Shared}(I:Inv X pins σ H₂ s₂)(c:CompOk X.N X.env y scope)(hC:s₂.heap.objs.size<=C)(hf:∀b∈fp,FpOk X pins H₂ b)(ho:∀b∈fp,b<s₂.heap.objs.size) :
 (z1l X y scope C s₂ H₂ fp (X.pn++pins)).Ok:=by
 have cells:∀x k,(capt X.env scope.names []).lookup x=some k->X.env.cells.lookup x=some k:=fun x k e=>by
  rcases z4s scope.names [] (PySem.mem_of_lookup e) with q | q
  ·simp at q
  ·exact q
 refine⟨I.ok.mod,c.kind,I.ok.glob,I.ok.blt,hC,fun x z k h1 h2=>I.ok.inj x z k (cells x k h1) (cells z k h2),fun x hx=>?_,fun x k h _=>absurd h (by simp[z1l]),I.ok.hd,I.ok.frames,.inl rfl,fun b hb=>?_,I.bs,Nat.le_trans I.ok.bsz I.sz,fun b o e hb=>?_,fun b hb z=>?_,I.stack,I.stkFree⟩
 ·have hx':(relabel scope X.env).names.lookup x=some .cell∨(relabel scope X.env).names.lookup x=some .free:=hx
  have hm:∃k,(x,k)∈scope.names/\(k = .free∨k = .cell):=by
   rcases hx' with q | q <;>
   ·have m:=PySem.mem_of_lookup q
    unfold relabel at m
    simp only[List.mem_map] at m
    obtain⟨⟨n,k⟩,hm,e⟩:=m
    by_cases hc:(k==NameKind.free&&X.env.scope.kind == .function&&X.env.kindOf n==some .cell)=true
    ·rw[if_pos hc] at e
     have e1:n=x:=congrArg Prod.fst e
     subst e1
     rw[Bool.and_eq_true,Bool.and_eq_true] at hc
     exact⟨k,hm,.inl (x8u hc.1.1)⟩
    ·rw[if_neg hc] at e
     have e1:n=x:=congrArg Prod.fst e
     have e2:=congrArg Prod.snd e
     dsimp only at e2
     subst e1 e2
     exact⟨_,hm,by first | exact .inr rfl | exact .inl rfl⟩
  obtain⟨k,hm,hk⟩:=hm
  rcases hk with rfl | rfl
  ·obtain⟨⟨a,ea⟩,_⟩:=c.free _ hm rfl
   obtain⟨c',h1,_⟩:=z2t (z7v ea scope.names [] hm)
   exact⟨c',h1⟩
  ·exact absurd rfl (c.nocell _ hm)
 ·refine⟨Nat.ne_of_lt (Nat.lt_of_lt_of_le (ho b hb) hC),fun x k e=>(hf b hb).2.2.2.2.1 x k (cells x k e)⟩
 ·rcases(hf b hb).2.2.2.1 with z | z
  ·exact I.ok.noex b o e z
  ·exact absurd (Nat.lt_of_lt_of_le (Nat.lt_of_lt_of_le (Heap.lt_size e) I.ok.bsz) z) (Nat.lt_irrefl _)
 ·rcases List.mem_cons.mp (I.stkSub b z) with q | q
  ·exact(hf b hb).2.1 q
  ·exact(hf b hb).2.2.1 q
section
variable {X:Cx}{y:Str}{scope:Scope}
theorem x2v{C Dd:Addr}{fp:List Addr}{pins:List (Addr×Obj)}{σ:St}{H₂:Hp}{s₂:Shared}{h₁:Heap}{tk:Nat}{oD:Obj}{m:Str->Option Value}(I:Inv X pins σ H₂ s₂)(c:CompOk X.N X.env y scope)(hC:s₂.heap.objs.size<=C)(hD:s₂.heap.objs.size<=Dd)(hDC:Dd≠C)(hf:∀b∈fp,FpOk X pins H₂ b)(ho:∀b∈fp,b<s₂.heap.objs.size)
 (old:∀b o,s₂.heap.get? b=some o->h₁.get? b=some o) (hns:h₁.Ns C m) (hd:h₁.get? Dd=some oD) (hdd:∀v,oD.data ≠ .cell v) :
 Inv (z1l X y scope C s₂ H₂ fp (X.pn++pins)) [(Dd,oD)] (none::σ) H₂ { s₂ with heap:=h₁,toks:=tk }:=by
 have cells:∀x k,(capt X.env scope.names []).lookup x=some k->X.env.cells.lookup x=some k:=fun x k e=>by
  rcases z4s scope.names [] (PySem.mem_of_lookup e) with q | q
  ·simp at q
  ·exact q
 have nstk:∀b,s₂.heap.objs.size<=b->b ∉ frs X.stack:=fun b hb z=>by
  rcases List.mem_cons.mp (I.stkSub b z) with q | q
  ·exact absurd (Nat.lt_of_lt_of_le I.lt (by rw[<-q];exact hb)) (Nat.lt_irrefl _)
  ·exact I.nofs hb q
 refine⟨w3s I c hC hf ho,rfl,I.bare,Un.kept old,⟨m,hns,fun i x v e1 e2 e3=>?_⟩,fun x k e=>?_,I.hok.fresh hC,fun x k e=>I.freeC x k (cells x k e),fun p hp=>?_,I.hok.kept old,?_⟩
 ·cases i with
  | zero=>simp at e2
  | succ i =>
    have e2':σ[i]? = some (some v):=by simpa using e2
    have e1':(X.N.map (fun z=>if z=y then ("":Str) else z))[i]? = some x:=by simpa [z1l] using e1
    rw[List.getElem?_map] at e1'
    cases hz:X.N[i]? with
    | none=>rw[hz] at e1';cases e1'
    | some z =>
      rw[hz] at e1'
      simp only[Option.map_some,Option.some.injEq] at e1'
      have e3':Vis (relabel scope X.env) x:=e3
      have look0:∀{k:NameKind},(relabel scope X.env).names.lookup x=some k->∃k',(x,k')∈scope.names/\(k'=k∨(k' = .free/\k = .cell)):=fun {k} q=>by
       have m':=PySem.mem_of_lookup q
       unfold relabel at m'
       simp only[List.mem_map] at m'
       obtain⟨⟨n,k0⟩,hm,e⟩:=m'
       by_cases hc:(k0==NameKind.free&&X.env.scope.kind == .function&&X.env.kindOf n==some .cell)=true
       ·rw[if_pos hc] at e
        have e1:n=x:=congrArg Prod.fst e
        have e2:=congrArg Prod.snd e
        dsimp only at e2
        subst e1 e2
        rw[Bool.and_eq_true,Bool.and_eq_true] at hc
        exact⟨k0,hm,.inr ⟨x8u hc.1.1,rfl⟩⟩
       ·rw[if_neg hc] at e
        have e1:n=x:=congrArg Prod.fst e
        have e2:=congrArg Prod.snd e
        dsimp only at e2
        subst e1 e2
        exact⟨_,hm,.inl rfl⟩
      have inames:∀k',(x,k')∈scope.names->x≠("":Str):=fun k' hm z=>by
       subst z
       obtain⟨c',h1,_⟩:=z2t hm
       rw[c.nil] at h1;cases h1
      have ne:x≠("":Str):=by
       rcases e3' with q | q | q<;>(obtain⟨k',hm,_⟩:=look0 q;exact inames k' hm)
      by_cases hzy:z=y
      ·rw[if_pos hzy] at e1';exact absurd e1'.symm ne
      ·rw[if_neg hzy] at e1'
       subst e1'
       have fr:(z,NameKind.free)∈scope.names:=by
        rcases e3' with q | q | q
        ·obtain⟨k',hm,hk⟩:=look0 q
         rcases hk with rfl | ⟨_,hk⟩
         ·exact absurd (c.only z (List.mem_of_getElem? hz) (c.names _ hm rfl)) hzy
         ·cases hk
        ·obtain⟨k',hm,hk⟩:=look0 q
         rcases hk with rfl | ⟨rfl,_⟩
         ·exact absurd rfl (c.nocell _ hm)
         ·exact hm
        ·obtain⟨k',hm,hk⟩:=look0 q
         rcases hk with rfl | ⟨_,hk⟩
         ·exact hm
         ·cases hk
       obtain⟨⟨ca,eca⟩,hv⟩:=c.free _ fr rfl
       obtain⟨m0,hn0,hl0⟩:=I.loc
       obtain⟨u,ru,lk⟩:=hl0 i z v hz e2' (.inr hv)
       refine⟨u,ru,?_⟩
       rcases lk with ⟨q,_⟩ | ⟨_,k,ek,hk⟩
       ·exfalso
        have q':X.env.scope.names.lookup z=some .local:=q
        rcases hv with w | w<;>(rw[q'] at w;cases w)
       ·obtain⟨c',h1,_⟩:=z2t (z7v ek scope.names [] fr)
        have h2:=cells z c' h1
        rw[ek] at h2;cases h2
        refine .inr ⟨?_,k,h1,?_⟩
        ·rcases e3' with q | q | q
         ·exfalso
          obtain⟨k',hm,hk'⟩:=look0 q
          rcases hk' with rfl | ⟨_,hk'⟩
          ·exact hzy (c.only z (List.mem_of_getElem? hz) (c.names _ hm rfl))
          ·cases hk'
         ·exact .inl q
         ·exact .inr q
        ·obtain⟨o,ho',hd'⟩:=hk
         exact⟨o,old _ _ ho',hd'⟩
 ·obtain⟨v,o,ho',hd'⟩:=I.cell x k (cells x k e)
  exact⟨v,o,old _ _ ho',hd'⟩
 ·rcases List.mem_append.mp hp with q | q
  ·obtain⟨h1,h2,h3,h4,h5⟩:=I.pin p q
   refine⟨old _ _ h1,h2,Nat.ne_of_lt (Nat.lt_of_lt_of_le (Heap.lt_size h1) hC),fun z=>?_,h5⟩
   rcases List.mem_cons.mp (I.stkSub p.1 z) with q' | q'
   ·exact h3 q'
   ·exact h4 q'
  ·have e:p=(Dd,oD):=by simpa using q
   subst e
   exact⟨hd,I.hok.fresh hD,hDC,nstk Dd hD,hdd⟩
 ·show σ.length+1=(y::X.N.map _).length
  rw[List.length_cons,List.length_map,I.len]
noncomputable def w7h(X:Cx)(y:Str)(scope:Scope)(ifs:List Expr)(elt:Expr)(r:R (Option D))(C:Addr)(s₂:Shared)(H₂:Hp)(fp:List Addr)(pn pins:List (Addr×Obj))(s:Shared)(σ:St)(H:Hp)(F:List Addr):Prop :=
    wpAny (model X.prog X.w) X.A (forIn ifs true fun c r=>if r=true then do let ok <-isTrue c (compEnvC scope (capt X.env scope.names []) C X.env) (eval c (compEnvC scope (capt X.env scope.names []) C X.env));pure (ForInStep.yield ok) else pure (ForInStep.yield r)) (fun ok s₃ =>
     if ok=true then wpAny (model X.prog X.w) X.A (eval elt (compEnvC scope (capt X.env scope.names []) C X.env)) (fun u s₄=>∃e v H',r = .ok (some e)/\Inv (z1l X y scope C s₂ H₂ fp pn) pins σ H' s₄/\RelV v u/\Same H H'/\Is X.K (hid F H') e v) (fun _ _=>False) s₃
     else r = .ok none/\∃H',Inv (z1l X y scope C s₂ H₂ fp pn) pins σ H' s₃/\Same H H') (fun _ _=>False) s
structure PC1 (X:Cx) (y:Str) (scope:Scope) (ifs:List Expr) (elt:Expr) (f:D->G->R (Option D)):Prop where
 run:∀(C:Addr) (s₂:Shared) (H₂:Hp) (fp:List Addr) (pn:List (Addr×Obj)) (pins:List (Addr×Obj)) (s:Shared) (σ:St) (H:Hp) (F:List Addr) (Γ:G) (d:D),Inv (z1l X y scope C s₂ H₂ fp pn) pins σ H s->FOk H F->Rel X.K H F (.ro d::Γ) σ->(∃o,f d Γ = .ok o) ->
  wpAny (model X.prog X.w) X.A (forIn ifs true fun c r=>if r=true then do let ok <-isTrue c (compEnvC scope (capt X.env scope.names []) C X.env) (eval c (compEnvC scope (capt X.env scope.names []) C X.env));pure (ForInStep.yield ok) else pure (ForInStep.yield r)) (fun ok s₃ =>
   if ok=true then wpAny (model X.prog X.w) X.A (eval elt (compEnvC scope (capt X.env scope.names []) C X.env)) (fun u s₄=>∃e v H',f d Γ = .ok (some e)/\Inv (z1l X y scope C s₂ H₂ fp pn) pins σ H' s₄/\RelV v u/\Same H H'/\Is X.K (hid F H') e v) (fun _ _=>False) s₃
   else f d Γ = .ok none/\∃H',Inv (z1l X y scope C s₂ H₂ fp pn) pins σ H' s₃/\Same H H') (fun _ _=>False) s
theorem y0l{elt:Expr}{ge:G->R D}(he:∀C s₂ H₂ fp pn,PDr (z1l X y scope C s₂ H₂ fp pn) elt ge):PC1 X y scope [] elt (fElt ge):=by
 refine⟨fun C s₂ H₂ fp pn pins s σ H F Γ d I fo rl ⟨o,eo⟩=>?_⟩
 refine wpAny_tests_nil ?_
 rw[if_pos rfl]
 have hne:ge (.ro d::Γ) ≠ .no:=fun z=>by unfold fElt at eo;rw[z] at eo;cases eo
 refine wpAny_mono ((he C s₂ H₂ fp pn).run pins s σ H F (.ro d::Γ) I fo rl hne) (fun u s4 ⟨e,v,H',e1,I',rv,S,iv⟩=>⟨e,v,H',R.step e1 _,I',rv,S,iv⟩) fun x s' ⟨c,H',e1,_⟩=>?_
 unfold fElt at eo;rw[e1] at eo;cases eo
theorem x4p{elt c:Expr}{gc:G->R Bool}{ge:G->R D}(hc:∀C s₂ H₂ fp pn,PTD (z1l X y scope C s₂ H₂ fp pn) c gc)(he:∀C s₂ H₂ fp pn,PDr (z1l X y scope C s₂ H₂ fp pn) elt ge):PC1 X y scope [c] elt (z7f gc ge):=by
 refine⟨fun C s₂ H₂ fp pn pins s σ H F Γ d I fo rl ⟨o,eo⟩=>?_⟩
 have hne:gc (.ro d::Γ) ≠ .no:=fun z=>by unfold z7f at eo;rw[z] at eo;cases eo
 refine wpAny_tests_one (wpAny_mono ((hc C s₂ H₂ fp pn).run pins s σ H F (.ro d::Γ) I fo rl hne) (fun k s3 ⟨H1,e1,I1,S1⟩=>?_) fun x s' ⟨c',H',e1,_⟩=>?_)
 ·have eo':(if k=true then ge (.ro d::Γ)>>=fun e=>R.ok (some e) else .ok none) = .ok o:=by
   unfold z7f at eo;rw[e1] at eo;exact eo
  cases k with
  | false =>
    rw[if_neg Bool.false_ne_true]
    exact⟨R.step e1 _,H1,I1,S1⟩
  | true =>
    rw[if_pos rfl] at eo' ⊢
    have hne2:ge (.ro d::Γ) ≠ .no:=fun z=>by rw[z] at eo';cases eo'
    refine wpAny_mono ((he C s₂ H₂ fp pn).run pins s3 σ H1 F (.ro d::Γ) I1 (fo.same S1) (rl.same S1) hne2) (fun u s4 ⟨e,v,H',e2,I',rv,S,iv⟩=>⟨e,v,H',(R.step e1 _).trans (R.step e2 _),I',rv,S1.trans S,iv⟩) fun x s' ⟨c',H',e2,_⟩=>?_
    rw[e2] at eo';cases eo'
 ·unfold z7f at eo;rw[e1] at eo;cases eo
theorem y5o{K:PySem.W.Frag}{H:Hp}{F:List Addr}{Γ:G}{σ:St}{d:D}{v:V}(r:Rel K H F Γ σ)(i:Is K (hid F H) d v):Rel K H F (.ro d::Γ) (some v::σ) where
 len:=by rw[List.length_cons,List.length_cons,r.len]
 ro:=fun j d' h=>by
  cases j with
  | zero=>simp at h;cases h;exact⟨v,rfl,i⟩
  | succ j=>exact r.ro j d' (by simpa using h)
 own:=fun j ds h=>by
  cases j with
  | zero=>simp at h
  | succ j=>exact r.own j ds (by simpa using h)
 inj:=fun j k ds es a h1 h2 h3 h4=>by
  cases j with
  | zero=>simp at h1
  | succ j =>
    cases k with
    | zero=>simp at h2
    | succ k=>rw[r.inj j k ds es a (by simpa using h1) (by simpa using h2) (by simpa using h3) (by simpa using h4)]
theorem sb1{n a i:Nat}(e:n=a-i)(h:i<a):a-(i+1)<n:=by lia
theorem sb2{a c d:Nat}(h:c=d+1)(e:a=d):(d≠c/\a<=c/\a<=d)/\∀b,b<a->b≠c/\b≠d:=⟨⟨by lia,by lia,by lia⟩,fun b hb=>⟨by lia,by lia⟩⟩
theorem y4a{elt iter:Expr}{px pos:Pos}{ifs:List Expr}{f:D->G->R (Option D)}{pins:List (Addr×Obj)}{σ:St}{H₂:Hp}{s₂:Shared}{F:List Addr}{Γ:G}{items:List D}{it:Addr}{fp:List Addr}{tn:Nat->Heap->Prop}{J:It}{E:Value->Shared->Prop}{total:List D}
 (hp:∀(C:Addr) (ps:List (Addr×Obj)) (s:Shared) (x:V) (H:Hp) (d:D),Inv (z1l X y scope C s₂ H₂ fp (X.pn++pins)) ps (some x::σ) H s->Same H₂ H->FOk H F->Rel X.K H F (.ro d::Γ) (some x::σ)->(∃o,f d Γ = .ok o)->w7h X y scope ifs elt (f d Γ) C s₂ H₂ fp (X.pn++pins) ps s (some x::σ) H F)
 (c:CompOk X.N X.env y scope) (hN:X.N.Nodup) (hcalm:X.calm=true) (I:Inv X pins σ H₂ s₂) (fo:FOk H₂ F) (rl:Rel X.K H₂ F Γ σ) (T:Turn X.prog X.w X.K (.Name y px) J fp it tn) (t0:tn 0 s₂.heap) (hf:∀b∈fp,FpOk X pins H₂ b) (hj:JC X.K H₂ F J items)
 (ht:z0y (fun d=>f d Γ) items [] = .ok total) (hl:items.length<=100000) {RR:Value->Addr->Result->Shared->Prop}
 (hR:∀(Dd C:Addr) (xs:List V) (H':Hp) (m:Str->Option Value) (s':Shared),s₂.heap.objs.size<=C->Dd≠C->H₂ Dd=none->H' Dd=none->H' C=none->s₂.heap.objs.size<=Dd->Same H₂ H'->IsAll X.K (hid F H') total xs->Inv X pins σ (upd H' Dd (.lst xs)) s'->s'.heap.Ns C m->RR (.ref Dd) C (.ok .next) s') :
 wpAny (model X.prog X.w) X.A (newList []) (fun acc s₃=>wpAny (model X.prog X.w) X.A (newFunctionEnv scope X.env.globals (capt X.env scope.names []) [] X.env.qual none .none (some X.env)) (fun cenv s₄ =>
  codeAny (model X.prog X.w) X.A (.compStart (.ListComp elt [⟨.Name y px,iter,ifs,0⟩] scope pos) 0 (.ref it) acc { cenv with scope:=relabel scope X.env }) (RR acc cenv.locals) s₄) E s₃) E s₂:=by
 have ho:∀b∈fp,b<s₂.heap.objs.size:=fun b hb=>by obtain⟨o,e,_⟩:=T.obj _ _ t0 b hb;exact Heap.lt_size e
 refine wpAny_newObj_type (wpAny_newFunctionEnv c.nocell (by intro y hy;simp at hy) (fun h₁ hns₁ hsb₁=>?_) c.kind)
 dsimp only at hns₁ hsb₁ ⊢
 generalize hH2:s₂.heap.push { cls:=.type "list",dict:=none,data:=.seq ([]:List Value).toArray }=H2 at hns₁ hsb₁ ⊢
 have hCs:H2.objs.size=s₂.heap.objs.size+1:=by rw[<-hH2,Heap.size_push]
 generalize hCC:H2.objs.size=C at hns₁ hsb₁ hCs ⊢
 generalize hDD:s₂.heap.objs.size=Dd at hCs ⊢
 obtain⟨⟨hDC,hC,hD⟩,below⟩:=sb2 hCs hDD
 have old:∀b o,s₂.heap.get? b=some o->h₁.get? b=some o:=fun b o e=>by
  refine hsb₁.extBut b o (below b (Heap.lt_size e)).1 ?_
  exact Heap.get?_push_of_some _ (hH2 ▸ Heap.get?_push_of_some _ e)
 have hacc:h₁.get? Dd=some { cls:=.type "list",dict:=none,data:=.seq ([]:List Value).toArray }:=by
  refine hsb₁.extBut _ _ hDC ?_
  refine Heap.get?_push_of_some _ ?_
  rw[<-hH2,<-hDD]
  exact Heap.get?_push_size _ rfl
 have J0:∀tk,Inv (z1l X y scope C s₂ H₂ fp (X.pn++pins)) [(Dd,{ cls:=.type "list",dict:=none,data:=.seq ([]:List Value).toArray })] (none::σ) H₂ { s₂ with heap:=h₁,toks:=tk }:=fun tk =>
  x2v I c hC hD hDC hf ho old hns₁ hacc (fun v z=>nomatch z)
 have t1:tn 0 h₁:=T.keep _ _ _ t0 fun b hb o e=>old b o e
 have fpY:∀{H':Hp} {o:Obj},(∀b∈fp,H' b=none)->∀b∈fp,FpOk (z1l X y scope C s₂ H₂ fp (X.pn++pins)) [(Dd,o)] H' b:=fun {H' o} hn b hb=>by
  obtain⟨f0,f1,f2,f3,f4,f5⟩:=hf b hb
  have lt:=ho b hb
  refine⟨hn b hb,(below b lt).1,fun z=>?_,.inl hb,fun x k e=>?_,fun p hp'=>?_⟩
  ·rcases List.mem_cons.mp (I.stkSub b z) with q | q
   ·exact f1 q
   ·exact f2 q
  ·rcases z4s scope.names [] (PySem.mem_of_lookup e) with q | q
   ·simp at q
   ·exact f4 x k q
  ·rcases List.mem_append.mp hp' with q | q
   ·exact f5 p q
   ·have e:p=(Dd,o):=by simpa using q
    subst e
    exact Ne.symm (below b lt).2
 have NdY:(z1l X y scope C s₂ H₂ fp (X.pn++pins)).N.Nodup:=by
  show(y::X.N.map (fun z=>if z=y then ("":Str) else z)).Nodup
  refine List.nodup_cons.mpr ⟨fun z=>?_,?_⟩
  ·obtain⟨z',hz,e⟩:=List.mem_map.mp z
   by_cases q:z'=y
   ·rw[if_pos q] at e
    subst e
    have:=c.loc;rw[c.nil] at this;cases this
   ·rw[if_neg q] at e;exact q e
  ·have inj:∀a∈X.N,∀b∈X.N,(if a=y then ("":Str) else a)=(if b=y then ("":Str) else b)->a=b:=fun a ha b hb e=>by
    by_cases qa:a=y
    ·by_cases qb:b=y
     ·rw[qa,qb]
     ·rw[if_pos qa,if_neg qb] at e;exact absurd e.symm (c.none b hb)
    ·by_cases qb:b=y
     ·rw[if_neg qa,if_pos qb] at e;exact absurd e (c.none a ha)
     ·rw[if_neg qa,if_neg qb] at e;exact e
   have gen:∀l:List Str,(∀a∈l,a∈X.N)->l.Nodup->(l.map (fun z=>if z=y then ("":Str) else z)).Nodup:=by
    intro l
    induction l with
    | nil=>intro _ _;exact List.nodup_nil
    | cons a l ih =>
      intro hs nd
      obtain⟨n1,n2⟩:=List.nodup_cons.mp nd
      rw[List.map_cons]
      refine List.nodup_cons.mpr ⟨fun z=>?_,ih (fun b hb=>hs b (List.mem_cons_of_mem _ hb)) n2⟩
      obtain⟨b,hb,e⟩:=List.mem_map.mp z
      exact n1 (inj b (hs b (List.mem_cons_of_mem _ hb)) a (hs a List.mem_cons_self) e ▸ hb)
   exact gen X.N (fun _ h=>h) hN
 let L:Nat->Shared->Prop:=fun n s'=>∃(i:Nat) (H':Hp) (o:Option V) (xs:List V) (its:List Value) (acc:List D) (k:Nat),n=items.length-i/\i<=items.length/\Inv (z1l X y scope C s₂ H₂ fp (X.pn++pins)) [(Dd,{ cls:=.type "list",dict:=none,data:=.seq its.toArray k })] (o::σ) H' s' /\
  Same H₂ H'/\(∀b∈fp,H' b=none)/\tn i s'.heap/\Vals xs its/\acc.length<=i/\IsAll X.K (hid F H') acc xs/\z0y (fun d=>f d Γ) (items.drop i) acc = .ok total
 have loop:∀s₄:Shared,L items.length s₄->codeAny (model X.prog X.w) X.A (.compLoop (.ListComp elt [⟨.Name y px,iter,ifs,0⟩] scope pos) 0 (.ref it) (.ref Dd) (compEnvC scope (capt X.env scope.names []) C X.env)) (RR (.ref Dd) C) s₄:=fun s₄ h4=>by
  refine codeAny_compLoop_tests L (fun n s' hL=>wpAny_mono (E:=fun _ _=>False) ?_ (fun _ _ q=>q) fun _ _ z=>z.elim) items.length h4
  obtain⟨i,H',o,xs,its,acc,k,en,hi,J',S',fr',tn',rv,hal,ia,eg⟩:=hL
  obtain⟨jgo,jstop⟩:=hj H' S'
  have hpD:=J'.pin (Dd,{ cls:=.type "list",dict:=none,data:=.seq its.toArray k }) (List.mem_append_right _ (by simp))
  have hxl:xs.length<=100000:=by rw[<-ia.length];exact Nat.le_trans hal (Nat.le_trans hi hl)
  have hsl:(100000:Nat)<=sizeLine:=by rw[sizeLine_eq];decide
  by_cases hlt:i<items.length
  ·obtain⟨go,yl⟩:=jgo i hlt
   refine thn (T.item (z1l X y scope C s₂ H₂ fp (X.pn++pins)) rfl rfl rfl hcalm i _ s' _ H' (fun _ _=>False) J' (fpY fr') tn' go) fun r s2 ⟨u,hr,h1⟩=>?_
   subst hr
   refine pure_M (a:=()) h1 fun⟨x,H5,J5,r5,y5,st5,fr5⟩=>?_
   obtain⟨e5,d,ed,iv⟩:=yl x H5 y5
   subst e5
   have J5':=J5.pinned (fpY fr5) (T.obj _ _ st5)
   have hdrop:items.drop i=d::items.drop (i+1):=by
    rw[List.drop_eq_getElem_cons hlt]
    have:items[i]=d:=by
     have:=List.getElem?_eq_getElem hlt
     rw[ed] at this;exact(Option.some.inj this).symm
    rw[this]
   rw[hdrop] at eg
   have hfo:∃od,f d Γ = .ok od/\(match od with | some e=>z0y (fun d=>f d Γ) (items.drop (i+1)) (acc++[e]) | none=>z0y (fun d=>f d Γ) (items.drop (i+1)) acc) = .ok total:=by
    unfold z0y at eg
    cases q:f d Γ with
    | no=>simp only[q] at eg;cases eg
    | er c'=>simp only[q] at eg;cases eg
    | ok od =>
      refine⟨od,rfl,?_⟩
      cases od with
      | none=>simp only[q] at eg;exact eg
      | some e=>simp only[q] at eg;exact eg
   obtain⟨od,eod,etot⟩:=hfo
   have hpg:PG (z1l X y scope C s₂ H₂ fp (X.pn++pins)).nox (.Name y px) (y7t 0):=z6u (X:=(z1l X y scope C s₂ H₂ fp (X.pn++pins)).nox) NdY rfl (.inl (lookup_relabel_local c.loc)) (.inr (lookup_relabel_local c.loc))
   refine wpAny_mono (hpg _ s2 (o::σ) H5 x u (fun σ' H'=>σ'=some x::σ/\H'=H5) (J5'.wish _) r5 ⟨rfl,rfl⟩) (fun _ s3 ⟨σ6,H6,J6,e6,e6'⟩=>?_) fun _ _ z=>z.elim
   subst e6 e6'
   have J6':=J6.unwish
   have fo6:=fo.same S'
   refine wpAny_mono (hp C _ s3 x H6 d J6' S' fo6 (y5o (rl.same S') iv) ⟨od,eod⟩) (fun ok s4 h4=>?_) fun _ _ z=>z.elim
   have back:∀{s5:Shared} {H7:Hp} {σ7:St},Inv (z1l X y scope C s₂ H₂ fp (X.pn++pins)) ([(Dd,{ cls:=.type "list",dict:=none,data:=.seq its.toArray k })]++y2s fp s2.heap) σ7 H7 s5->tn (i+1) s5.heap/\(∀b∈fp,H7 b=none):=fun {s5 H7 σ7} J7=>by
    refine⟨T.keep _ _ _ st5 fun b hb o' e=>(J7.pin (b,o') (List.mem_append_right _ (List.mem_append_right _ (z2x hb e)))).1,fun b hb=>?_⟩
    obtain⟨o',e,dd⟩:=T.obj _ _ st5 b hb
    exact(J7.pin (b,o') (List.mem_append_right _ (List.mem_append_right _ (z2x hb e)))).2.1
   cases ok with
   | false =>
     rw[if_neg Bool.false_ne_true] at h4 ⊢
     obtain⟨ef,H7,J7,S7⟩:=h4
     rw[eod] at ef;cases ef
     obtain⟨tn7,fr7⟩:=back J7
     exact⟨items.length-(i+1),sb1 en hlt,i+1,H7,some x,xs,its,acc,k,rfl,hlt,J7.unpinned,S'.trans S7,fr7,tn7,rv,Nat.le_succ_of_le hal,ia.same (z2h S7),etot⟩
   | true =>
     rw[if_pos rfl] at h4 ⊢
     refine wpAny_mono h4 (fun u7 s5 ⟨e,v7,H7,ef,J7,r7,S7,iv7⟩=>?_) fun _ _ z=>z.elim
     rw[eod] at ef;cases ef
     obtain⟨tn7,fr7⟩:=back J7
     have J8:=J7.unpinned
     have hpD7:=J8.pin (Dd,{ cls:=.type "list",dict:=none,data:=.seq its.toArray k }) (List.mem_append_right _ (by simp))
     have hlen:its.length=acc.length:=by rw[<-rv.length,<-ia.length]
     refine wpAny_list_append_plain (l:=Dd) (items:=its.toArray) (x:=u7) ⟨k,hpD7.1⟩ (fun h' hl' hs'=>?_) (by rw[List.size_toArray,<-rv.length];exact Nat.le_trans hxl hsl)
     obtain⟨k',hk'⟩:=hl'
     have epush:its.toArray.push u7=(its++[u7]).toArray:=by simp
     rw[epush] at hk'
     have J9:Inv (z1l X y scope C s₂ H₂ fp (X.pn++pins)) [] (some x::σ) H7 s5:=J8.pins_of fun p hp'=>by simp at hp'
     have J10:Inv (z1l X y scope C s₂ H₂ fp (X.pn++pins)) [] (some x::σ) H7 { s5 with heap:=h' }:=J9.turned (t':=s5.toks) (it:=Dd) (fun b o' hb e'=>(hs'.2 b hb).trans e') hpD7.2.1 hDC (.inr hD) (fun x' k'' e' z=>by
      rcases z4s scope.names [] (PySem.mem_of_lookup e') with q | q
      ·simp at q
      ·obtain⟨v',o',ho',_⟩:=I.cell x' k'' q
       exact(below k'' (Heap.lt_size ho')).2 z) (fun p hp' z=>by
      rcases List.mem_append.mp hp' with q | q
      ·obtain⟨h1',_⟩:=I.pin p q
       exact(below p.1 (Heap.lt_size h1')).2 z
      ·simp at q)
     have J11:Inv (z1l X y scope C s₂ H₂ fp (X.pn++pins)) [(Dd,{ cls:=.type "list",dict:=none,data:=.seq (its++[u7]).toArray k' })] (some x::σ) H7 { s5 with heap:=h' }:=J10.pins_of fun p hp'=>by
      have e':p=(Dd,{ cls:=.type "list",dict:=none,data:=.seq (its++[u7]).toArray k' }):=by simpa using hp'
      subst e'
      exact⟨hk',hpD7.2.1,hDC,hpD7.2.2.2.1,fun v z=>nomatch z⟩
     refine⟨items.length-(i+1),sb1 en hlt,i+1,H7,some x,xs++[v7],its++[u7],acc++[e],k',rfl,hlt,J11,S'.trans S7,fr7,T.keep _ _ _ tn7 fun b hb o' e'=>(hs'.2 b (below b (ho b hb)).2).trans e',rv.append (.cons r7 .nil),by rw[List.length_append,List.length_singleton];exact Nat.succ_le_succ hal,(ia.same (z2h S7)).append (IsAll.cons iv7 IsAll.nil),etot⟩
  ·have hi':i=items.length:=Nat.le_antisymm hi (Nat.le_of_not_lt hlt)
   subst hi'
   refine thn (T.done (z1l X y scope C s₂ H₂ fp (X.pn++pins)) rfl rfl rfl hcalm _ _ s' _ H' (fun _ _=>False) J' (fpY fr') tn' jstop) fun r s1 ⟨hr,J1⟩=>?_
   subst hr
   have hpD1:=J1.pin (Dd,{ cls:=.type "list",dict:=none,data:=.seq its.toArray k }) (List.mem_append_right _ (by simp))
   rw[List.drop_length] at eg
   have:acc=total:=by unfold z0y at eg;cases eg;rfl
   subst this
   obtain⟨mC,hnC,_⟩:=J1.loc
   exact hR Dd C xs H' mC s1 hC hDC (I.hok.fresh hD) hpD1.2.1 J1.free hD S' ia (x6s I J1 hD hpD1.2.1 hpD1.1 rv (Nat.le_trans hxl hsl) hf) hnC
 have L0:∀tk,L items.length { s₂ with heap:=h₁,toks:=tk }:=fun tk=>⟨0,H₂,none,[],[],[],_,rfl,Nat.zero_le _,J0 tk,.refl _,fun b hb=>(hf b hb).1,t1,.nil,Nat.le_refl _,IsAll.nil,by rw[List.drop_zero];exact ht⟩
 exact codeAny_compStart_list (loop _ (L0 _)) (T.self _ 0 _ _ _ t1 (loop _ (L0 _)))
theorem z6v{elt iter:Expr}{px pos:Pos}{ifs:List Expr}{f:D->G->R (Option D)}{gi:G->R (List D)}(hi:PIC X (.Name y px) iter gi)(hp:PC1 X y scope ifs elt f)(hN:X.N.Nodup)(hcalm:X.calm=true)
 (chk:y1m X.N X.env y scope=true:=by rfl) (hclos:closureFor scope X.env=pure (capt X.env scope.names []):=by rfl) (hs:∀x,foldedSetIterable iter X.env x=pure x:=by intro _;rfl) :
 PF X (.ListComp elt [⟨.Name y px,iter,ifs,0⟩] scope pos) (z2z gi f):=by
 refine⟨fun pins s σ H F Γ I fo rl hg=>?_⟩
 have c:=y4b chk
 rw[eval_ListComp]
 refine wpAny_comprehension_free (use:=none) rfl hs hclos c.kind c.names (wpAny_mono (hi.run pins s σ H F Γ I fo rl (R.left hg)) (fun xv s₁ h₁=>wpAny_mono h₁ (fun itv s₂ h₂=>?_) fun _ _ x=>x.bind _) fun _ _ x=>x.bind _)
 obtain⟨items,it,fp,tn,J,H₂,e1,rfl,I2,S2,T,t0,fk,jc⟩:=h₂
 have hgx:=R.next hg e1
 obtain⟨hl,e2⟩:=R.guard_ne hgx
 have hne:z0y (fun d=>f d Γ) items [] ≠ .no:=by
  have:=R.next hg e1
  rw[e2] at this;exact this
 obtain⟨total,et⟩:=z8y hne
 refine y4a (RR:=fun acc C=>compPost (model X.prog X.w) X.A _ none _ acc C) (fun C ps s x H d J _ fo rl e=>hp.run C s₂ H₂ fp (X.pn++pins) ps s _ H F Γ d J fo rl e) c hN hcalm I2 (fo.same S2) (rl.same S2) T t0 fk jc et hl ?_
 intro Dd C xs H' m s' hC hDC hn hn' hnC hD S' ia I' hnsC
 refine⟨m,hnsC,fun h'' hs''=>?_⟩
 have nlt:∀{b:Addr} {o:Obj},s₂.heap.get? b=some o->b≠C:=fun e=>Nat.ne_of_lt (Nat.lt_of_lt_of_le (Heap.lt_size e) hC)
 have I'':Inv X pins σ (upd H' Dd (.lst xs)) { s' with heap:=h'' }:=I'.turned (t':=s'.toks) (it:=C) (fun b o hb e=>hs''.extBut b o hb e) (by rw[z0u (Ne.symm hDC)];exact hnC) (Nat.ne_of_gt (Nat.lt_of_lt_of_le I2.lt hC)) (.inr (Nat.le_trans I2.sz hC))
  (fun x k e=>by obtain⟨v,o,ho,_⟩:=I2.cell x k e;exact nlt ho) (fun p hp'=>nlt (I2.pin p hp').1)
 have S3:=z1r hn' (.lst xs)
 refine⟨total,Dd,xs,_,(R.step e1 _).trans (e2.trans et),I'',rfl,(S2.trans S').trans S3,S2.free hn,z0q,ia.same fun b o hb=>?_⟩
 obtain⟨z1,z2⟩:=z3x hb
 have hbl:b≠Dd:=z0z z2 hn'
 rw[z1o fun z=>(List.mem_cons.mp z).elim hbl z1,z0u hbl]
 exact z2
end
noncomputable def NxP(X:Cx)(pins:List (Addr×Obj))(H:Hp)(F:List Addr)(Γ:G)(s':Shared):Prop:=∃σ' H' F',Inv X pins σ' H' s'/\FOk H' F'/\Rel X.K H' F' Γ σ'/\Ext H F H' F'
noncomputable def RtP(X:Cx)(pins:List (Addr×Obj))(H:Hp)(F:List Addr)(r:R Fl)(u:Value)(s':Shared):Prop:=∃v σ' H' F',Inv X pins σ' H' s'/\RelV v u/\Ext H F H' F' /\
 ((∃d,r = .ok (.rt d)/\Is X.K H' d v)∨∃ds a xs,r = .ok (.rtF ds)/\v = .ref a/\(a∈F∨H a=none)/\H' a=some (.lst xs)/\IsAll X.K H' ds xs)
theorem RtP.map{X:Cx}{pins pins':List (Addr×Obj)}{H H1:Hp}{F F1:List Addr}{r r':R Fl}{u:Value}{s':Shared}(h:RtP X pins H1 F1 r u s')(E:Ext H F H1 F1)(hI:∀σ' H',Inv X pins σ' H' s'->Inv X pins' σ' H' s')
 (h1:∀d,r = .ok (.rt d)->r' = .ok (.rt d)) (h2:∀ds,r = .ok (.rtF ds)->r' = .ok (.rtF ds)):RtP X pins' H F r' u s':=by
 obtain⟨v,σ',H',F',I,rv,E',q⟩:=h
 refine⟨v,σ',H',F',hI _ _ I,rv,E.trans E',?_⟩
 rcases q with ⟨d,e,i⟩ | ⟨ds,a,xs,e,ev,hn,ha,i⟩
 ·exact .inl ⟨d,h1 d e,i⟩
 ·refine .inr ⟨ds,a,xs,h2 ds e,ev,?_,ha,i⟩
  rcases hn with z | z
  ·exact E.old a z
  ·by_cases c:a∈F
   ·exact .inl c
   ·refine .inr ?_
    cases q:H a with
    | none=>rfl
    | some o=>rw[E.keep a o c q] at z;cases z
noncomputable def FlP(X:Cx)(pins:List (Addr×Obj))(H:Hp)(F:List Addr)(r:R Fl)(fl:Flow)(s':Shared):Prop:=match fl with
 | .next=>∃Γ',r = .ok (.nx Γ')/\NxP X pins H F Γ' s'
 | .brk=>∃Γ',r = .ok (.bk Γ')/\NxP X pins H F Γ' s'
 | .cont=>∃Γ',r = .ok (.ct Γ')/\NxP X pins H F Γ' s'
 | .ret u=>RtP X pins H F r u s'
noncomputable def FlX(X:Cx)(pins:List (Addr×Obj))(H:Hp)(F:List Addr)(r:R Fl)(x:Value)(s':Shared):Prop:=∃c Γ' σ' H' F',r = .ok (.ex c Γ')/\y8p X pins σ' H' c x s'/\FOk H' F'/\Rel X.K H' F' Γ' σ'/\Ext H F H' F'
structure PQ (X:Cx) (st:Stmt) (g:G->R Fl):Prop where
 run:∀(pins:List (Addr×Obj)) (s:Shared) (σ:St) (H:Hp) (F:List Addr) (Γ:G),Inv X pins σ H s->FOk H F->Rel X.K H F Γ σ->g Γ ≠ .no ->
  wpAny (model X.prog X.w) X.A (exec st X.env) (FlP X pins H F (g Γ)) (FlX X pins H F (g Γ)) s
structure PQs (X:Cx) (st:List Stmt) (g:G->R Fl):Prop where
 run:∀(pins:List (Addr×Obj)) (s:Shared) (σ:St) (H:Hp) (F:List Addr) (Γ:G),Inv X pins σ H s->FOk H F->Rel X.K H F Γ σ->g Γ ≠ .no ->
  wpAny (model X.prog X.w) X.A (execs st X.env) (FlP X pins H F (g Γ)) (FlX X pins H F (g Γ)) s
theorem FlP.later{X:Cx}{pins:List (Addr×Obj)}{H H1:Hp}{F F1:List Addr}{r:R Fl}{fl:Flow}{s':Shared}(E:Ext H F H1 F1)(h:FlP X pins H1 F1 r fl s'):FlP X pins H F r fl s':=by
 cases fl with
 | next=>obtain⟨Γ',e,σ',H',F',h1,h2,h3,h4⟩:=h;exact⟨Γ',e,σ',H',F',h1,h2,h3,E.trans h4⟩
 | brk=>obtain⟨Γ',e,σ',H',F',h1,h2,h3,h4⟩:=h;exact⟨Γ',e,σ',H',F',h1,h2,h3,E.trans h4⟩
 | cont=>obtain⟨Γ',e,σ',H',F',h1,h2,h3,h4⟩:=h;exact⟨Γ',e,σ',H',F',h1,h2,h3,E.trans h4⟩
 | ret u=>exact RtP.map h E (fun _ _ I=>I) (fun _ e=>e) fun _ e=>e
theorem FlX.later{X:Cx}{pins:List (Addr×Obj)}{H H1:Hp}{F F1:List Addr}{r:R Fl}{x:Value}{s':Shared}(E:Ext H F H1 F1)(h:FlX X pins H1 F1 r x s'):FlX X pins H F r x s':=by
 obtain⟨c,Γ',σ',H',F',e,h1,h2,h3,h4⟩:=h
 exact⟨c,Γ',σ',H',F',e,h1,h2,h3,E.trans h4⟩
theorem z1p.lift{α:Type}{X:Cx}{pins:List (Addr×Obj)}{σ:St}{H:Hp}{F:List Addr}{Γ:G}{r:R α}{x:Value}{s':Shared}(fo:FOk H F)(rl:Rel X.K H F Γ σ)(h:z1p X pins σ H r x s')(k:α->R Fl):FlX X pins H F (lift r Γ k) x s':=by
 obtain⟨c,H',e,S,fl⟩:=h
 exact⟨c,Γ,σ,H',F,by rw[e];rfl,fl,fo.same S,rl.same S,.of_same S⟩
theorem Rel.set_ro{K:PySem.W.Frag}{H:Hp}{F:List Addr}{Γ:G}{σ:St}{i:Nat}{d:D}{v:V}(r:Rel K H F Γ σ)(iv:Is K (hid F H) d v):Rel K H F (Γ.set i (.ro d)) (σ.set i (some v)) where
 len:=by rw[List.length_set,List.length_set,r.len]
 ro:=fun j d' h=>by
  by_cases e:i=j
  ·subst e
   by_cases hi:i<Γ.length
   ·rw[List.getElem?_set_self hi] at h;cases h
    exact⟨v,List.getElem?_set_self (by rw[<-r.len];exact hi),iv⟩
   ·rw[List.getElem?_eq_none (by rw[List.length_set];lia)] at h;cases h
  ·rw[List.getElem?_set_ne e] at h
   rw[List.getElem?_set_ne e]
   exact r.ro j d' h
 own:=fun j ds h=>by
  by_cases e:i=j
  ·subst e
   by_cases hi:i<Γ.length
   ·rw[List.getElem?_set_self hi] at h;cases h
   ·rw[List.getElem?_eq_none (by rw[List.length_set];lia)] at h;cases h
  ·rw[List.getElem?_set_ne e] at h
   rw[List.getElem?_set_ne e]
   exact r.own j ds h
 inj:=fun j k ds es a h1 h2 h3 h4=>by
  by_cases ej:i=j
  ·subst ej
   by_cases hi:i<Γ.length
   ·rw[List.getElem?_set_self hi] at h1;cases h1
   ·rw[List.getElem?_eq_none (by rw[List.length_set];lia)] at h1;cases h1
  ·by_cases ek:i=k
   ·subst ek
    by_cases hi:i<Γ.length
    ·rw[List.getElem?_set_self hi] at h2;cases h2
    ·rw[List.getElem?_eq_none (by rw[List.length_set];lia)] at h2;cases h2
   ·rw[List.getElem?_set_ne ej] at h1 h3
    rw[List.getElem?_set_ne ek] at h2 h4
    exact r.inj j k ds es a h1 h2 h3 h4
theorem Rel.set_own{K:PySem.W.Frag}{H H':Hp}{F:List Addr}{Γ:G}{σ:St}{i:Nat}{ds:List D}{xs:List V}{a:Addr}(r:Rel K H F Γ σ)(fo:FOk H F)(S:Same H H')(hn:H a=none)(ha:H' a=some (.lst xs))(iv:IsAll K (hid (a::F) H') ds xs):Rel K H' (a::F) (Γ.set i (.own ds)) (σ.set i (some (.ref a))) where
 len:=by rw[List.length_set,List.length_set,r.len]
 ro:=fun j d' h=>by
  by_cases e:i=j
  ·subst e
   by_cases hi:i<Γ.length
   ·rw[List.getElem?_set_self hi] at h;cases h
   ·rw[List.getElem?_eq_none (by rw[List.length_set];lia)] at h;cases h
  ·rw[List.getElem?_set_ne e] at h
   rw[List.getElem?_set_ne e]
   obtain⟨v,h1,h2⟩:=r.ro j d' h
   exact⟨v,h1,h2.same (x5w S hn)⟩
 own:=fun j ds' h=>by
  by_cases e:i=j
  ·subst e
   by_cases hi:i<Γ.length
   ·rw[List.getElem?_set_self hi] at h;cases h
    exact⟨a,xs,List.getElem?_set_self (by rw[<-r.len];exact hi),List.mem_cons_self,ha,iv⟩
   ·rw[List.getElem?_eq_none (by rw[List.length_set];lia)] at h;cases h
  ·rw[List.getElem?_set_ne e] at h
   rw[List.getElem?_set_ne e]
   obtain⟨b,ys,h1,h2,h3,h4⟩:=r.own j ds' h
   exact⟨b,ys,h1,List.mem_cons_of_mem _ h2,S _ _ h3,h4.same (x5w S hn)⟩
 inj:=fun j k ds' es b h1 h2 h3 h4=>by
  have nF:∀(l:Nat) (es':List D),i≠l->Γ[l]? = some (.own es')->σ[l]? ≠ some (some (.ref a)):=fun l es' _ h z=>by
   obtain⟨b',ys,q1,q2,q3,_⟩:=r.own l es' h
   rw[z] at q1;cases q1
   rw[hn] at q3;cases q3
  by_cases ej:i=j
  ·by_cases ek:i=k
   ·rw[<-ej,<-ek]
   ·exfalso
    subst ej
    have hi:i<σ.length:=by
     by_cases hi:i<σ.length
     ·exact hi
     ·rw[List.getElem?_eq_none (by rw[List.length_set];lia)] at h3;cases h3
    rw[List.getElem?_set_self hi] at h3;cases h3
    rw[List.getElem?_set_ne ek] at h2 h4
    exact nF k es ek h2 h4
  ·by_cases ek:i=k
   ·exfalso
    subst ek
    have hi:i<σ.length:=by
     by_cases hi:i<σ.length
     ·exact hi
     ·rw[List.getElem?_eq_none (by rw[List.length_set];lia)] at h4;cases h4
    rw[List.getElem?_set_self hi] at h4;cases h4
    rw[List.getElem?_set_ne ej] at h1 h3
    exact nF j ds' ej h1 h3
   ·rw[List.getElem?_set_ne ej] at h1 h3
    rw[List.getElem?_set_ne ek] at h2 h4
    exact r.inj j k ds' es b h1 h2 h3 h4
theorem Rel.put{K:PySem.W.Frag}{H:Hp}{F:List Addr}{Γ:G}{σ:St}{i:Nat}{ds ds':List D}{xs':List V}{a:Addr}(r:Rel K H F Γ σ)(e:Γ[i]? = some (.own ds))(ea:σ[i]? = some (some (.ref a)))(iv:IsAll K (hid F H) ds' xs'):Rel K (upd H a (.lst xs')) F (Γ.set i (.own ds')) σ/\a∈F:=by
 obtain⟨a',xs,h1,hF,h3,h4⟩:=r.own i ds e
 rw[ea] at h1;cases h1
 have hh:hid F (upd H a (.lst xs'))=hid F H:=by
  funext b
  by_cases hb:b∈F
  ·rw[y7r hb,y7r hb]
  ·rw[z1o hb,z1o hb,z0u (fun z=>hb (by rw[z];exact hF))]
 have hi:i<Γ.length:=(List.getElem?_eq_some_iff.mp e).1
 refine⟨⟨by rw[List.length_set,r.len],fun j d' h=>?_,fun j es h=>?_,fun j k es1 es2 b h1 h2 h3' h4'=>?_⟩,hF⟩
 ·by_cases ej:i=j
  ·subst ej;rw[List.getElem?_set_self hi] at h;cases h
  ·rw[List.getElem?_set_ne ej] at h
   rw[hh];exact r.ro j d' h
 ·by_cases ej:i=j
  ·subst ej;rw[List.getElem?_set_self hi] at h;cases h
   exact⟨a,xs',ea,hF,z0q,by rw[hh];exact iv⟩
  ·rw[List.getElem?_set_ne ej] at h
   obtain⟨b,ys,q1,q2,q3,q4⟩:=r.own j es h
   refine⟨b,ys,q1,q2,?_,by rw[hh];exact q4⟩
   rw[z0u (fun z=>ej (r.inj i j ds es a e h ea (by rw[<-z];exact q1)))];exact q3
 ·have old:∀(l:Nat) (es':List D),(Γ.set i (En.own ds'))[l]? = some (En.own es')->∃es0,Γ[l]? = some (En.own es0):=fun l es' h=>by
   by_cases el:i=l
   ·subst el;exact⟨ds,e⟩
   ·rw[List.getElem?_set_ne el] at h;exact⟨es',h⟩
  obtain⟨e1,q1⟩:=old j es1 h1
  obtain⟨e2,q2⟩:=old k es2 h2
  exact r.inj j k e1 e2 b q1 q2 h3' h4'
section
variable {X:Cx}{st:Stmt}{rest:List Stmt}{t u:G->R Fl}{e a b c:Expr}{g ga gb:G->R D}{pos p pos':Pos}
theorem z1n:PQs X [] z1i:=⟨fun pins s σ H F Γ I fo rl _=>wpAny_execs_nil ⟨Γ,rfl,σ,H,F,I,fo,rl,.refl⟩⟩
theorem z0c(h1:PQ X st t)(h2:PQs X rest u):PQs X (st::rest) (gSt t u):=by
 refine⟨fun pins s σ H F Γ I fo rl hg=>?_⟩
 refine wpAny_execs_cons (wpAny_mono (h1.run pins s σ H F Γ I fo rl (R.left hg)) (fun fl s1 q=>?_) fun x s1 q=>?_)
 ·cases fl with
  | next =>
    obtain⟨Γ',e,σ',H',F',I',fo',rl',E⟩:=q
    have e2:gSt t u Γ=u Γ':=R.step e _
    rw[e2] at hg ⊢
    exact wpAny_mono (h2.run pins s1 σ' H' F' Γ' I' fo' rl' hg) (fun _ _ q=>q.later E) fun _ _ q=>q.later E
  | ret v=>exact RtP.map q .refl (fun _ _ I=>I) (fun _ e=>R.step e _) fun _ e=>R.step e _
  | brk=>obtain⟨Γ',e,r⟩:=q;exact⟨Γ',R.step e _,r⟩
  | cont=>obtain⟨Γ',e,r⟩:=q;exact⟨Γ',R.step e _,r⟩
 ·obtain⟨c,Γ',σ',H',F',e,r⟩:=q
  exact⟨c,Γ',σ',H',F',R.step e _,r⟩
theorem z0f(h1:PQ X st t):PQs X [st] t:=by
 refine⟨fun pins s σ H F Γ I fo rl hg=>?_⟩
 refine wpAny_execs_cons (thn (h1.run pins s σ H F Γ I fo rl hg) fun fl s1 q=>?_)
 cases fl with
 | next=>exact wpAny_execs_nil q
 | ret v=>exact q
 | brk=>exact q
 | cont=>exact q
theorem z0v(he:PD X e g):PQ X (.Return (some e) pos) (gRet g):=⟨fun pins s σ H F Γ I fo rl hg =>
 wpAny_Return_some (wpAny_mono (he.run pins s σ H F Γ I fo rl (z2d hg)) (fun u s1 ⟨d,v,H',e1,I',rv,S,i⟩=>⟨v,σ,H',F,I',rv,.of_same S,.inl ⟨d,z4b e1,i⟩⟩) fun _ _ x=>x.lift fo rl _)⟩
theorem y9b{g:G->R (List D)}(he:PF X e g):PQ X (.Return (some e) pos) (z8a g):=⟨fun pins s σ H F Γ I fo rl hg =>
 wpAny_Return_some (wpAny_mono (he.run pins s σ H F Γ I fo rl (z2d hg)) (fun u s1 ⟨ds,a,xs,H',e1,I',eu,S,hn,ha,i⟩=>⟨.ref a,σ,H',F,I',eu,.of_same S,.inr ⟨ds,a,xs,z4b e1,rfl,.inr hn,ha,i.same z2j⟩⟩) fun _ _ x=>x.lift fo rl _)⟩
theorem y5r(i:Nat){x:Str}{p:Pos}(hN:X.N[i]? = some x:=by rfl)(hv:Vis X.env.scope x:=by first | exact Or.inl rfl | exact Or.inr (Or.inl rfl) | exact Or.inr (Or.inr rfl))(hd:(x==("__debug__":Str))=false:=by decide)
 (hcd:(x==("__classdict__":Str))=false:=by decide):PQ X (.Return (some (.Name x p)) pos) (z7d i):=by
 refine⟨fun pins s σ H F Γ I fo rl hg=>?_⟩
 unfold z7d at hg ⊢
 cases q:Γ[i]? with
 | none=>rw[q] at hg;exact absurd rfl hg
 | some en =>
   cases en with
   | own ds =>
     obtain⟨a,xs,h1,h2,h3,h4⟩:=rl.own i ds q
     refine wpAny_Return_some (wpAny_mono (z8g (X:=X.nox) hN hv hd hcd pins s σ H (fun v' H'=>v' = .ref a/\H'=H) (I.wish _) ⟨.ref a,h1,rfl,rfl⟩) (fun u s1 ⟨v',H',I',r,e1,e2⟩=>?_) fun _ _ z=>False.elim z)
     subst e1 e2
     exact⟨.ref a,σ,H',F,I'.unwish,r,.refl,.inr ⟨ds,a,xs,rfl,rfl,.inl h2,h3,h4.same z2j⟩⟩
   | _=>rw[q] at hg;exact absurd rfl hg
theorem z5g{cs ds:List Stmt}{gc:G->R Bool}(hc:PTD X c gc)(ha:PQs X cs t)(hb:PQs X ds u):PQ X (.If c cs ds pos) (gIfS gc t u):=by
 refine⟨fun pins s σ H F Γ I fo rl hg=>?_⟩
 refine wpAny_If (wpAny_mono (hc.run pins s σ H F Γ I fo rl (z2d hg)) (fun k s1 ⟨H1,e1,I1,S1⟩=>?_) fun _ _ x=>x.lift fo rl _)
 have e2:gIfS gc t u Γ=if k=true then t Γ else u Γ:=z4b e1
 rw[e2] at hg ⊢
 cases k with
 | true=>exact wpAny_mono (ha.run pins s1 σ H1 F Γ I1 (fo.same S1) (rl.same S1) hg) (fun _ _ q=>q.later (.of_same S1)) fun _ _ q=>q.later (.of_same S1)
 | false=>exact wpAny_mono (hb.run pins s1 σ H1 F Γ I1 (fo.same S1) (rl.same S1) hg) (fun _ _ q=>q.later (.of_same S1)) fun _ _ q=>q.later (.of_same S1)
theorem z0n(i:Nat){x:Str}(he:PDr X e g)(hN:X.N.Nodup)(hi:X.N[i]? = some x:=by rfl)(hx:Loc X.env.scope x:=by first | exact Or.inl rfl | exact Or.inr rfl)(hs:swapsWith e (some (.Name x pos')) pos.line X.env=pure false:=by rfl)(hf:X.fn x=true∨X.env.scope.names.lookup x=some .local:=by first | exact .inl rfl | exact .inr rfl | assumption) :
 PQ X (.Assign [.Name x pos'] e pos) (gSet i g):=by
 refine⟨fun pins s σ H F Γ I fo rl hg=>?_⟩
 refine wpAny_Assign_Name (wpAny_mono (he.run pins s σ H F Γ I fo rl (z2d hg)) (fun v s1 ⟨d,y,H1,e1,I1,r1,S1,i1⟩=>?_) fun _ _ x=>x.lift fo rl _) hs
 exact y2g I1 hN hi hx r1 (fun s2 I2=>⟨_,z4b e1,_,H1,F,I2,fo.same S1,(rl.same S1).set_ro i1,.of_same S1⟩) hf
theorem z3g(i:Nat){x:Str}{g:G->R (List D)}(he:PF X e g)(hN:X.N.Nodup)(hi:X.N[i]? = some x:=by rfl)(hx:Loc X.env.scope x:=by first | exact Or.inl rfl | exact Or.inr rfl)(hs:swapsWith e (some (.Name x pos')) pos.line X.env=pure false:=by rfl)(hf:X.fn x=true∨X.env.scope.names.lookup x=some .local:=by first | exact .inl rfl | exact .inr rfl | assumption) :
 PQ X (.Assign [.Name x pos'] e pos) (z2q i g):=by
 refine⟨fun pins s σ H F Γ I fo rl hg=>?_⟩
 refine wpAny_Assign_Name (wpAny_mono (he.run pins s σ H F Γ I fo rl (z2d hg)) (fun v s1 ⟨ds,a,xs,H1,e1,I1,eu,S1,hn,ha,i1⟩=>?_) fun _ _ x=>x.lift fo rl _) hs
 subst eu
 exact y2g (v:=.ref a) I1 hN hi hx rfl (fun s2 I2=>⟨_,z4b e1,_,H1,a::F,I2,(fo.same S1).cons ha,rl.set_own fo S1 hn ha i1,⟨fun b o _ h=>S1 _ _ h,fun b hb=>(List.mem_cons.mp hb).elim (fun z=>.inr (z ▸ hn)) .inl⟩⟩) hf
theorem x2a(i:Nat){x y:Str}{elt iter:Expr}{px:Pos}{ifs:List Expr}{scope:Scope}{f:D->G->R (Option D)}{gi:G->R (List D)}(hi':PIC X (.Name y px) iter gi)(hp:PC1 X y scope ifs elt f)(hN:X.N.Nodup)(hcalm:X.calm=true)(hi:X.N[i]? = some x:=by rfl)(hx:Loc X.env.scope x:=by first | exact Or.inl rfl | exact Or.inr rfl)
 (hsw:swapsWith (.ListComp elt [⟨.Name y px,iter,ifs,0⟩] scope p) (some (.Name x pos')) pos.line X.env=pure true:=by rfl) (hf:X.fn x=true∨X.env.scope.names.lookup x=some .local:=by first | exact .inl rfl | exact .inr rfl | assumption)
 (chk:y1m X.N X.env y scope=true:=by rfl) (hclos:closureFor scope X.env=pure (capt X.env scope.names []):=by rfl) (hs:∀x,foldedSetIterable iter X.env x=pure x:=by intro _;rfl) :
 PQ X (.Assign [.Name x pos'] (.ListComp elt [⟨.Name y px,iter,ifs,0⟩] scope p) pos) (z2q i (z2z gi f)):=by
 refine⟨fun pins s σ H F Γ I fo rl hg=>?_⟩
 have c:=y4b chk
 rw[exec_Assign_Name_used _ _ _ _ hsw]
 refine wpAny_bind (wpAny_standAt (wpAny_bind ?_))
 show wpAny _ X.A (do let _ <-comprehension (.ListComp elt [⟨.Name y px,iter,ifs,0⟩] scope p) scope X.env _ (newList []) false (eval iter X.env) (some (assign (.Name x pos') X.env))) _ _ s
 have hg0:=z2d hg
 refine wpAny_bind (wpAny_mono (wpAny_comprehension_free (use:=some (assign (.Name x pos') X.env)) (Q:=fun _ s'=>FlP X pins H F (z2q i (z2z gi f) Γ) .next s') rfl hs hclos c.kind c.names
  (wpAny_mono (hi'.run pins s σ H F Γ I fo rl (R.left hg0)) (fun xv s₁ h₁=>wpAny_mono h₁ (fun itv s₂ h₂=>?_) fun _ _ x=>(x.bind _).lift fo rl _) fun _ _ x=>(x.bind _).lift fo rl _)) (fun _ s' hq=>wpAny_pure (wpAny_pure hq)) fun _ _ e=>e)
 obtain⟨items,it,fp,tn,J,H₂,e1,rfl,I2,S2,T,t0,fk,jc⟩:=h₂
 have hgx:=R.next hg0 e1
 obtain⟨hl,e2⟩:=R.guard_ne hgx
 have hne:z0y (fun d=>f d Γ) items [] ≠ .no:=by
  have:=R.next hg0 e1
  rw[e2] at this;exact this
 obtain⟨total,et⟩:=z8y hne
 have eT:z2z gi f Γ = .ok total:=(R.step e1 _).trans (e2.trans et)
 refine y4a (RR:=fun acc C=>compPost (model X.prog X.w) X.A _ (some (assign (.Name x pos') X.env)) _ acc C) (fun C ps s x H d J _ fo rl e=>hp.run C s₂ H₂ fp (X.pn++pins) ps s _ H F Γ d J fo rl e) c hN hcalm I2 (fo.same S2) (rl.same S2) T t0 fk jc et hl ?_
 intro Dd C xs H' m s' hC hDC hn hn' hnC hD S' ia I' hnsC
 have nlt:∀{b:Addr} {o:Obj},s₂.heap.get? b=some o->b≠C:=fun e=>Nat.ne_of_lt (Nat.lt_of_lt_of_le (Heap.lt_size e) hC)
 have S3:=z1r hn' (.lst xs)
 have hall:Same H (upd H' Dd (.lst xs)):=(S2.trans S').trans S3
 have hH:H Dd=none:=S2.free hn
 have ia':IsAll X.K (hid (Dd::F) (upd H' Dd (.lst xs))) total xs:=ia.same fun b o hb=>by
  obtain⟨z1,z2⟩:=z3x hb
  have hbl:b≠Dd:=z0z z2 hn'
  rw[z1o fun z=>(List.mem_cons.mp z).elim hbl z1,z0u hbl]
  exact z2
 show wpAny _ X.A (assign (.Name x pos') X.env (.ref Dd)) _ _ s'
 refine wpAny_assign_Name (y6s (v:=.ref Dd) I' hN hi hx rfl (fun s3 I3 hsb=>?_) hf)
 obtain⟨aa,hsb,haa⟩:=hsb
 have haC:aa≠C:=by
  rcases haa with z | z
  ·subst z;exact Nat.ne_of_lt (Nat.lt_of_lt_of_le I2.lt hC)
  ·obtain⟨v,o,ho,_⟩:=I2.cell x aa z;exact nlt ho
 refine⟨m,hnsC.sameBut hsb (Ne.symm haC),fun h'' hs''=>?_⟩
 have I4:Inv X pins (σ.set i (some (.ref Dd))) (upd H' Dd (.lst xs)) { s3 with heap:=h'' }:=I3.turned (t':=s3.toks) (it:=C) (fun b o hb e=>hs''.extBut b o hb e) (by rw[z0u (Ne.symm hDC)];exact hnC) (Nat.ne_of_gt (Nat.lt_of_lt_of_le I2.lt hC)) (.inr (Nat.le_trans I2.sz hC))
  (fun x k e=>by obtain⟨v,o,ho,_⟩:=I2.cell x k e;exact nlt ho) (fun p hp'=>nlt (I2.pin p hp').1)
 exact⟨_,z4b eT,_,_,Dd::F,I4,(fo.same hall).cons z0q,rl.set_own fo hall hH z0q ia',⟨fun b o _ h=>hall _ _ h,fun b hb=>(List.mem_cons.mp hb).elim (fun z=>.inr (z ▸ hH)) .inl⟩⟩
theorem z5h(i:Nat){x:Str}{apos cpos:Pos}(he:PDr X e g)(hN:X.N[i]? = some x:=by rfl)(hv:Vis X.env.scope x:=by first | exact Or.inl rfl | exact Or.inr (Or.inl rfl) | exact Or.inr (Or.inr rfl))(hd:(x==("__debug__":Str))=false:=by decide)(hcd:(x==("__classdict__":Str))=false:=by decide)
 (hsw:swapsWith (.Call (.Attribute (.Name x p) "append" apos) [e] [] cpos) none pos.line X.env=pure false:=by rfl)
 (hbase:attributeBase (.Name x p) "append" X.env (eval (.Name x p) X.env)=eval (.Name x p) X.env:=by rfl)
 (hfew:((backTo cpos (starEach [e] X.env)).all (fun x=>!x.1)&&(backToKw cpos (keywordEach [] X.env)).all (fun x=>x.1.isSome)
   && decide ([e].length+([]:List Keyword).length+(if ([]:List Keyword).isEmpty then 0 else 1)<30))=true:=by rfl)
 (hline:(apos.endLine==cpos.line)=true:=by rfl) (hs:starEach [e] X.env=(false,eval e X.env)::starEach [] X.env:=by rfl) :
 PQ X (.Expr (.Call (.Attribute (.Name x p) "append" apos) [e] [] cpos) pos) (gApp i g):=by
 refine⟨fun pins s σ H F Γ I fo rl hg=>?_⟩
 refine wpAny_Expr_any ?_ I.quiet hsw
 have hown:∃ds,Γ[i]? = some (.own ds):=by
  unfold gApp at hg
  split at hg
  ·rename_i ds e1;exact⟨ds,e1⟩
  ·exact absurd rfl hg
 obtain⟨ds,eo⟩:=hown
 have egA:gApp i g Γ=lift (g Γ) Γ fun d=>R.guard (ds.length<=100000) (.ok (.nx (Γ.set i (.own (ds++[d]))))):=by unfold gApp;rw[eo]
 rw[egA] at hg ⊢
 obtain⟨a',xs,h1,hF,h3,h4⟩:=rl.own i ds eo
 refine wpAny_Call_method_late hbase hfew hline rfl (wpAny_mono (z8g (X:=X.nox) hN hv hd hcd pins s σ H (fun v' H'=>v' = .ref a'/\H'=H) (I.wish _) ⟨.ref a',h1,rfl,rfl⟩) (fun v s1 ⟨v',H',I1,r1,e1,e2⟩=>?_) fun _ _ z=>False.elim z)
 subst e1 e2
 have I1':=I1.unwish
 obtain⟨t1,t2⟩:=x3i (T:="list") I1' r1 (.inl ⟨rfl,xs,SqL.of h3⟩)
 refine⟨"list",_,PySem.F.plainAttrs_list,PySem.F.slot_list_append,PySem.F.type_list_append,t1,t2,?_⟩
 rw[hs]
 refine Calls.callWith_builtin rfl (Calls.evalArgs_plain ?_)
 show wpAny _ _ (spliced ((false,eval e X.env)::backTo cpos [])) _ _ s1
 refine Calls.spliced_cons (wpAny_mono (he.run pins s1 σ H' F Γ I1' fo rl (z2d hg)) (fun u s2 ⟨d,y,H2,e3,I2,r2,S2,i2⟩=>Calls.spliced_nil ?_) fun _ _ x=>x.lift fo rl _)
 have hgx:=z8m hg e3
 obtain⟨hl,e4⟩:=R.guard_ne hgx
 have hx2:=S2 _ _ h3
 have hsl:(100001:Nat)<=sizeLine:=by rw[sizeLine_eq];decide
 have hxl:=h4.length
 refine wpAny_mono (x5a (X:=X.nox) pins s2 σ H2 (.ref a') [y] v [u] (fun z H''=>z = .non/\H''=upd H2 a' (.lst (xs++[y]))) (I2.wish _) r1 (.cons r2 .nil) ⟨a',xs,y,rfl,rfl,hx2,by lia,rfl,rfl⟩) (fun w' s3 ⟨z,H'',I3,rz,ez,eH⟩=>?_) fun _ _ z=>False.elim z
 subst ez eH
 obtain⟨rl',hF'⟩:=(rl.same S2).put eo h1 (xs':=xs++[y]) (ds':=ds++[d]) ((h4.same (z2h S2)).append (IsAll.cons i2 IsAll.nil))
 refine⟨_,(z4b e3).trans e4,σ,_,F,I3.unwish,fun b hb=>?_,rl',⟨fun b o hb h=>?_,fun b hb=>.inl hb⟩⟩
 ·by_cases hba:b=a'
  ·exact⟨xs++[y],by rw[hba];exact z0q⟩
  ·obtain⟨ys,q⟩:=fo b hb
   exact⟨ys,by rw[z0u hba];exact S2 _ _ q⟩
 ·rw[z0u (fun z=>hb (by rw[z];exact hF))];exact S2 _ _ h
theorem w0j(i:Nat){x:Str}{k:Expr}{gk:G->R D}{spos:Pos}(hk:PD X k gk)(he:PDr X e g)(hN:X.N[i]? = some x:=by rfl)(hv:Vis X.env.scope x:=by first | exact Or.inl rfl | exact Or.inr (Or.inl rfl) | exact Or.inr (Or.inr rfl))(hd:(x==("__debug__":Str))=false:=by decide)(hcd:(x==("__classdict__":Str))=false:=by decide)
 (ha:∀v,assign (.Subscript (.Name x p) k spos) X.env v=(do
   let ov <-holding [v] (eval (.Name x p) X.env)
   let iv <-holding [v,ov] (eval k X.env)
   standAt spos
   holding [v,ov,iv] (setItem ov iv v)
   release [v,ov,iv] []):=by intro _;rfl)
 (hs:swapsWithSole [.Subscript (.Name x p) k spos] e pos.line X.env=pure false:=by rfl) (hw:swappedStores [.Subscript (.Name x p) k spos] e X.env=pure none:=by rfl)
 (h1':(assignEach [.Subscript (.Name x p) k spos] X.env).map (·.2)=[assign (.Subscript (.Name x p) k spos) X.env]:=by rfl) :
 PQ X (.Assign [.Subscript (.Name x p) k spos] e pos) (gPut i gk g):=by
 refine⟨fun pins s σ H F Γ I fo rl hg=>?_⟩
 have hown:∃ds,Γ[i]? = some (.own ds):=by
  unfold gPut at hg
  split at hg
  ·rename_i ds e1;exact⟨ds,e1⟩
  ·exact absurd rfl hg
 obtain⟨ds,eo⟩:=hown
 have egA:gPut i gk g Γ=lift (g Γ) Γ fun d=>lift (gk Γ) Γ fun k=>(match k with
  | .int j=>(match ixN ds.length j with | some j'=>.ok (.nx (Γ.set i (.own (ds.set j' d)))) | none=>.no)
  | _=>.no):=by(unfold gPut;rw[eo])<;>rfl
 rw[egA] at hg ⊢
 obtain⟨a',xs,h1,hF,h3,h4⟩:=rl.own i ds eo
 refine wpAny_Assign_stores (wpAny_mono (he.run pins s σ H F Γ I fo rl (z2d hg)) (fun u s1 ⟨d,y,H1,e1,I1,r1,S1,i1⟩=>?_) fun _ _ x=>x.lift fo rl _) hs hw
 have hg1:=z8m hg e1
 rw[h1']
 rw[z4b e1] at hg ⊢
 show wpAny _ _ (assign (.Subscript (.Name x p) k spos) X.env u) _ _ s1
 rw[ha]
 refine wpAny_bind (wpAny_holding (wpAny_mono (z8g (X:=X.nox) hN hv hd hcd pins s1 σ H1 (fun v' H'=>v' = .ref a'/\H'=H1) (I1.wish _) ⟨.ref a',h1,rfl,rfl⟩) (fun v s2 ⟨v',H',I2,r2,e2,e3⟩=>?_) fun _ _ z=>False.elim z))
 subst e2 e3
 refine wpAny_bind (wpAny_holding (wpAny_mono (hk.run pins s2 σ H' F Γ I2.unwish (fo.same S1) (rl.same S1) (z2d hg)) (fun w' s3 ⟨dk,vk,H3,e4,I3,r3,S3,i3⟩=>?_) fun _ _ x=>(x.lift (fo.same S1) (rl.same S1) _).later (.of_same S1)))
 have hg2:=z8m hg e4
 rw[z4b e4] at hg ⊢
 cases dk with
 | int j =>
   cases q:ixN ds.length j with
   | none=>simp only[q] at hg2;exact absurd rfl hg2
   | some j' =>
     have hx3:=S3 _ _ (S1 _ _ h3)
     refine wpAny_bind (wpAny_standAt (wpAny_bind (wpAny_holding (wpAny_mono (x7t (X:=X.nox) pins s3 σ H3 (.ref a') vk y v w' u (fun H''=>H''=upd H3 a' (.lst (xs.set j' y))) (I3.wish _) r2 r3 r1 ⟨a',xs,j,j',rfl,Is.int_iff.mp i3,hx3,by rw[<-h4.length];exact q,rfl⟩) (fun _ s4 ⟨H'',I4,eH⟩=>?_) fun _ _ z=>False.elim z))))
     subst eH
     refine wpAny_release ?_
     have S13:=S1.trans S3
     obtain⟨rl',hF'⟩:=(rl.same S13).put eo h1 (xs':=xs.set j' y) (ds':=ds.set j' d) (IsAll.set (i1.same (z2h S3)) j' (h4.same (z2h S13)))
     refine⟨_,by simp only[q],σ,_,F,I4.unwish,fun b hb=>?_,rl',⟨fun b o hb h=>?_,fun b hb=>.inl hb⟩⟩
     ·by_cases hba:b=a'
      ·exact⟨_,by rw[hba];exact z0q⟩
      ·obtain⟨ys,q'⟩:=fo b hb
       exact⟨ys,by rw[z0u hba];exact S13 _ _ q'⟩
     ·rw[z0u (fun z=>hb (by rw[z];exact hF))];exact S13 _ _ h
 | _=>exact absurd rfl hg2
noncomputable def PO'(X:Cx):Prop:=∀pins H F r,PassesOwn (model X.prog X.w) X.A X.env (FlX X pins H F r)
theorem z6z(i:Nat){x:Str}{px:Pos}{iter:Expr}{body:List Stmt}{gi:G->R (List D)}{gb:G->R Fl}(hp:PO' X)(hcalm:X.calm=true)(hi:PIF X (.Name x px) iter gi)(hb:PQs X body gb)(hN:X.N.Nodup)(hix:X.N[i]? = some x:=by rfl)(hx:Loc X.env.scope x:=by first | exact Or.inl rfl | exact Or.inr rfl)
 (hf:X.fn x=true∨X.env.scope.names.lookup x=some .local:=by first | exact .inl rfl | exact .inr rfl | assumption)
 (hs:∀x,foldedSetIterable iter X.env x=pure x:=by intro _;rfl):PQ X (.For (.Name x px) iter body [] pos) (gFor i gi gb):=by
 refine⟨fun pins s σ H F Γ I fo rl hg=>?_⟩
 refine wpAny_For (wpAny_mono (hi.run pins s σ H F Γ I fo rl (z2d hg)) (fun v s1 h1=>wpAny_mono h1 (fun itv s2 h2=>?_) fun _ _ x=>x.lift fo rl _) fun _ _ x=>x.lift fo rl _) hs
 obtain⟨ds,it,fp,tn,J,H2,e1,rfl,I2,S2,T,t0,fk,jd⟩:=h2
 have eg:gFor i gi gb Γ=z4h gb i ds Γ:=z4b e1
 rw[eg] at hg ⊢
 have hp':=hp pins H F (z4h gb i ds Γ)
 have stat:∀{H':Hp},(∀b∈fp,H' b=none)->∀b∈fp,FpOk X pins H' b:=fun hn b hb=>⟨hn b hb,(fk b hb).2⟩
 refine codeAny_forLoop_any (fun n s'=>∃(j:Nat) (σ':St) (H':Hp) (F':List Addr) (Γ':G),n=ds.length-j/\j<=ds.length/\Inv X pins σ' H' s'/\tn j s'.heap/\(∀b∈fp,H' b=none)/\FOk H' F'/\Rel X.K H' F' Γ' σ'/\Ext H2 F H' F'/\z4h gb i (ds.drop j) Γ'=z4h gb i ds Γ) ?_ ds.length
  ⟨0,σ,H2,F,Γ,by lia,Nat.zero_le _,I2,t0,fun b hb=>(fk b hb).1,fo.same S2,rl.same S2,.refl,by rw[List.drop_zero]⟩
 rintro n s3 ⟨j,σ3,H3,F3,Γ3,en,hj,I3,t3,fr3,fo3,rl3,E3,ev3⟩
 have E03:Ext H F H3 F3:=(Ext.of_same S2).trans E3
 obtain⟨jgo,jstop⟩:=jd H3 fun b o hb h=>E3.keep b o hb h
 by_cases hlt:j<ds.length
 ·obtain⟨go,yl⟩:=jgo j hlt
  refine wpAny_passesOwn hp' (thn (T.item X rfl rfl rfl hcalm j pins s3 σ3 H3 _ I3 (stat fr3) t3 go) fun r s4 ⟨u,hr,h4⟩=>?_)
  subst hr
  refine wpAny_passesOwn hp' (thn h4 fun _ s5 ⟨y,H5,I5,r5,y5,st5,fr5⟩=>?_)
  obtain⟨e5,d,ed,iv⟩:=yl y H5 y5
  subst e5
  have iv':=iv F3 fun b hb=>E3.old b hb
  have hdrop:ds.drop j=d::ds.drop (j+1):=by
   rw[List.drop_eq_getElem_cons hlt]
   have:ds[j]=d:=by
    have:=List.getElem?_eq_getElem hlt
    rw[ed] at this;exact(Option.some.inj this).symm
   rw[this]
  have I5':=I5.pinned (stat fr5) (T.obj _ _ st5)
  have hpg:PG X.nox (.Name x px) (y7t i):=z6u (X:=X.nox) hN hix hx hf
  refine wpAny_passesOwn hp' (wpAny_mono (hpg _ s5 σ3 H5 y u (fun σ' H'=>σ'=σ3.set i (some y)/\H'=H5) (I5'.wish _) r5 ⟨rfl,rfl⟩) (fun _ s6 ⟨σ6,H6,I6,e6,e6'⟩=>?_) fun _ _ z=>False.elim z)
  subst e6 e6'
  have evd:z4h gb i (d::ds.drop (j+1)) Γ3=z4h gb i ds Γ:=by rw[<-hdrop];exact ev3
  have hgb:gb (Γ3.set i (.ro d)) ≠ .no:=fun z=>by
   rw[<-evd] at hg
   unfold z4h at hg
   rw[z] at hg
   exact hg rfl
  have back:∀{s7:Shared} {σ7:St} {H7:Hp},Inv X (pins++y2s fp s5.heap) σ7 H7 s7->Inv X pins σ7 H7 s7/\tn (j+1) s7.heap/\∀b∈fp,H7 b=none:=fun {s7 σ7 H7} I7=>by
   refine⟨I7.unpinned,T.keep _ _ _ st5 fun b hb o e=>(I7.pin (b,o) (List.mem_append_right _ (List.mem_append_right _ (z2x hb e)))).1,fun b hb=>?_⟩
   obtain⟨o,e,dd⟩:=T.obj _ _ st5 b hb
   exact(I7.pin (b,o) (List.mem_append_right _ (List.mem_append_right _ (z2x hb e)))).2.1
  refine wpAny_passesOwn hp' (wpAny_mono (hb.run _ s6 _ H6 F3 _ I6.unwish fo3 (rl3.set_ro iv') hgb) (fun f s7 q7=>?_) fun x7 s7 q7=>?_)
  ·cases f with
   | next =>
     obtain⟨Γ7,e7,σ7,H7,F7,I7,fo7,rl7,E7⟩:=q7
     obtain⟨b1,b2,b3⟩:=back I7
     refine⟨ds.length-(j+1),by lia,j+1,σ7,H7,F7,Γ7,rfl,hlt,b1,b2,b3,fo7,rl7,E3.trans E7,?_⟩
     rw[<-evd]
     conv=>rhs;unfold z4h
     rw[e7]
   | cont =>
     obtain⟨Γ7,e7,σ7,H7,F7,I7,fo7,rl7,E7⟩:=q7
     obtain⟨b1,b2,b3⟩:=back I7
     refine⟨ds.length-(j+1),by lia,j+1,σ7,H7,F7,Γ7,rfl,hlt,b1,b2,b3,fo7,rl7,E3.trans E7,?_⟩
     rw[<-evd]
     conv=>rhs;unfold z4h
     rw[e7]
   | brk =>
     obtain⟨Γ7,e7,σ7,H7,F7,I7,fo7,rl7,E7⟩:=q7
     refine⟨Γ7,?_,σ7,H7,F7,I7.unpinned,fo7,rl7,E03.trans E7⟩
     rw[<-evd]
     conv=>lhs;unfold z4h
     rw[e7]
   | ret v7 =>
     refine RtP.map q7 E03 (fun _ _ I7=>I7.unpinned) (fun d7 e7=>?_) fun d7 e7=>?_
     ·rw[<-evd]
      conv=>lhs;unfold z4h
      rw[e7]
     ·rw[<-evd]
      conv=>lhs;unfold z4h
      rw[e7]
  ·obtain⟨c7,Γ7,σ7,H7,F7,e7,fl7,fo7,rl7,E7⟩:=q7
   refine⟨c7,Γ7,σ7,H7,F7,?_,?_,fo7,rl7,E03.trans E7⟩
   ·rw[<-evd]
    conv=>lhs;unfold z4h
    rw[e7]
   ·obtain⟨I7,e',C',oe,vs,q1,q2,q3,q4,q5,q6,q7',q8⟩:=fl7
    refine⟨I7.unpinned,e',C',oe,vs,q1,q2,q3,q4,q5,q6,fun p hp2=>q7' p ?_,?_⟩
    ·rcases List.mem_append.mp hp2 with z | z
     ·exact List.mem_append_left _ z
     ·exact List.mem_append_right _ (List.mem_append_left _ z)
    ·obtain⟨w1,w2,w3,w4,w5⟩:=q8
     refine⟨w1,w2,w3,w4,?_⟩
     rcases w5 with w5 | ⟨T',oT,ts,z1,z2,z3,z4,z5,z6,z7⟩
     ·exact .inl w5
     ·refine .inr ⟨T',oT,ts,z1,z2,z3,z4,z5,fun p hp2=>z6 p ?_,z7⟩
      rcases List.mem_append.mp hp2 with z | z
      ·exact List.mem_append_left _ z
      ·exact List.mem_append_right _ (List.mem_append_left _ z)
 ·have ej:j=ds.length:=by lia
  subst ej
  refine wpAny_passesOwn hp' (thn (T.done X rfl rfl rfl hcalm _ pins s3 σ3 H3 _ I3 (stat fr3) t3 jstop) fun r s4 ⟨hr,I4⟩=>?_)
  subst hr
  rw[List.drop_length] at ev3
  exact wpAny_execs_nil ⟨Γ3,ev3.symm,σ3,H3,F3,I4,fo3,rl3,E03⟩
theorem z6p(n:Nat){cnd:Expr}{body:List Stmt}{gc:G->R Bool}{gb:G->R Fl}(hp:PO' X)(hc:PTD X cnd gc)(hb:PQs X body gb):PQ X (.While cnd body [] pos) (whGo gc gb n):=by
 refine⟨fun pins s σ H F Γ I fo rl hg=>?_⟩
 have hp':=hp pins H F (whGo gc gb n Γ)
 refine wpAny_While (codeAny_whileLoop (fun m s'=>∃(σ':St) (H':Hp) (F':List Addr) (Γ':G),Inv X pins σ' H' s'/\FOk H' F'/\Rel X.K H' F' Γ' σ'/\Ext H F H' F'/\whGo gc gb m Γ'=whGo gc gb n Γ) ?_ n ⟨σ,H,F,Γ,I,fo,rl,.refl,rfl⟩)
 rintro m s1 ⟨σ1,H1,F1,Γ1,I1,fo1,rl1,E1,ev1⟩
 have hg1:whGo gc gb m Γ1 ≠ .no:=by rw[ev1];exact hg
 cases m with
 | zero=>exact absurd rfl hg1
 | succ m =>
   have evu:whGo gc gb (m+1) Γ1=lift (gc Γ1) Γ1 fun k=>if k=true then (match gb Γ1 with
    | .ok (.nx Γ')=>whGo gc gb m Γ'
    | .ok (.ct Γ')=>whGo gc gb m Γ'
    | .ok (.bk Γ')=>.ok (.nx Γ')
    | .ok (.rt d)=>.ok (.rt d)
    | .ok (.rtF d)=>.ok (.rtF d)
    | .ok (.ex c Γ')=>.ok (.ex c Γ')
    | _=>.no) else .ok (.nx Γ1):=rfl
   rw[evu] at hg1 ev1
   refine wpAny_passesOwn hp' (wpAny_mono (hc.run pins s1 σ1 H1 F1 Γ1 I1 fo1 rl1 (z2d hg1)) (fun k s2 ⟨H2,e2,I2,S2⟩=>?_) fun _ _ x=>by rw[<-ev1];exact(x.lift fo1 rl1 _).later E1)
   rw[z4b e2] at hg1 ev1
   cases k with
   | false =>
     rw[if_neg Bool.false_ne_true] at ev1 ⊢
     exact wpAny_execs_nil ⟨Γ1,ev1.symm,σ1,H2,F1,I2,fo1.same S2,rl1.same S2,E1.trans (.of_same S2)⟩
   | true =>
     rw[if_pos rfl] at ev1 hg1 ⊢
     have hgb:gb Γ1 ≠ .no:=fun z=>by rw[z] at hg1;exact hg1 rfl
     refine wpAny_passesOwn hp' (wpAny_mono (hb.run pins s2 σ1 H2 F1 Γ1 I2 (fo1.same S2) (rl1.same S2) hgb) (fun f s3 q3=>?_) fun x3 s3 q3=>?_)
     ·cases f with
      | next =>
        obtain⟨Γ7,e7,σ7,H7,F7,I7,fo7,rl7,E7⟩:=q3
        rw[e7] at ev1
        exact⟨m,Nat.lt_succ_self _,σ7,H7,F7,Γ7,I7,fo7,rl7,(E1.trans (.of_same S2)).trans E7,ev1⟩
      | cont =>
        obtain⟨Γ7,e7,σ7,H7,F7,I7,fo7,rl7,E7⟩:=q3
        rw[e7] at ev1
        exact⟨m,Nat.lt_succ_self _,σ7,H7,F7,Γ7,I7,fo7,rl7,(E1.trans (.of_same S2)).trans E7,ev1⟩
      | brk =>
        obtain⟨Γ7,e7,σ7,H7,F7,I7,fo7,rl7,E7⟩:=q3
        rw[e7] at ev1
        exact⟨Γ7,ev1.symm,σ7,H7,F7,I7,fo7,rl7,(E1.trans (.of_same S2)).trans E7⟩
      | ret v =>
        exact RtP.map q3 (E1.trans (.of_same S2)) (fun _ _ I7=>I7) (fun d7 e7=>by rw[e7] at ev1;exact ev1.symm) fun d7 e7=>by rw[e7] at ev1;exact ev1.symm
     ·obtain⟨c7,Γ7,σ7,H7,F7,e7,fl7,fo7,rl7,E7⟩:=q3
      rw[e7] at ev1
      exact⟨c7,Γ7,σ7,H7,F7,ev1.symm,fl7,fo7,rl7,(E1.trans (.of_same S2)).trans E7⟩
end
noncomputable def y1x(X:Cx)(pins:List (Addr×Obj))(σ:St)(H:Hp)(c:Er)(x:Value)(s:Shared)(fl:Value):Prop :=
 Inv X pins σ H s/\∃(e C:Addr) (oe:Obj) (vs:Array Value),x = .ref e/\X.mg c.nm=some (.ref C)/\H e=none/\X.s₀.heap.get? e=none/\e≠X.env.locals/\(∀y k,X.env.cells.lookup y=some k->k≠e)/\(∀p∈X.pn++pins,p.1≠e) /\
  s.heap.get? e=some oe/\oe.cls = .ref C/\oe.data = .fields vs/\(∃a0,vs[0]? = some a0) /\
  ∃(T:Addr) (oT:Obj) (ts:Array Value),vs[1]? = some (.ref T)/\H T=none/\X.s₀.heap.get? T=none/\T≠X.env.locals/\(∀y k,X.env.cells.lookup y=some k->k≠T)/\(∀p∈X.pn++pins,p.1≠T)/\T≠e /\
   s.heap.get? T=some oT/\oT.data = .fields ts/\ts[3]? = some fl
section
variable {X:Cx}{pins:List (Addr×Obj)}{σ:St}{H:Hp}{c:Er}{x:Value}{s:Shared}{E:Value->Shared->Prop}{Q:Unit->Shared->Prop}
theorem y1x.here{L:Addr}(hf:X.env.frame=some L)(h:y1x X pins σ H c x s (rawInt L)):y8p X pins σ H c x s:=by
 obtain⟨I,e,C,oe,vs,h1,h2,h3,h4,h5,h6,h7,h8,h9,h10,h11,T,oT,ts,k1,k2,k3,k4,k5,k6,k7,k8,k9,k10⟩:=h
 exact⟨I,e,C,oe,vs,h1,h2,h3,h4,h5,h6,h7,h8,h9,h10,h11,.inr ⟨T,oT,ts,k1,k2,k3,k4,k5,k6,k7,k8,k9,.inr ⟨L,hf,k10⟩⟩⟩
theorem w0r{P:Program}{w:World}{H:Hp}{h:Heap}{a:Addr}{o:HO}(x:z7k P w H h a o):∃ob,h.get? a=some ob:=by
 cases o with
 | lst xs=>obtain⟨_,_,_,_,e⟩:=x;exact⟨_,e⟩
 | tup xs=>obtain⟨_,_,_,ob,e,_⟩:=x;exact⟨_,e⟩
 | dK kvs=>obtain⟨_,_,_,_,o,_,_,e,_⟩:=x;exact⟨_,e⟩
 | dT kvs=>obtain⟨_,_,_,_,o,_,_,e,_⟩:=x;exact⟨_,e⟩
 | set S n=>obtain⟨o,_,_,_,e,_⟩:=x;exact⟨_,e⟩
 | ins C dx fs=>obtain⟨_,_,_,e,_⟩:=x;exact⟨_,e⟩
 | own y=>exact x
 | xd fs=>obtain⟨_,⟨_,_,_,e,_⟩,_⟩:=x;exact⟨_,e⟩
 | rng lo hi=>obtain⟨_,_,_,e⟩:=x;exact⟨_,e⟩
 | frz ob u=>obtain⟨e,_⟩:=x;exact⟨_,e⟩
 | tbl ps=>exact⟨_,x⟩
 | met f y=>exact⟨_,x⟩
 | ext φ=>exact x.2.1
theorem Inv.recs{ch:List Addr}{h':Heap}(I:Inv X pins σ H s)(hch:∀b∈ch,H b=none/\X.s₀.heap.get? b=none/\b≠X.env.locals/\(∀y k,X.env.cells.lookup y=some k->k≠b)/\∀p∈X.pn++pins,p.1≠b)
 (keep:∀b o,b ∉ frs X.stack->b ∉ ch->s.heap.get? b=some o->h'.get? b=some o) (slot:∀b o,b ∉ ch->s.heap.get? b=some o->∃sl,h'.get? b=some { o with slots:=sl }):Inv X pins σ H { s with heap:=h' }:=by
 refine I.call (g':=s.gens) (t':=s.toks) (d':=s.drawn) (ch:=ch) ⟨fun b o e _ hb hc=>keep b o hb hc e,fun b o e _ _ hc=>slot b o hc e,fun _ _ _ n _=>n,fun b o e hc=>let ⟨sl,q⟩:=slot b o hc e;⟨_,q⟩,fun _ _ q=>q,fun _ _ _ q=>q,fun _ ps q=>⟨#[],by rw[q];simp⟩⟩ (fun b u e=>?_) I.bare fun b hb=>?_
 ·have tr:∀d w',H d=some w'->d ∉ frs X.stack/\d ∉ ch:=fun d w' q=>by
   refine⟨fun z=>?_,fun z=>?_⟩
   ·rw[I.stkFree d z] at q;cases q
   ·rw[(hch d z).1] at q;cases q
  refine(I.hok b u e).stay (fun d v hd q=>?_) (fun _ q=>q) fun _ _ q=>q
  rcases hd with z | z
  ·rw[z] at q ⊢;exact keep b v (tr b u e).1 (tr b u e).2 q
  ·exact keep d v (tr d _ z).1 (tr d _ z).2 q
 ·obtain⟨h1,h2,h3,h4,h5⟩:=hch b hb
  exact⟨.inr h2,h3,h4,h5⟩
noncomputable def hx(l:List Addr):Hp:=fun b=>if b∈l then some (.own 0) else none
theorem w7c{l:List Addr}{b:Addr}(h:b∈l):hx l b=some (.own 0):=by unfold hx;rw[if_pos h]
theorem w0z{l:List Addr}{b:Addr}(h:b ∉ l):hx l b=none:=by unfold hx;rw[if_neg h]
theorem z8r{h:Heap}{l:List Addr}{b:Addr}(hb:b∈l):(hidT h (hx l)).get? b=none:=by
 cases q:(hidT h (hx l)).get? b with
 | none=>rfl
 | some o =>
   have z:=(y9h q).2
   rw[w7c hb] at z;cases z
theorem y7o{L e C:Addr}{a0:Value}{ch:List Addr}{h':Heap}(hex:X.ex=[])(I:Inv X pins σ H s)(hmg:X.mg c.nm=some (.ref C))(he:e∈ch)(hch:∀b∈ch,H b=none/\X.s₀.heap.get? b=none/\b≠X.env.locals/\(∀y k,X.env.cells.lookup y=some k->k≠b)/\∀p∈X.pn++pins,p.1≠b)
 (hN:Heap.NotedW (hidT s.heap (hx (frs X.stack++ch))) X.stack e (.ref C) a0 (rawInt L) s.heap h'):y1x X pins σ H c (.ref e) { s with heap:=h' } (rawInt L):=by
 obtain⟨st,ff,⟨oe',vs',T',oT',ts',q1,⟨q2,q2'⟩,q3,q4,q5,q6,q7,q8,q9⟩,up⟩:=hN
 have keep:∀b o,b ∉ frs X.stack->b ∉ ch->s.heap.get? b=some o->h'.get? b=some o:=fun b o h1 h2 q=>st b o (y6d q (w0z fun z=>(List.mem_append.mp z).elim h1 h2))
 have slot:∀b o,b ∉ ch->s.heap.get? b=some o->∃sl,h'.get? b=some { o with slots:=sl }:=fun b o h2 q=>by
  by_cases hb:b∈frs X.stack
  ·obtain⟨_,o',ho',hnf⟩:=I.stack.mem hb
   rw[q] at ho';cases ho'
   exact up b o q hnf
  ·exact⟨o.slots,keep b o hb h2 q⟩
 have hT:H T'=none/\X.s₀.heap.get? T'=none/\T'≠X.env.locals/\(∀y k,X.env.cells.lookup y=some k->k≠T')/\∀p∈X.pn++pins,p.1≠T':=by
  cases q:s.heap.get? T' with
  | none =>
    refine⟨?_,I.gone hex q⟩
    cases z:H T' with
    | none=>rfl
    | some u =>
      obtain⟨o,eo⟩:=w0r (I.hok T' u z)
      rw[q] at eo;cases eo
  | some o =>
    have hin:T'∈frs X.stack++ch:=by
     by_cases z:T'∈frs X.stack++ch
     ·exact z
     ·have:=y6d q (w0z z)
      rw[q5] at this;cases this
    rcases List.mem_append.mp hin with z | z
    ·exfalso
     obtain⟨_,o',ho',hnf⟩:=I.stack.mem z
     rw[q] at ho';cases ho'
     obtain⟨sl,e1⟩:=up T' o q hnf
     rw[q7] at e1;cases e1
     exact hnf _ q8
    ·exact hch T' z
 obtain⟨f1,f2,f3,f4,f5⟩:=hch e he
 obtain⟨g1,g2,g3,g4,g5⟩:=hT
 exact⟨Inv.recs I hch keep slot,e,C,oe',vs',rfl,hmg,f1,f2,f3,f4,f5,q1,q2,q3,⟨a0,q2'⟩,T',oT',ts',q4,g1,g2,g3,g4,g5,q6,q7,q8,q9⟩
theorem x1b{M:Model}{L:Addr}(hex:X.ex=[])(hstk:X.stack=X.env::X.outer)(hf:X.env.frame=some L)(h:y8p X pins σ H c x s)(hQ:∀s',y1x X pins σ H c x s' (rawInt L)->Q () s'):wpAny M X.A (noteFrame x X.env) Q E s:=by
 obtain⟨I,e,C,oe,vs,h1,h2,h3,h4,h5,h6,h7,h8,h9,h10,h11,h12⟩:=h
 subst h1
 obtain⟨a0,h11⟩:=h11
 have hfr:X.A.frames=some (X.env::X.outer):=by rw[<-hstk];exact I.ok.frames
 have nfe:∀{b:Addr} {o:Obj} {ws:Array Value},s.heap.get? b=some o->o.data = .fields ws->b ∉ frs X.stack:=fun {b o ws} q1 q2 z=>by
  obtain⟨_,o',ho',hnf⟩:=I.stack.mem z
  rw[q1] at ho';cases ho'
  exact hnf _ q2
 have hl:∀ch:List Addr,s.heap.FunFrames (hidT s.heap (hx (frs X.stack++ch))) (X.env::X.outer):=fun ch=>by
  have gen:∀(l:List Env),(∀b∈frs l,b∈frs X.stack)->s.heap.FunFrames X.base l->s.heap.FunFrames (hidT s.heap (hx (frs X.stack++ch))) l:=by
   intro l
   induction l with
   | nil=>intro _ _;trivial
   | cons env r ih =>
     intro hs ⟨hk,⟨L',o,hf',hn,ho,hd⟩,hr⟩
     have m1:∀b∈frs r,b∈frs (env::r):=fun b hb=>by unfold frs at hb ⊢;rw[List.filterMap_cons,hf'];exact List.mem_cons_of_mem _ hb
     have m0:L'∈frs (env::r):=by unfold frs;rw[List.filterMap_cons,hf'];exact List.mem_cons_self
     exact⟨hk,⟨L',o,hf',z8r (List.mem_append_left _ (hs L' m0)),ho,hd⟩,ih (fun b hb=>hs b (m1 b hb)) hr⟩
  rw[<-hstk]
  exact gen X.stack (fun _ h=>h) I.stack
 have stays:∀ch:List Addr,(hidT s.heap (hx (frs X.stack++ch))).StaysIn s.heap:=fun ch b o q=>(y9h q).1
 rcases h12 with h12 | ⟨T,oT,ts,k1,k2,k3,k4,k5,k6,k7,k8,k9,k10⟩
 ·have hsz:1<vs.size:=(Array.getElem?_eq_some_iff.mp h12).1
  unfold noteFrame
  simp only[hf]
  refine wpAny_bind (wpAny_field h8 h10 h12 ?_)
  rw[if_neg (by decide)]
  refine wpAny_entryW hfr (hl [e]) hf h8 (stays [e]) (z8r (by simp)) h10 hsz h11 fun h' hN=>hQ _ ?_
  rw[h9,<-hstk] at hN
  refine y7o (ch:=[e]) hex I h2 (by simp) (fun b hb=>?_) hN
  have:b=e:=by simpa using hb
  subst this
  exact⟨h3,h4,h5,h6,h7⟩
 ·have hcc:∀b∈[e,T],H b=none/\X.s₀.heap.get? b=none/\b≠X.env.locals/\(∀y k,X.env.cells.lookup y=some k->k≠b)/\∀p∈X.pn++pins,p.1≠b:=fun b hb=>by
   have:b=e∨b=T:=by simpa using hb
   rcases this with rfl | rfl
   ·exact⟨h3,h4,h5,h6,h7⟩
   ·exact⟨k2,k3,k4,k5,k6⟩
  rcases k10 with k10 | ⟨L',hL',k10⟩
  ·refine wpAny_noteFrame_onW (cls:=.ref C) (a0:=a0) hfr (hl [e,T]) hf ⟨oe,vs,T,oT,ts,h8,⟨h9,h11⟩,h10,k1,z8r (by simp),k7,k8,k9,k10⟩ (stays [e,T]) (z8r (by simp)) fun h' hN=>hQ _ ?_
   rw[<-hstk] at hN
   exact y7o (ch:=[e,T]) hex I h2 (by simp) hcc hN
  ·rw[hf] at hL';cases hL'
   refine wpAny_noteFrame_againW (base:=hidT s.heap (hx (frs X.stack++[e,T]))) (cls:=.ref C) (a0:=a0) hf ⟨oe,vs,T,oT,ts,h8,⟨h9,h11⟩,h10,k1,z8r (by simp),k7,k8,k9,k10⟩ (hQ s ?_)
   exact⟨I,e,C,oe,vs,rfl,h2,h3,h4,h5,h6,h7,h8,h9,h10,⟨a0,h11⟩,T,oT,ts,k1,k2,k3,k4,k5,k6,k7,k8,k9,k10⟩
theorem x6f{M:Model}{A:Around}{fl:Value}{fr:Option Addr}(h:y1x X pins σ H c x s fl)(hQ:∀s',y1x X pins σ H c x s' (fr.elim .none fun f=>rawInt f)->Q () s'):wpAny M A (setFlight x fr) Q E s:=by
 obtain⟨I,e,C,oe,vs,h1,h2,h3,h4,h5,h6,h7,h8,h9,h10,h11,T,oT,ts,k1,k2,k3,k4,k5,k6,k7,k8,k9,k10⟩:=h
 subst h1
 have hsz3:3<ts.size:=(Array.getElem?_eq_some_iff.mp k10).1
 have other:∀b,b≠T->(s.heap.update T (Obj.mapFields (·.setIfInBounds 3 (fr.elim Value.none fun f=>rawInt f)))).get? b=s.heap.get? b:=fun b hb=>Heap.get?_update_other _ _ (Ne.symm hb)
 unfold setFlight
 refine wpAny_bind (wpAny_field h8 h10 k1 ?_)
 rw[if_pos (show(Value.ref T != Value.none)=true from by simp)]
 refine wpAny_setField k8 k9 hsz3 (hQ _ ⟨Inv.recs (ch:=[T]) I (fun b hb=>?_) (fun b o hb hc q=>?_) (fun b o hc q=>?_),e,C,oe,vs,rfl,h2,h3,h4,h5,h6,h7,(other e (Ne.symm k7)).trans h8,h9,h10,h11,T,_,_,k1,k2,k3,k4,k5,k6,k7,
  Heap.get?_update_self _ k8 (Obj.isFreed_of_fields (Obj.data_mapFields k9 _)),Obj.data_mapFields k9 _,by simp[hsz3]⟩)
 ·have:b=T:=by simpa using hb
  subst this
  exact⟨k2,k3,k4,k5,k6⟩
 ·have hc':b≠T:=by simpa using hc
  exact(other b hc').trans q
 ·have hc':b≠T:=by simpa using hc
  exact⟨o.slots,(other b hc').trans q⟩
theorem w6o{L:Addr}(hex:X.ex=[])(hstk:X.stack=X.env::X.outer)(hf:X.env.frame=some L):PO' X:=fun pins H F r e s' h=>by
 obtain⟨c,Γ',σ',H',F',e1,fl,fo,rl,Ex⟩:=h
 refine x1b hex hstk hf fl fun s1 f1=>?_
 obtain⟨I,e',C,oe,vs,h1,h2,h3,h4,h5,h6,h7,h8,h9,h10,h11,T,oT,ts,k1,kr⟩:=id f1
 subst h1
 show wpAny _ _ _ _ _ _
 refine wpAny_bind (wpAny_field h8 h10 k1 ?_)
 rw[if_neg (show ¬((Value.ref T==Value.none)=true) from by simp)]
 rw[hf]
 exact x6f f1 fun s2 f2=>⟨c,Γ',σ',H',F',e1,f2.here hf,fo,rl,Ex⟩
end
theorem w3l{H:Hp}:hid [] H=H:=by funext b;unfold hid;simp
theorem y7g{K:PySem.W.Frag}{H:Hp}{N:List Str}{ds:List D}{vs:List V}(i:IsAll K H ds vs):Rel K H [] (ini N.length ds) (L2.start N vs):=by
 have hl:=i.length
 have key:∀(j:Nat) (en:En),(ini N.length ds)[j]? = some en->(∃d,en = .ro d/\ds[j]? = some d)∨en = .no:=fun j en h=>by
  unfold ini at h
  by_cases hj:j<ds.length
  ·rw[List.getElem?_append_left (by simpa using hj),List.getElem?_map,List.getElem?_eq_getElem hj] at h
   cases h
   exact .inl ⟨_,rfl,List.getElem?_eq_getElem hj⟩
  ·rw[List.getElem?_append_right (by simpa using hj),List.getElem?_replicate] at h
   split at h
   ·cases h;exact .inr rfl
   ·cases h
 refine⟨?_,fun j d h=>?_,fun j es h=>?_,fun j k es fs a h1 _ _ _=>?_⟩
 ·unfold ini L2.start
  simp[hl]
 ·rcases key j _ h with ⟨d',e,hd⟩ | e
  ·cases e
   obtain⟨v,hv,iv⟩:=i.get hd
   refine⟨v,?_,by rw[w3l];exact iv⟩
   unfold L2.start
   rw[List.getElem?_append_left (by rw[List.length_map];exact(List.getElem?_eq_some_iff.mp hv).1),List.getElem?_map,hv];rfl
  ·cases e
 ·rcases key j _ h with ⟨d',e,_⟩ | e<;>cases e
 ·rcases key j _ h1 with ⟨d',e,_⟩ | e<;>cases e
section
variable {P:Program}{w:World}{K:PySem.W.Frag}{mg:Str->Option Value}{base:Heap}
noncomputable abbrev z7j (P:Program) (w:World) (K:PySem.W.Frag) (mg:Str->Option Value) (base:Heap) (N:List Str) (qual:Str) (st:Stmt) (f:Addr) (cdv:Value) (A:Around) (outer:List Env) (s:Shared) (H:Hp) (E:XK):Cx :=
 cxOf (CXE P w) P w K mg base N qual (z0h st) f cdv A outer s H E
theorem x5j{N:List Str}{qual:Str}{st:Stmt}{f:Addr}{cdv:Value}{A:Around}{outer:List Env}{s s':Shared}{H H':Hp}{E:XK}{pins:List (Addr×Obj)}{σ':St}{F':List Addr}{c:Er}{x:Value}
 (fl:y8p (z7j P w K mg base N qual st f cdv A outer s H E) pins σ' H' c x s') (hE:∀C,mg c.nm=some (.ref C)->E (.ref C) none H'):(z7j P w K mg base N qual st f cdv A outer s H E).xe x s':=by
 show wpAny _ _ (leaving _ x) _ _ s'
 unfold leaving
 refine wpAny_bind (x1b (L:=s.heap.objs.size) rfl rfl rfl fl fun s1 f1=>?_)
 refine x6f (fr:=none) f1 fun s2 f2=>?_
 obtain⟨I,e,C,oe,vs,h1,h2,h3,h4,h5,h6,h7,h8,h9,h10,h11,T,oT,ts,k1,k2,k3,k4,k5,k6,k7,k8,k9,k10⟩:=f2
 exact⟨e,C,T,oe,oT,vs,ts,H',h1,I.os,I.bare,I.base,I.hok,h3,h4,h8,h9,h10,h11,k1,k2,k3,k7,k8,k9,k10,hE C h2⟩
theorem x1a{x qual:Str}{st:Stmt}{f:Addr}{fd:FuncData}{N ps:List Str}{k:Nat}{φ:List D->R D}(Fu:Fun K x qual st f fd)(S:FnScope N ps (z0h st))(hb:y4l K fd ps [])(hlen:∀ds,φ ds ≠ .no->ds.length=ps.length)
 (hbody:∀(cdv:Value) (A:Around) (outer:List Env) (s:Shared) (H:Hp) (E:XK),Room k (z7j P w K mg base N qual st f cdv A outer s H E).A->∃g,PQs (z7j P w K mg base N qual st f cdv A outer s H E) (z6y st) g/\∀ds,φ ds ≠ .no->fin (g (ini N.length ds))=φ ds) :
 FnD P w K mg base (k+1) f fd ps φ:=by
 refine⟨?_,hb,Fu.kp⟩
 obtain⟨oc,od,kV,doc,pm,an,cdv,ct,osl,rfl,lk,hcd⟩:=Fu.ex
 refine x9b lk hcd S (fun vs H Q E h=>?_) fun A outer s H vs Q E hr hsp=>?_
 ·obtain⟨ds,i,hne,_⟩:=h
  rw[<-i.length];exact hlen ds hne
 obtain⟨g,hq,hg⟩:=hbody cdv A outer s H E hr
 obtain⟨ds,i,hne,hok,her⟩:=hsp
 have e0:=hg ds hne
 refine⟨fun D' σ' H'=>D'={ nx:=fun _ H'=>Q .non H',rt:=Q }/\σ'=L2.start N vs/\H'=H,?_,rfl,rfl,rfl⟩
 intro pins s1 σ1 H1 D1 I hw
 obtain⟨rfl,rfl,rfl⟩:=hw
 have hgne:g (ini N.length ds) ≠ .no:=fun z=>hne (by rw[<-e0,z];rfl)
 refine wpAny_mono (hq.run pins s1 (L2.start N vs) H1 [] (ini N.length ds) I FOk.nil (y7g i) hgne) (fun fl s' q=>?_) fun x' s' q=>?_
 ·cases fl with
  | next =>
    obtain⟨Γ',e1,σ',H',F',I',_,_,Ex⟩:=q
    exact⟨σ',H',I',hok .non .non H' (by rw[<-e0,e1];rfl) Ex.same (Is.non_iff.mpr rfl)⟩
  | ret u =>
    obtain⟨v,σ',H',F',I',rv,Ex,⟨d,e1,iv⟩ | ⟨es,a,xs,e1,ev,hn,ha,ia⟩⟩:=q
    ·exact⟨v,σ',H',I',rv,hok d v H' (by rw[<-e0,e1];rfl) Ex.same iv⟩
    ·exact absurd (by rw[<-e0,e1];rfl) hne
  | brk=>obtain⟨Γ',e1,_⟩:=q;exact absurd (by rw[<-e0,e1];rfl) hne
  | cont=>obtain⟨Γ',e1,_⟩:=q;exact absurd (by rw[<-e0,e1];rfl) hne
 ·obtain⟨c,Γ',σ',H',F',e1,fl,fo,rl,Ex⟩:=q
  exact x5j (F':=F') fl fun C hC=>her c C H' (by rw[<-e0,e1];rfl) hC Ex.same
theorem w5v{x qual:Str}{st:Stmt}{f:Addr}{fd:FuncData}{N ps:List Str}{k:Nat}{φ:List D->R (List D)}(Fu:Fun K x qual st f fd)(S:FnScope N ps (z0h st))(hb:y4l K fd ps [])(hlen:∀ds,φ ds ≠ .no->ds.length=ps.length)
 (hbody:∀(cdv:Value) (A:Around) (outer:List Env) (s:Shared) (H:Hp) (E:XK),Room k (z7j P w K mg base N qual st f cdv A outer s H E).A->∃g,PQs (z7j P w K mg base N qual st f cdv A outer s H E) (z6y st) g/\∀ds,φ ds ≠ .no->finF (g (ini N.length ds))=φ ds) :
 FnF P w K mg base (k+1) f fd ps φ:=by
 refine⟨?_,hb,Fu.kp⟩
 obtain⟨oc,od,kV,doc,pm,an,cdv,ct,osl,rfl,lk,hcd⟩:=Fu.ex
 refine x9b lk hcd S (fun vs H Q E h=>?_) fun A outer s H vs Q E hr hsp=>?_
 ·obtain⟨ds,i,hne,_⟩:=h
  rw[<-i.length];exact hlen ds hne
 obtain⟨g,hq,hg⟩:=hbody cdv A outer s H E hr
 obtain⟨ds,i,hne,hok,her⟩:=hsp
 have e0:=hg ds hne
 refine⟨fun D' σ' H'=>D'={ nx:=fun _ H'=>Q .non H',rt:=Q }/\σ'=L2.start N vs/\H'=H,?_,rfl,rfl,rfl⟩
 intro pins s1 σ1 H1 D1 I hw
 obtain⟨rfl,rfl,rfl⟩:=hw
 have hgne:g (ini N.length ds) ≠ .no:=fun z=>hne (by rw[<-e0,z];rfl)
 refine wpAny_mono (hq.run pins s1 (L2.start N vs) H1 [] (ini N.length ds) I FOk.nil (y7g i) hgne) (fun fl s' q=>?_) fun x' s' q=>?_
 ·cases fl with
  | next =>
    obtain⟨Γ',e1,_⟩:=q
    exact absurd (by rw[<-e0,e1];rfl) hne
  | ret u =>
    obtain⟨v,σ',H',F',I',rv,Ex,⟨d,e1,iv⟩ | ⟨es,a,xs,e1,ev,hn,ha,ia⟩⟩:=q
    ·exact absurd (by rw[<-e0,e1];rfl) hne
    ·subst ev
     exact⟨.ref a,σ',H',I',rv,hok es a xs H' (by rw[<-e0,e1];rfl) Ex.same (hn.elim (fun z=>absurd z (by simp)) fun z=>z) ha ia⟩
  | brk=>obtain⟨Γ',e1,_⟩:=q;exact absurd (by rw[<-e0,e1];rfl) hne
  | cont=>obtain⟨Γ',e1,_⟩:=q;exact absurd (by rw[<-e0,e1];rfl) hne
 ·obtain⟨c,Γ',σ',H',F',e1,fl,fo,rl,Ex⟩:=q
  exact x5j (F':=F') fl fun C hC=>her c C H' (by rw[<-e0,e1];rfl) hC Ex.same
theorem z1y{N:List Str}{qual:Str}{st:Stmt}{f:Addr}{cdv:Value}{A:Around}{outer:List Env}{s:Shared}{H:Hp}{E:XK}:PO' (z7j P w K mg base N qual st f cdv A outer s H E):=w6o (L:=s.heap.objs.size) rfl rfl rfl
end
section
variable {X:Cx}{e a b c:Expr}{g ga gb gc:G->R D}{pos p:Pos}
noncomputable def isIC:Expr->Bool
 | .Constant (.int _) _ _=>true
 | _=>false
noncomputable def icD:Expr->D
 | .Constant (.int i) _ _=>.int i
 | _=>.non
theorem x2f{es:List Expr}(h:es.all isIC=true:=by rfl):PAD X es (fun _=>.ok (es.map icD)):=by
 induction es with
 | nil=>exact z0d
 | cons e es ih =>
   have h1:isIC e=true/\es.all isIC=true:=by simpa using h
   have h2:=ih h1.2
   cases e with
   | Constant c j q =>
     cases c with
     | int i =>
       refine⟨fun pos pins s σ H F Γ I fo rl hg=>?_⟩
       exact(z0a (X:=X) (e:=.Constant (.int i) j q) z0e h2 (by rfl)).run pos pins s σ H F Γ I fo rl (fun z=>nomatch z)
     | _=>exact absurd h1.1 (by simp[isIC])
   | _=>exact absurd h1.1 (by simp[isIC])
theorem w5q{pins:List (Addr×Obj)}{σ:St}{H:Hp}{s:Shared}{A:Around}{E:Value->Shared->Prop}{Q:Value->Shared->Prop}{d:D}{v:V}{u cv:Value}{b:Bool}(I:Inv X pins σ H s)(hnx:d.noX=true)(i:Is X.K H d v)(r:RelV v u)(e:PySem.W.kitOne X.K (.type d.ty) cv=some b)(h:∀tk,Q (.bool b) { s with toks:=tk }) :
 wpAny (model X.prog X.w) A (call (.builtin "isinstance") [u,cv]) Q E s:=by
 cases d with
 | non=>rw[Is.non_iff.mp i] at r;cases (show u=Value.none from r);exact PySem.W.kia_one PySem.W.kitx_none I.kIn True.intro e (fun z=>nomatch z) h
 | bl y=>rw[Is.bl_iff.mp i] at r;cases (show u=Value.bool y from r);exact PySem.W.kia_one PySem.W.kitx_bool I.kIn True.intro e (fun z=>nomatch z) h
 | int y=>rw[Is.int_iff.mp i] at r;obtain⟨t,q⟩:=(show ∃t,u=Value.int y t from r);cases q;exact PySem.W.kia_one PySem.W.kitx_int I.kIn True.intro e (fun z=>nomatch z) h
 | str y=>rw[Is.str_iff.mp i] at r;obtain⟨t,q⟩:=(show ∃t,u=Value.str y t from r);cases q;exact PySem.W.kia_one PySem.W.kitx_str I.kIn True.intro e (fun z=>nomatch z) h
 | tup ds =>
   obtain⟨a,xs,rfl,h1,_⟩:=Is.tup_iff.mp i
   cases (show u=Value.ref a from r)
   obtain⟨its,_,⟨o,ho,hc,_⟩,_⟩:=I.tuple h1
   exact PySem.W.kia_one PySem.W.kitx_tuple I.kIn ⟨o,ho,hc⟩ e (fun z=>nomatch z) h
 | lst ds =>
   obtain⟨a,xs,rfl,h1,_⟩:=Is.lst_iff.mp i
   cases (show u=Value.ref a from r)
   obtain⟨its,_,⟨o,n,ho,hc,_⟩,_⟩:=I.list h1
   exact PySem.W.kia_one PySem.W.kitx_list I.kIn ⟨o,ho,hc⟩ e (fun z=>nomatch z) h
 | dct =>
   obtain⟨a,ob,rfl,h1,h2⟩:∃a ob,v=V.ref a/\H a=some (.frz ob (.own 0))/\ob.cls = .type "dict":=by unfold Is at i;exact i
   cases (show u=Value.ref a from r)
   exact PySem.W.kia_one PySem.W.kitx_dict I.kIn ⟨ob,(I.hok a _ h1).1,h2⟩ e (fun z=>nomatch z) h
 | exc c=>simp[D.noX] at hnx
theorem y2y{y:Str}{py:Pos}{cv:Value}(f:String->Bool)(ha:PD X a ga)(hm:X.mg "isinstance"=none)(hb:∀{E:Value->Shared->Prop} {pins σ H s} {Q:Value->Shared->Prop},Inv X pins σ H s->Q cv s->wpAny (model X.prog X.w) X.A (eval (.Name y py) X.env) Q E s)
 (hk:∀d:D,d.noX=true->PySem.W.kitOne X.K (.type d.ty) cv=some (f d.ty)) (hg:Gl X "isinstance":=by rfl)
 (he:starEach [a,.Name y py] X.env=(false,eval a X.env)::(false,eval (.Name y py) X.env)::[]:=by rfl) (hpl:(backTo pos (starEach [.Name y py] X.env)).any (·.1)=false:=by rfl) (he2:starEach [.Name y py] X.env=[(false,eval (.Name y py) X.env)]:=by rfl) :
 PD X (.Call (.Name "isinstance" p) [a,.Name y py] [] pos) (gIsi f ga):=by
 refine⟨fun pins s σ H F Γ I fo rl hgg=>?_⟩
 refine wpAny_Call_Name_kw (z4m I hg hm (by decide +kernel:bootBuiltins "isinstance"=some (.builtin "isinstance")) ?_ (by decide) (by decide))
 refine PyProof.Rows.callWith_builtin1 ?_ (by rw[he,he2]) hpl
 rw[he]
 show wpAny _ _ (spliced ((false,eval a X.env)::backTo pos [(false,eval (.Name y py) X.env)])) _ _ s
 refine Calls.spliced_cons (wpAny_mono (ha.run pins s σ H F Γ I fo rl (R.left hgg)) (fun u s1 ⟨d,v,H1,e1,I1,r1,S1,i1⟩=>?_) fun _ _ x=>x.bind _)
 show wpAny _ _ (spliced ((false,eval (.Name y py) X.env)::backTo pos [])) _ _ s1
 refine Calls.spliced_cons (hb I1 (Calls.spliced_nil ?_))
 obtain⟨hnx,e2⟩:=w3q (R.next hgg e1)
 exact w5q I1 hnx i1 r1 (hk d hnx) fun tk=>Post.bind e1 S1 ⟨.bl (f d.ty),.bl (f d.ty),H1,e2,I1.tok _,rfl,.refl _,Is.bl_iff.mpr rfl⟩
theorem w7b{K:PySem.W.Frag}(d:D)(h:d.noX=true):PySem.W.kitOne K (.type d.ty) (.type "int")=some (z6s d.ty):=by cases d<;>first | rfl | (simp[D.noX] at h)
theorem w5o{K:PySem.W.Frag}(d:D)(h:d.noX=true):PySem.W.kitOne K (.type d.ty) (.type "bool")=some (z4o d.ty):=by cases d<;>first | rfl | (simp[D.noX] at h)
theorem x5p{K:PySem.W.Frag}(d:D)(h:d.noX=true):PySem.W.kitOne K (.type d.ty) (.type "tuple")=some (z2k d.ty):=by cases d<;>first | rfl | (simp[D.noX] at h)
theorem x5q{K:PySem.W.Frag}(d:D)(h:d.noX=true):PySem.W.kitOne K (.type d.ty) (.type "list")=some (z3a d.ty):=by cases d<;>first | rfl | (simp[D.noX] at h)
theorem w2j{x:Str}{i:Int}{u:Value}(hm:X.mg x=some u)(hu:∃t,u = .int i t)(hg:Gl X x:=by rfl)(hd:(x==("__debug__":Str))=false:=by decide):PD X (.Name x pos) (gC (.int i)) :=
 w2i hg hm (v:=.int i) hu (fun _=>Is.int_iff.mpr rfl) hd
end
theorem FnF.mono{P:Program}{w:World}{K:PySem.W.Frag}{mg:Str->Option Value}{base:Heap}{j k:Nat}{f:Addr}{fd:FuncData}{ps:List Str}{φ:List D->R (List D)}(F:FnF P w K mg base j f fd ps φ)(h:j<=k):FnF P w K mg base k f fd ps φ:=⟨F.ok.mono h,F.binds,F.kp⟩
noncomputable def spN(φ:List D->R D)(K:PySem.W.Frag):Sp:=fun vs H Q _=>∃ds d,IsAll K H ds vs/\φ ds = .ok d/\(∀v H',Same H H'->Is K H' d v->Q v H')
theorem w4d{φ:List D->R D}{K:PySem.W.Frag}{mg:Str->Option Value}{vs:List V}{H:Hp}{Q:VK}{E:XK}(h:spN φ K vs H Q E):spD K mg φ vs H Q E:=by
 obtain⟨ds,d,i,e,q⟩:=h
 exact⟨ds,i,(by rw[e];exact(fun z=>nomatch z)),(fun d' v H' e' S iv=>by rw[e] at e';cases e';exact q v H' S iv),(fun c C H' e'=>by rw[e] at e';cases e')⟩
theorem FnD.okN{P:Program}{w:World}{K:PySem.W.Frag}{mg:Str->Option Value}{base:Heap}{k:Nat}{f:Addr}{fd:FuncData}{ps:List Str}{φ:List D->R D}(F:FnD P w K mg base k f fd ps φ):FnOk P w K mg base (CXE P w) k f fd ps (spN φ K) :=
 F.ok.imp fun _ _ _ _ h=>w4d h
theorem law_true{c:List D->R D}(hc:∀ns:List Int,ns.length<=63->c [.lst (ns.map D.int)] = .ok (.bl true)){K:PySem.W.Frag}{H:Hp}{a:Addr}{ns:List Int}(hl:ns.length<=63)(hS:SqL K H a (ns.map V.int)):spN c K [.ref a] H (fun v _=>v = .bl true) fun _ _ _=>False :=
 ⟨[.lst (ns.map D.int)],.bl true,IsAll.cons (Is.lst_iff.mpr ⟨a,_,rfl,hS,IsAll.ints ns⟩) IsAll.nil,hc ns hl,fun v H' _ iv=>Is.bl_iff.mp iv⟩
theorem cxe_false{P:Program}{w:World}{H:Hp}{s:Shared}{e:Value}{s':Shared}(h:CXE P w [] H s (fun _ _ _=>False) e s'):False:=by
 obtain⟨_,_,_,_,_,_,_,_,_,_,_,_,_,_,_,_,_,_,_,_,_,_,_,_,_,_,z⟩:=h
 exact z
theorem walk_ofL{l:PySem.W.OpenLaw}{n k:Nat}{q:Program}{loose:List Str}{XP:(Str->Option Value)->Heap->Prop}{YP:World->Heap->Prop}{d:DefRec}{K:Params->PySem.W.Frag}{CX:World->CXT}(sp:PySem.W.Frag->Sp){x:Str}
 (hn:l.most=some n) (hn2:n<=sizeLine) (hdf:d.params.defaults=[]) (hr:Room k callerA)
 (hY:∀(w:World) (h:Heap),YP w h->(K w.params).In h)
 (F:∀(w:World) (mg:Str->Option Value) (fa:Addr) (h:Heap),(K w.params).In h->h.Ns mainGlobals mg->mg d.name=some (.ref fa) ->
   ∃fd:FuncData,(∀(s:Shared) (u:Value),BindsTo s fd ⟨[u],[]⟩ [(x,u)]) /\
    ∀base:Heap,(K w.params).In base->base.Ns mainGlobals mg->FnOk l.prog w (K w.params) mg base (CX w) k fa fd [x] (sp (K w.params)))
 (hsp:∀(K:PySem.W.Frag) (H:Hp) (a:Addr) (ns:List Int),ns.length<=n->SqL K H a (ns.map V.int)->sp K [.ref a] H (fun v _=>v = .bl true) fun _ _ _=>False)
 (hCX:∀(w:World) (H:Hp) (s:Shared) (e:Value) (s':Shared),CX w [] H s (fun _ _ _=>False) e s'->False) :
 PySem.W.WalkO q loose XP YP l.row.toRowW d [] (fun f vs=>PySem.call f vs) :=
 walk_of (K:=K) (CX:=CX) (sp:=fun w=>sp (K w.params)) hn hn2 hdf hr hY F (fun w H a ns h1 _ h3=>hsp (K w.params) H a ns h1 h3) hCX
end L3
namespace L3
open PySem PySem.Spec PyProof.Rows L2
noncomputable def Its(lo st:Int)(n:Nat):It:=⟨fun i _=>i<n,fun i H x H'=>H'=H/\x = .int (lo+st*(i:Int)),fun i _=>n<=i⟩
theorem x3j{P:Program}{w:World}{K:PySem.W.Frag}{tg:Expr}(it:Addr)(lo st:Int)(n:Nat):Turn P w K tg (Its lo st n) [it] it (fun i h=>IsRangeIter h it (lo+(i:Nat)*st) ((n:Int)-(i:Nat)) st) where
 mem:=by simp
 obj:=fun i h st b hb=>by
  have e:b=it:=by simpa using hb
  subst e
  exact⟨_,st,fun v z=>by
   have z':Data.fields _=Data.cell v:=z
   cases z'⟩
 keep:=fun i h h' st k=>k it (by simp) _ st
 item:=by
  intro X hP hw hK hc i pins s σ H E I hf sx hg
  subst hP hw hK
  obtain⟨f0,f1,f2,f3,f4,f5⟩:=hf it (by simp)
  have W:=Walks.range (prog:=X.prog) (w:=X.w) (I.ok.hd hc) it lo st n
  refine W.item i s _ _ hg sx fun v h' tk hv st' kk=>?_
  obtain⟨t,rfl⟩:=hv
  have I1:Inv X pins σ H { s with heap:=h',toks:=tk }:=I.turned (fun b o hb e=>kk b o (by simpa using hb) e) f0 f1 f3 f4 f5
  refine⟨_,rfl,x8y (s:={ s with heap:=h',toks:=tk }) (n:="range_iterator") st' rfl rfl (by decide) ⟨.int (lo+st*i),H,I1,⟨t,?_⟩,⟨rfl,rfl⟩,st',fun b hb=>(hf b hb).1⟩⟩
  rw[Int.mul_comm]
 done:=by
  intro X hP hw hK hc i pins s σ H E I hf sx hg
  subst hP hw hK
  obtain⟨f0,f1,f2,f3,f4,f5⟩:=hf it (by simp)
  exact wpAny_pyNext_range_end (I.ok.hd hc) sx (by have:n<=i:=hg;lia) fun h' eb=>⟨rfl,I.turned (t':=s.toks) (fun b o hb e=>eb b o hb e) f0 f1 f3 f4 f5⟩
 self:=fun _ _ _ _ _ st h=>wpAny_pyIter_rangeiter st h
theorem y0g{a b c:Int}(hc:0<c):Builtin.Range.rangeSize a b c=((y0f a b c:Nat):Int):=by
 unfold Builtin.Range.rangeSize y0f
 rw[if_pos hc]
 by_cases h:a<b
 ·rw[if_pos h,show b-a+c-1=(b-a-1)+c*1 by lia,Int.add_mul_ediv_left _ _ (by lia)]
  have:0<=(b-a-1)/c:=Int.ediv_nonneg (by lia) (by lia)
  lia
 ·rw[if_neg h]
  have h1:(b-a+c-1)/c<=0:=by
   have:(b-a+c-1)/c<=(c-1)/c:=Int.ediv_le_ediv hc (by lia)
   have h2:(c-1)/c=0:=Int.ediv_eq_zero_of_lt (by lia) (by lia)
   lia
  lia
theorem x7s{a b c:Int}(hc:0<c)(h:a<=b):((y0f a b c:Nat):Int)<=b-a:=by
 rw[<-y0g hc]
 unfold Builtin.Range.rangeSize
 rw[if_pos hc]
 by_cases h:a<b
 ·rw[if_pos h]
  have:=Int.ediv_le_self (a:=b-a-1) c (by lia)
  lia
 ·rw[if_neg h];lia
theorem x1s{a b c:Int}(ha:-1073741824<=a)(ha':a<1073741824)(hb:-1073741824<=b)(hb':b<1073741824)(hc:0<c)(hc':c<1073741824):Builtin.Range.small a b c=true:=by
 unfold Builtin.Range.small
 have hs:((y0f a b c:Nat):Int)<=4294967296:=by
  by_cases h:a<=b
  ·have:=x7s hc h;lia
  ·rw[<-y0g hc]
   unfold Builtin.Range.rangeSize
   rw[if_pos hc,if_neg (by lia)];lia
 rw[y0g hc]
 generalize y0f a b c=n at *
 simp only[Builtin.Range.rangeFitsLong,Bool.and_eq_true,Bool.or_eq_true,decide_eq_true_eq,beq_iff_eq,if_pos (show c>0 from hc)]
 lia
section
variable {X:Cx}{tg a b c:Expr}{ga gb gc:G->R D}
theorem w1o{pins:List (Addr×Obj)}{σ:St}{H:Hp}{s:Shared}{R:It->Hp->Prop}{E:Value->Shared->Prop}{lo hi st:Int}{t u v:Tok}{tk:Nat}(I:Inv X pins σ H s)(h1:-1073741824<=lo)(h2:lo<1073741824)(h3:-1073741824<=hi)(h4:hi<1073741824)(h5:0<st)(h6:st<1073741824)
 (q:R (Its lo st (y0f lo hi st)) H):wpAny (model X.prog X.w) X.A (pyIter (.ref s.heap.objs.size)) (PIE X pins σ tg R) E { s with heap:=s.heap.push { cls:=.type "range",data:=.fields #[.int lo t,.int hi u,.int st v] },toks:=tk }:=by
 refine wpAny_pyIter_range (IsRange.new ..) (x1s h1 h2 h3 h4 h5 h6) ?_
 have I1:Inv X pins σ H { s with heap:=s.heap.push { cls:=.type "range",data:=.fields #[.int lo t,.int hi u,.int st v] },toks:=tk }:=I.kept fun b o e=>Heap.get?_push_of_some _ e
 refine⟨(s.heap.push { cls:=.type "range",data:=.fields #[.int lo t,.int hi u,.int st v] }).objs.size,[(s.heap.push { cls:=.type "range",data:=.fields #[.int lo t,.int hi u,.int st v] }).objs.size],_,_,H,rfl,
  I1.kept (t':=tk) fun b o e=>Heap.get?_push_of_some _ e,x3j _ lo st (y0f lo hi st),?_,fun b hb=>?_,q⟩
 ·have e1:lo+((0:Nat):Int)*st=lo:=by simp
  have e2:((y0f lo hi st:Nat):Int)-((0:Nat):Int)=Builtin.Range.rangeSize lo hi st:=by rw[y0g h5];lia
  show IsRangeIter _ _ (lo+((0:Nat):Int)*st) (((y0f lo hi st:Nat):Int)-((0:Nat):Int)) st
  rw[e1,e2]
  exact Heap.get?_push_size _ rfl
 ·have e:b=(s.heap.push { cls:=.type "range",data:=.fields #[.int lo t,.int hi u,.int st v] }).objs.size:=by simpa using hb
  subst e
  exact I1.fpOk (Nat.le_refl _) (I1.hok.fresh (Nat.le_refl _))
theorem x3t(lo st:Int)(n:Nat):(y0y lo st n).length=n:=by unfold y0y;simp
theorem w3b{K:PySem.W.Frag}{H:Hp}{F:List Addr}(lo st:Int)(n:Nat):JD K H F (Its lo st n) (y0y lo st n):=fun H1 S=>by
 rw[x3t]
 refine⟨fun j hj=>⟨hj,fun x H2 y=>⟨y.1,.int (lo+st*(j:Int)),by unfold y0y;simp[hj],fun F' _=>?_⟩⟩,Nat.le_refl _⟩
 exact Is.int_iff.mpr y.2
theorem x2d{p pos:Pos}(ha:PD X a ga)(hb:PD X b gb)(hc:PD X c gc)(hm:X.mg "range"=none)(hg:Gl X "range":=by rfl)(hs:starEach [a,b,c] X.env=[(false,eval a X.env),(false,eval b X.env),(false,eval c X.env)]:=by rfl)(hs2:starEach [b,c] X.env=[(false,eval b X.env),(false,eval c X.env)]:=by rfl) :
 PIF X tg (.Call (.Name "range" p) [a,b,c] [] pos) (y1i ga gb gc):=by
 refine⟨fun pins s σ H F Γ I fo rl hgg=>?_⟩
 refine Call_ (z4m I hg hm boot_range (PyProof.Rows.callWith_type1 ?_ (by rw[hs,hs2]) (by rw[hs2];rfl)))
 rw[hs]
 show wpAny _ _ (spliced ((false,eval a X.env)::backTo pos [(false,eval b X.env),(false,eval c X.env)])) _ _ s
 refine Calls.spliced_cons (wpAny_mono (ha.run pins s σ H F Γ I fo rl (R.left hgg)) (fun u s1 ⟨d,v,H1,e1,I1,r1,S1,i1⟩=>?_) fun _ _ x=>x.bind _)
 have hg1:=R.next hgg e1
 show wpAny _ _ (spliced ((false,eval b X.env)::backTo pos [(false,eval c X.env)])) _ _ s1
 refine Calls.spliced_cons (wpAny_mono (hb.run pins s1 σ H1 F Γ I1 (fo.same S1) (rl.same S1) (R.left hg1)) (fun u2 s2 ⟨d2,v2,H2,e2,I2,r2,S2,i2⟩=>?_) fun _ _ x=>z1p.later e1 S1 (x.bind _))
 have hg2:=R.next hg1 e2
 show wpAny _ _ (spliced ((false,eval c X.env)::backTo pos [])) _ _ s2
 refine Calls.spliced_cons (wpAny_mono (hc.run pins s2 σ H2 F Γ I2 ((fo.same S1).same S2) ((rl.same S1).same S2) (R.left hg2)) (fun u3 s3 ⟨d3,v3,H3,e3,I3,r3,S3,i3⟩=>Calls.spliced_nil ?_) fun _ _ x=>z1p.later e1 S1 (z1p.later e2 S2 (x.bind _)))
 have hg3:=R.next hg2 e3
 cases d with
 | int i =>
   cases d2 with
   | int j =>
     cases d3 with
     | int k =>
       obtain⟨⟨⟨h1,h2⟩,⟨h3,h4⟩,h5,h6⟩,e4⟩:=R.guard_ne (show R.guard ((-1073741824<=i/\i<1073741824)/\(-1073741824<=j/\j<1073741824)/\0<k/\k<1073741824) (.ok (y0y i k (y0f i j k))) ≠ .no from hg3)
       rw[Is.int_iff.mp i1] at r1
       rw[Is.int_iff.mp i2] at r2
       rw[Is.int_iff.mp i3] at r3
       obtain⟨t,rfl⟩:=(show ∃t,u=Value.int i t from r1)
       obtain⟨t',rfl⟩:=(show ∃t,u2=Value.int j t from r2)
       obtain⟨t'',rfl⟩:=(show ∃t,u3=Value.int k t from r3)
       refine call_range_3 (by lia) (thn (w1o (tg:=tg) (R:=fun J H'=>J=Its i k (y0f i j k)/\H'=H3) I3 h1 h2 h3 h4 h5 h6 ⟨rfl,rfl⟩) fun itv s4 ⟨it,fp,tn,J,H',ei,I4,T,t0,fk,eJ,eH⟩=>?_) (.inl (PyProof.noPylong_small (by lia)))
       subst eJ eH
       exact⟨_,it,fp,tn,_,H',(R.step e1 _).trans ((R.step e2 _).trans ((R.step e3 _).trans e4)),ei,I4,(S1.trans S2).trans S3,T,t0,fk,w3b i k _⟩
     | _=>exact absurd rfl hg3
   | _=>exact absurd rfl hg3
 | _=>exact absurd rfl hg3
end
section
variable {prog:Program}{w:World}{A:Around}{E:Value->Shared->Prop}{s:Shared}
open HT in
theorem z9y{t sl:Addr}{items:Array Value}{vl vu:Value}{lo hi:Option Int}{Q:Value->Shared->Prop}(ht:IsTup s.heap t items)(hs:s.heap.IsSliceOf sl vl vu .none)(pl:IsPart vl lo)(pu:IsPart vu hi)
 (hw:HT.sIx items.size 0 lo=0/\HT.sIx items.size items.size hi=items.size) (h:Q (.ref t) s):wpAny (model prog w) A (getItem (.ref t) (.ref sl)) Q E s:=by
 obtain⟨os,hos,hcs,hds⟩:=id hs
 have hTs:s.TypeIs (.ref sl) "slice":=⟨os,hos,hcs⟩
 unfold getItem
 try with_reducible refine wpAny_holding ?_
 first | refine wpAny_bind (wpAny_pure ?_) | skip
 refine wpAny_bind (wpAny_sequenceKey ht.typeIs (by decide) ?_)
 refine wpAny_bind (wpAny_callSpecial?_slot (name:=Str.ofString "__getitem__") ht.typeIs PyProof.Rows.slot_tuple_getitem
  (wpAny_call_entry PyProof.Rows.slot_tuple_getitem ht.typeIs entry_tuple_getitem ?_ (args_tuple_getitem _ _)))
 show wpAny _ _ (Builtin.Tuple.tupleItemsOf (.ref t)>>=_) _ _ s
 refine wpAny_bind (tupleItemsOf_ ht ?_)
 refine wpAny_bind (wpAny_typeOf hTs ?_)
 rw[if_pos (by decide)]
 refine wpAny_bind (z7x hs pl pu ?_)
 have hyes:(((HT.sIx items.size 0 lo:Nat):Int)==0&&(1:Int)==1&&(HT.sIx items.size items.size hi-HT.sIx items.size 0 lo)==items.size)=true:=by
  rw[hw.1,hw.2];simp
 show wpAny _ _ (if (((HT.sIx items.size 0 lo:Nat):Int)==0&&(1:Int)==1&&(HT.sIx items.size items.size hi-HT.sIx items.size 0 lo)==items.size)=true then _ else _) _ _ s
 rw[if_pos hyes]
 unfold Builtin.Tuple.tupleIsExact
 refine wpAny_bind (wpAny_bind (wpAny_typeOf ht.typeIs ?_))
 refine wpAny_pure ?_
 rw[if_pos (by decide)]
 exact wpAny_bind (wpAny_rule (wpAny_pure ⟨_,rfl,wpAny_pure h⟩))
end
section
variable {X:Cx}{e a b c:Expr}{g ga gb gc:G->R D}{lo hi:Option Expr}{gl gh:G->R (Option Int)}{pos p2:Pos}
noncomputable def rSlW(K:PySem.W.Frag):V->Option Int->Option Int->Hp->VK->Prop:=fun x lo hi H Q=>∃a xs,x = .ref a/\SqT K H a xs/\(HT.sIx xs.length 0 lo=0/\HT.sIx xs.length xs.length hi=xs.length)/\Q (.ref a) H
theorem w1p:SlR X (rSlW X.K):=by
 intro pins s σ H x v vl vu lo hi sl Q I rx hs pl pu h
 obtain⟨a,xs,rfl,hx,hw,q⟩:=h
 cases rx
 obtain⟨its,r,ht,hz⟩:=I.tuple hx
 have hlen:its.toArray.size=xs.length:=by rw[List.size_toArray];exact r.length.symm
 refine⟨"tuple",_,PyProof.Rows.slot_tuple_getitem.lookup,ht.typeIs,?_⟩
 exact z9y ht hs pl pu (by rw[hlen];exact hw) ⟨.ref a,H,I,rfl,q⟩
structure POD (X:Cx) (e:Option Expr) (g:G->R (Option Int)):Prop where
 run:∀(pins:List (Addr×Obj)) (s:Shared) (σ:St) (H:Hp) (F:List Addr) (Γ:G),Inv X pins σ H s->FOk H F->Rel X.K H F Γ σ->g Γ ≠ .no ->
  wpAny (model X.prog X.w) X.A (evalPart e X.env) (fun u s'=>∃o H',g Γ = .ok o/\Inv X pins σ H' s'/\IsPart u o/\Same H H') (z1p X pins σ H (g Γ)) s
theorem podN:POD X none gON:=⟨fun pins s σ H F Γ I fo rl hg=>by
 rw[evalPart_none]
 exact wpAny_pure ⟨none,H,rfl,I,.none,.refl _⟩⟩
theorem podS(h:PD X e g):POD X (some e) (gOS g):=⟨fun pins s σ H F Γ I fo rl hg=>by
 rw[evalPart_some]
 refine wpAny_mono (h.run pins s σ H F Γ I fo rl (R.left hg)) (fun u s1 ⟨d,x,H1,e1,I1,r1,S1,i1⟩=>?_) fun _ _ x=>x.bind _
 have hg1:=R.next hg e1
 cases d with
 | int i =>
   rw[Is.int_iff.mp i1] at r1
   obtain⟨t,rfl⟩:=(show ∃t,u=Value.int i t from r1)
   exact⟨some i,H1,R.step e1 _,I1,.int i t,S1⟩
 | _=>exact absurd rfl hg1⟩
theorem IsAll.cut{K:PySem.W.Frag}{H:Hp}{ds:List D}{xs:List V}(h:IsAll K H ds xs)(lo hi:Option Int):IsAll K H (cutL ds lo hi) (cutV xs lo hi):=by
 have hl:=h.length
 unfold cutL cutV
 rw[hl]
 exact(h.drop _).take _
theorem w4f{r:V->Option Int->Option Int->Hp->VK->Prop}(hr:SlR X.nox r)(ha:PD X a ga)(hl:POD X lo gl)(hh:POD X hi gh){pins:List (Addr×Obj)}{s:Shared}{σ:St}{H:Hp}{F:List Addr}{Γ:G}(I:Inv X pins σ H s)(fo:FOk H F)(rl:Rel X.K H F Γ σ)
 {α:Type} {rr:R α} {k:D->Option Int->Option Int->R α} (hrr:rr=(ga Γ>>=fun d=>gl Γ>>=fun l=>gh Γ>>=fun h=>k d l h)) (hg:rr ≠ .no) {Q:Value->Shared->Prop}
 (hq:∀d x l h H3,k d l h ≠ .no->rr=k d l h->Same H H3->Is X.K H3 d x->FOk H3 F->Rel X.K H3 F Γ σ->r x l h H3 fun z H'=>∀u s',Inv X pins σ H' s'->RelV z u->Q u s') :
 wpAny (model X.prog X.w) X.A (eval (.Subscript a (.Slice lo hi none p2) pos) X.env) Q (z1p X pins σ H rr) s:=by
 subst hrr
 refine Subscript_ (wpAny_mono (ha.run pins s σ H F Γ I fo rl (R.left hg)) (fun v s1 ⟨d,x,H1,e1,I1,r1,S1,i1⟩=>?_) fun _ _ x=>x.bind _)
 have hg1:=R.next hg e1
 refine wpAny_Slice (wpAny_mono (hl.run pins s1 σ H1 F Γ I1 (fo.same S1) (rl.same S1) (R.left hg1)) (fun vl s2 ⟨l,H2,e2,I2,pl,S2⟩=>?_) fun _ _ x=>z1p.later e1 S1 (x.bind _))
 have hg2:=R.next hg1 e2
 refine wpAny_mono (hh.run pins s2 σ H2 F Γ I2 ((fo.same S1).same S2) ((rl.same S1).same S2) (R.left hg2)) (fun vu s3 ⟨h,H3,e3,I3,pu,S3⟩=>?_) fun _ _ x=>z1p.later e1 S1 (z1p.later e2 S2 (x.bind _))
 have hg3:=R.next hg2 e3
 have S03:=(S1.trans S2).trans S3
 rw[evalPart_none]
 refine wpAny_pure ?_
 have I4:Inv X pins σ H3 { s3 with heap:=s3.heap.push { cls:=.type "slice",data:=.fields #[vl,vu,.none] } }:=I3.kept (t':=s3.toks) fun b ob q=>Heap.get?_push_of_some _ q
 obtain⟨T,id,hT,ht,hgi⟩:=hr pins { s3 with heap:=s3.heap.push { cls:=.type "slice",data:=.fields #[vl,vu,.none] } } σ H3 x v vl vu l h s3.heap.objs.size _ (I4.wish _) r1 (Heap.IsSliceOf.new ..) pl pu (hq d x l h H3 hg3 ((R.step e1 _).trans ((R.step e2 _).trans (R.step e3 _))) S03 ((i1.same S2).same S3) (fo.same S03) (rl.same S03))
 show wpAny (model X.prog X.w) X.A (subscriptTail a (.Slice lo hi none p2) v (.ref s3.heap.objs.size)) _ _ { s3 with heap:=s3.heap.push { cls:=.type "slice",data:=.fields #[vl,vu,.none] } }
 refine tail_any (ops:=[.ref s3.heap.objs.size,v]) ht hT (wpAny_mono hgi (fun u s5 ⟨z,H5,I5,rz,q5⟩=>q5 u s5 I5.unwish rz) fun _ _ z=>False.elim z) (by with_unfolding_all rfl)
theorem y2x(ha:PD X a ga)(hl:POD X lo gl)(hh:POD X hi gh):PD X (.Subscript a (.Slice lo hi none p2) pos) (gSl ga gl gh):=⟨fun pins s σ H F Γ I fo rl hg =>
 w4f (SlR.or (SlR.or w4e w1p) w1q) ha hl hh I fo rl (k:=dCut) rfl hg fun d x l h H3 hk er S i fo3 rl3=>by
  cases d with
  | tup ds =>
    obtain⟨p,xs,rfl,h1,h2⟩:=Is.tup_iff.mp i
    by_cases hw:HT.sIx xs.length 0 l=0/\HT.sIx xs.length xs.length h=xs.length
    ·refine .inl (.inr ⟨p,xs,rfl,h1,hw,fun u s' I' rz=>⟨_,.ref p,H3,er,I',rz,S,Is.tup_iff.mpr ⟨p,xs,rfl,h1,?_⟩⟩⟩)
     have:=h2.cut l h
     unfold cutV at this
     rw[hw.1,hw.2,List.drop_zero,Nat.sub_zero,List.take_length] at this
     exact this
    ·refine .inl (.inl ⟨p,xs,rfl,h1,hw,fun q hq u s' I' rz=>?_⟩)
     have S2:=z1r hq (.tup (cutV xs l h))
     exact⟨_,.ref q,_,er,I',rz,S.trans S2,Is.tup_iff.mpr ⟨q,_,rfl,SqT.of z0q,(h2.cut l h).same S2⟩⟩
  | lst ds =>
    obtain⟨p,xs,rfl,h1,h2⟩:=Is.lst_iff.mp i
    refine .inr ⟨p,xs,rfl,h1,fun q hq u s' I' rz=>?_⟩
    have S2:=z1r hq (.lst (cutV xs l h))
    exact⟨_,.ref q,_,er,I',rz,S.trans S2,Is.lst_iff.mpr ⟨q,_,rfl,SqL.of z0q,(h2.cut l h).same S2⟩⟩
  | _=>exact absurd rfl hk⟩
end
end L3
namespace L3
open PySem PySem.Spec PyProof.Rows L2
section
variable {prog:Program}{w:World}{A:Around}{E:Value->Shared->Prop}{s:Shared}
theorem y1g{h h':Heap}{l it:Addr}{items:Array Value}(hl:h.IsList l items)(hk:∀b o,b≠it->h.get? b=some o->h'.get? b=some o)(hne:l≠it):h'.IsList l items:=by
 obtain⟨o,e,r⟩:=hl
 exact⟨o,hk l o hne e,r⟩
theorem y7x{it t:Addr}{items:Array Value}(hne:t≠it):∀(n i:Nat) (s:Shared) (Q:List Value->Shared->Prop),s.heap.IsListIter it t i->s.heap.IsList t items->i+n<=items.size ->
 (∀h',h'.IsListIter it t (i+n)->Heap.SameBut it s.heap h'->Q ((items.toList.drop i).take n) { s with heap:=h' })->wpAny (model prog w) A (draw (.ref it) n) Q E s
 | 0,i,s,Q,hit,_,_,hQ=>by
   show wpAny _ _ (pure []) Q E s
   exact wpAny_pure (by simpa using hQ s.heap hit (Heap.SameBut.refl ..))
 | n+1,i,s,Q,hit,ht,hle,hQ=>by
   have hlt:i<items.size:=by lia
   show wpAny _ _ (pyNext (.ref it)>>=_) Q E s
   refine wpAny_bind (wpAny_pyNext_list_item hit ht (x:=items[i]) (by simp[hlt]) fun h₁ hit₁ hs₁=>?_)
   refine wpAny_bind (wpAny_holding (y7x hne n (i+1) _ _ hit₁ (y1g ht (fun b o hb e=>hs₁.extBut b o hb e) hne) (by lia) fun h₂ hit₂ hs₂=>wpAny_pure ?_))
   have hd:items.toList.drop i=items[i]::items.toList.drop (i+1):=by simp[List.drop_eq_getElem_cons,hlt]
   have:=hQ h₂ (by rw[show i+(n+1)=i+1+n by lia];exact hit₂) (hs₁.trans hs₂)
   rw[hd,List.take_succ_cons] at this
   exact this
theorem y1y{t:Addr}{items:Array Value}{Q:List Value->Shared->Prop}(hh:A.handled=none)(ht:s.heap.IsList t items)
 (hQ:∀h',Heap.ExtBut s.heap.objs.size s.heap h'->Q items.toList { s with heap:=h' }):wpAny (model prog w) A (unpackItems (.ref t) items.size none) Q E s:=by
 have hlt:t≠s.heap.objs.size:=by obtain⟨o,ho,_⟩:=ht;exact Nat.ne_of_lt (Heap.lt_size ho)
 have hpush:∀o:Obj,(s.heap.push o).IsList t items:=fun o=>y1g (it:=s.heap.objs.size) ht (fun b u _ e=>Heap.get?_push_of_some _ e) hlt
 unfold unpackItems
 refine wpAny_bind ?_
 ·unfold notIterableAtAll
  refine wpAny_bind (wpAny_specialOf ht.typeIs slot_list_iter.lookup ?_)
  refine wpAny_pure ?_
  simp only[Bool.false_eq_true,if_false]
  refine wpAny_bind (wpAny_holding (wpAny_pyIter_list ht ?_))
  refine wpAny_bind (wpAny_holding (y7x hlt items.size 0 _ _ ⟨_,Heap.get?_push_size _ rfl,rfl,rfl⟩ (hpush _) (by lia) fun h₁ hit₁ hs₁=>?_))
  have hall:List.take items.size (List.drop 0 items.toList)=items.toList:=by
   rw[List.drop_zero];exact List.take_of_length_le (by simp)
  rw[hall]
  rw[if_neg (by simp)]
  have ht₁:h₁.IsList t items:=y1g (hpush _) (fun b o hb e=>hs₁.extBut b o hb e) hlt
  refine wpAny_bind (wpAny_holding (wpAny_pyNext_list_end hh hit₁ ht₁ (by simp) fun h₂ he₂=>?_))
  simp only[Option.isSome_none,Bool.false_eq_true,if_false]
  refine wpAny_pure (hQ h₂ fun b o hb e=>he₂ b o hb (hs₁.extBut b o hb (Heap.get?_push_of_some _ e)))
theorem y1o{env:Env}{elts:List Expr}{x1}{pos:Pos}{t:Addr}{items:Array Value}{Q:Unit->Shared->Prop}(hh:A.handled=none)(ht:s.heap.IsList t items)
 (hn:(assignEach elts env).length=items.size) (hstar:(assignEach elts env).findIdx? (·.1)=none)
 (h:∀h',Heap.ExtBut s.heap.objs.size s.heap h'->wpAny (model prog w) A (assignInOrder ((assignEach elts env).map (·.2)) items.toList) Q E { s with heap:=h' }) :
 wpAny (model prog w) A (assign (.Tuple elts x1 pos) env (.ref t)) Q E s:=by
 rw[assign_Tuple]
 refine wpAny_bind (wpAny_standAt ?_)
 unfold unpack
 rw[hn,hstar]
 exact wpAny_bind (wpAny_holding (y1y hh ht h))
end
noncomputable def setV:List Nat->List V->St->St
 | i::is,v::vs,σ=>setV is vs (σ.set i (some v))
 | _,_,σ=>σ
theorem Rel.setAll{K:PySem.W.Frag}{H:Hp}{F:List Addr}:∀(is:List Nat) (ds:List D) (vs:List V) (Γ:G) (σ:St),IsAll K (hid F H) ds vs->Rel K H F Γ σ->Rel K H F (L3.setAll is ds Γ) (setV is vs σ)
 | [],_,_,Γ,σ,_,r=>by unfold L3.setAll setV;exact r
 | _::_,[],vs,Γ,σ,h,r=>by rw[IsAll.nil_iff.mp h];unfold L3.setAll setV;exact r
 | i::is,d::ds,vs,Γ,σ,h,r=>by
   obtain⟨x,xs,rfl,hx,t⟩:=IsAll.cons_iff.mp h
   unfold L3.setAll setV
   exact Rel.setAll is ds xs _ _ t (r.set_ro hx)
section
variable {X:Cx}{e:Expr}{g:G->R D}{pos pt:Pos}
end
def bmV:List Value:=[.type "ValueError",.type "Exception",.type "BaseException",.type "object"]
noncomputable def w6d(h:Heap)(C:Addr):Prop:=∃bm N nm q bs hdct sn sub ab col dd k0 k1 k2 k3 k5 mN,h.get? C=some (excClassObj nm q C N bs bm hdct sn sub ab col dd k0 k1 k2 k3 k5 "ValueError.__new__")/\h.Ns N mN/\mN "__init__"=none/\OwnTail h bmV bm
theorem x6l{K:PySem.W.Frag}{h:Heap}{C:Addr}(X:K.In h)(q:PySem.W.excIn K C bmV "ValueError.__new__"=true):w6d h C:=by
 unfold PySem.W.excIn at q
 cases e:K.lookup C with
 | none=>rw[e] at q;cases q
 | some o =>
   rw[e] at q
   obtain⟨cls,dd,data,sl⟩:=o
   split at q
   ·rename_i heq
    obtain⟨rfl,rfl,rfl,rfl⟩:cls=_/\dd=_/\data=_/\sl=_:=by
     have z:=Option.some.inj heq
     injection z with z1 z2 z3 z4
     exact⟨z1,z2,z3,z4⟩
    split at q
    ·rename_i hm hs
     rename_i cd xa xb C' bm k0 k1 k2 k3 n k5
     simp only[Bool.and_eq_true,beq_iff_eq,Bool.not_eq_true'] at q
     obtain⟨⟨⟨⟨⟨q1,q2⟩,q3⟩,q4⟩,q5⟩,q6⟩:=q
     obtain⟨nm,bs,mro,ns,qn,hd,sn,sub,ab,col,del⟩:=cd
     subst q1 q2
     have h1:mro = .ref C'::bm:=hm
     have h2:del=false:=q3
     subst h1 h2
     have h3:sl=#[k0,k1,k2,k3,some (.builtin "ValueError.__new__"),k5]:=by
      cases sl with | mk l=>exact congrArg Array.mk hs
     subst h3
     exact⟨bm,ns,nm,qn,bs,hd,sn,sub,ab,col,dd,k0,k1,k2,k3,k5,_,X _ _ e,.of_isNs (PySem.W.isNs_of_in X q5),PySem.W.nsMap_none_of_in X q5 q6,PySem.W.tail_of_in X q4⟩
    ·cases q
   ·cases q
structure XOk (K:PySem.W.Frag) (mg:Str->Option Value) (c:Er) (C:Addr):Prop where
 ns:PySem.W.nsIn K mainGlobals c.nm=some (some (.ref C))
 mg:mg c.nm=some (.ref C)
 ex:PySem.W.excIn K C bmV "ValueError.__new__"=true
section
variable {X:Cx}{e:Expr}{g:G->R D}{pos np cpos:Pos}
theorem w7d{pins:List (Addr×Obj)}{σ:St}{H:Hp}{s:Shared}{q:Addr}(I:Inv X pins σ H s)(hq:s.heap.get? q=none):H q=none:=by
 cases e:H q with
 | none=>rfl
 | some o=>obtain⟨ob,h⟩:=w0r (I.hok q o e);rw[hq] at h;cases h
theorem x8d{c:Er}{C:Addr}{x:Str}{d:D}(hX:XOk X.K X.mg c C)(he:PD X e (gC d))(hc:X.calm=true)(hex:X.ex=[]:=by rfl)(hxn:x=c.nm:=by rfl)(hg:Gl X x:=by rfl)(hdb:(x==("__debug__":Str))=false:=by decide)
 (hs:starEach [e] X.env=(false,eval e X.env)::starEach [] X.env:=by rfl):PQ X (.Raise (some (.Call (.Name x np) [e] [] cpos)) none pos) (z6r c):=by
 refine⟨fun pins s σ H F Γ I fo rl _=>?_⟩
 subst hxn
 obtain⟨bm,N,nm,q,bs,hdct,sn,sub,ab,col,dd,k0,k1,k2,k3,k5,mN,hC,hN,hni,T⟩:=x6l I.mod.kin hX.ex
 refine wpAny_Raise_call_subT (C:=C) (nm:=nm) (q:=q) (N:=N) (bs:=bs) (bm:=bm) (hdct:=hdct) (sn:=sn) (sub:=sub) (ab:=ab) (col:=col) (dd:=dd) (k0:=k0) (k1:=k1) (k2:=k2) (k3:=k3) (k5:=k5)
  PySem.F.excBase_ValueError (mN:=mN) (T.hasType PySem.F.excBase_ValueError.hasBase) (I.ok.hd hc) (by rw[hs];rfl) hni (y1e I hg hX.mg ⟨rfl,?_⟩ hdb)
 rw[hs]
 refine Calls.evalArgs_plain (Calls.spliced_cons (wpAny_mono (he.run pins s σ H F Γ I fo rl (fun z=>nomatch z)) (fun u s1 ⟨d',v,H1,e1,I1,r1,S1,i1⟩=>Calls.spliced_nil ?_) fun x s1 ⟨c',H',e',_⟩=>by cases e'))
 refine⟨rfl,by show 1<=sizeLine;decide,I1.bk _ _ hC,hN.keeps I1.bk,T.keeps I1.bk,fun h' en M=>?_⟩
 obtain⟨t,hte,ht0,ht1⟩:=M.there
 have I2:Inv X pins σ H1 { s1 with heap:=h' }:=I1.kept (t':=s1.toks) fun b o q=>M.keeps b o q
 obtain⟨g1,g2,g3,g4⟩:=I1.gone hex M.new
 exact⟨c,Γ,σ,H1,F,rfl,⟨I2,en,C,_,_,rfl,hX.mg,w7d I1 M.new,g1,g2,g3,g4,hte,rfl,rfl,⟨_,rfl⟩,.inl rfl⟩,fo.same S1,rl.same S1,.of_same S1⟩
end
section
variable {K:PySem.W.Frag}{M:Model}{A:Around}{E:Value->Shared->Prop}{s:Shared}
end
structure XCls (K:PySem.W.Frag) (C:Addr):Prop where
 ga:PySem.W.findIn K (.ref C) "__getattribute__"=some (some (.builtin "BaseException.__getattribute__"))
 gn:PySem.W.findIn K (.ref C) "__getattr__"=some none
 cl:PySem.W.findIn K (.ref C) "__class__"=some (some (.builtin "object.__class__"))
 mo:PySem.W.mroIn K C (.type "object")=some true
 mb:PySem.W.mroIn K C (.type "BaseException")=some true
 ty:PySem.W.typeIn K (.ref C)=some (.type "type")
 is:(PySem.W.clsIn K C).isSome=true
section
variable {K:PySem.W.Frag}{prog:Program}{w:World}{A:Around}{E:Value->Shared->Prop}{s:Shared}{a C:Addr}{o:Obj}
end
section
variable {X:Cx}{pos p pn:Pos}
structure PCl (X:Cx) (es:List Expr) (vs:List Value):Prop where
 run:∀{E:Value->Shared->Prop} {pos:Pos} {pins:List (Addr×Obj)} {σ:St} {H:Hp} {s:Shared} {Q:List Value->Shared->Prop},Inv X pins σ H s->Q vs s->wpAny (model X.prog X.w) X.A (spliced (backTo pos (starEach es X.env))) Q E s
noncomputable def mk(X:Cx)(v:Value):Cx:={ X with A:=X.A.mark (some v),calm:=false }
end
section
variable {X:Cx}{pos np hpos:Pos}
structure ErrOk (X:Cx) (B:Addr):Prop where
 cl:XCls X.K B
 ns:∀(c:Er) (C:Addr),X.mg c.nm=some (.ref C)->PySem.W.nsIn X.K mainGlobals c.nm=some (some (.ref C))/\PySem.W.mroIn X.K C (.ref B)=some true
end
section
variable {X:Cx}{pos p pn:Pos}
end
section
variable {X:Cx}{e a b c:Expr}{g ga gb gc:G->R D}{pos pos':Pos}{es:List Expr}{gs:G->R (List D)}
end
section
variable {P:Program}{w:World}{K:PySem.W.Frag}{mg:Str->Option Value}{base:Heap}
theorem w1c{x qual:Str}{st:Stmt}{f:Addr}{fd:FuncData}{N ps:List Str}{k:Nat}(Fu:Fun K x qual st f fd)(S:FnScope N ps (z0h st))(hb:y4l K fd ps []):FnD P w K mg base (k+1) f fd ps (fun _=>.no):=by
 refine⟨?_,hb,Fu.kp⟩
 obtain⟨oc,od,kV,doc,pm,an,cdv,ct,osl,rfl,lk,hcd⟩:=Fu.ex
 exact x9b lk hcd S (fun vs H Q E h=>absurd rfl h.choose_spec.2.1) fun A outer s H vs Q E hr hsp=>absurd rfl hsp.choose_spec.2.1
end
section
variable {X:Cx}{e a b c:Expr}{g ga gb gc:G->R D}{pos pos' p p2:Pos}{es:List Expr}{gs:G->R (List D)}{lo hi:Option Expr}{gl gh:G->R (Option Int)}
noncomputable def w6l(K:PySem.W.Frag):R2:=fun x y H Q=>∃l b xs zs,x = .ref l/\y = .ref b/\SqL K H l xs/\SqL K H b zs/\xs.length+zs.length<=sizeLine/\∀p,H p=none->Q (.ref p) (upd H p (.lst (xs++zs)))
theorem w2o:OpR X (binaryOp .Add) (w6l X.K):=by
 intro pins s σ H x y v u Q I rx ry h
 obtain⟨l,b,xs,zs,rfl,rfl,hH,hB,hz,q⟩:=h
 cases rx
 cases ry
 obtain⟨i1,r1,pl1,_⟩:=I.list hH
 obtain⟨i2,r2,pl2,_⟩:=I.list hB
 have n1:=r1.length
 have n2:=r2.length
 obtain⟨⟨c1,d1,t1,s1⟩,o1,k1,m1,j1⟩:=pl1.isList
 obtain⟨⟨c2,d2,t2,s2⟩,o2,k2,m2,j2⟩:=pl2.isList
 simp only at k1 j1 k2 j2
 subst k1 j1 k2 j2
 refine concat_meets ⟨_,o1,rfl⟩ ⟨_,o2,rfl⟩ noFill_list_add seq_list_add PySem.F.slot_list_add PySem.F.entry_list_add (PySem.F.args_list_add_2 _ _) (list_addW l b i1.toArray i2.toArray m1 m2 d1 d2 s1 s2 (by simp only[List.size_toArray];lia)) ⟨o1,o2,?_⟩
 have ea:i1.toArray++i2.toArray=(i1++i2).toArray:=by simp
 rw[ea]
 exact⟨.ref _,_,I.lnew (t':=s.toks) (r1.append r2) (by rw[List.length_append];lia),rfl,q _ I.fresh⟩
theorem y9e(ha:PD X a ga)(hb:PD X b gb):PF X (.BinOp a .Add b pos) (y0a ga gb):=by
 refine⟨fun pins s σ H F Γ I fo rl hg=>?_⟩
 refine wpAny_BinOp (wpAny_mono (ha.run pins s σ H F Γ I fo rl (R.left hg)) (fun v s1 ⟨dx,x,H1,e1,I1,r1,S1,i1⟩=>?_) fun _ _ x=>x.bind _)
 have hg1:=R.next hg e1
 refine wpAny_mono (hb.run pins s1 σ H1 F Γ I1 (fo.same S1) (rl.same S1) (R.left hg1)) (fun u s2 ⟨dy,y,H2,e2,I2,r2,S2,i2⟩=>?_) fun _ _ x=>z1p.later e1 S1 (x.bind _)
 have hgx:=R.next hg1 e2
 have i1':=i1.same S2
 have key:∀xs ys,dx = .lst xs->dy = .lst ys->∃zx zy,x = .ref zx/\y = .ref zy/\∃vx vy,SqL X.K H2 zx vx/\SqL X.K H2 zy vy/\IsAll X.K H2 xs vx/\IsAll X.K H2 ys vy:=fun xs ys q1 q2=>by
  subst q1 q2
  obtain⟨zx,vx,rfl,a1,a2⟩:=Is.lst_iff.mp i1'
  obtain⟨zy,vy,rfl,b1,b2⟩:=Is.lst_iff.mp i2
  exact⟨zx,zy,rfl,rfl,vx,vy,a1,b1,a2,b2⟩
 have both:∃xs ys,dx = .lst xs/\dy = .lst ys:=by
  cases dx with
  | lst xs =>
    cases dy with
    | lst ys=>exact⟨xs,ys,rfl,rfl⟩
    | _=>exact absurd rfl hgx
  | _=>cases dy<;>exact absurd rfl hgx
 obtain⟨xs,ys,rfl,rfl⟩:=both
 obtain⟨zx,zy,rfl,rfl,vx,vy,a1,b1,a2,b2⟩:=key xs ys rfl rfl
 obtain⟨⟨hc,hn⟩,e3⟩:=R.guard_ne (show R.guard (xs.length+ys.length<=1000/\D.noLs (xs++ys)=true) (.ok (xs++ys)) ≠ .no from hgx)
 have hz:vx.length+vy.length<=sizeLine:=by rw[<-a2.length,<-b2.length];exact z9i hc
 refine wpAny_mono (w2o (X:=X.nox) pins s2 σ H2 (.ref zx) (.ref zy) _ _ (fun z H'=>∃l,z = .ref l/\H2 l=none/\H'=upd H2 l (.lst (vx++vy))) (I2.wish _) r1 r2 ⟨zx,zy,vx,vy,rfl,rfl,a1,b1,hz,fun l hl=>⟨l,rfl,hl,rfl⟩⟩) (fun u s' ⟨z,H',I',rz,l,ez,hl,eH⟩=>?_) fun _ _ z=>False.elim z
 subst ez eH
 have S3:=z1r hl (.lst (vx++vy))
 exact⟨xs++ys,l,vx++vy,_,(R.step e1 _).trans ((R.step e2 _).trans e3),I'.unwish,rz,(S1.trans S2).trans S3,S1.free (S2.free hl),z0q,IsAll.hid ((((fo.same S1).same S2).same S3).cons z0q) _ _ hn ((a2.append b2).same S3)⟩
end
section
variable {X:Cx}{e a b c:Expr}{g ga gb gc:G->R D}{lo:Option Expr}{gl:G->R (Option Int)}{pos p2 p3:Pos}
end
section
variable {X:Cx}
theorem w2r:OpD X (binaryOp .Mult) y9o:=od_I (C:=y0p) (d:=fun i j=>.int (i*j)) (fun _ _ _ _=>Is.int_iff.mpr rfl) (v:=fun i j=>.int (i*j)) (opI fun _ _ _ _ _ _ _ hc q=>mul_int q (by
 have key:∀{k:Int},k.natAbs<bigN->Builtin.Int.intBits k<=4000:=fun {k} h=>PyProof.Rows.intBits_le (Nat.lt_of_lt_of_le h (by unfold bigN;decide +kernel))
 exact PyProof.Rows.mulOk_of_bits (key hc.1) (key hc.2) (by decide)))
theorem x8o(hc:X.calm=true):y0d X (.builtin "max") (fun xs H Q=>∃(a:Addr) (ns:List Int),xs=[.ref a]/\ns≠[]/\SqL X.K H a (ns.map V.int)/\Q (.int (maxI ns)) H):=by
 intro pins s σ H xs us Q I r h
 obtain⟨a,ns,rfl,hne,hq,q⟩:=h
 obtain⟨u,rfl,ru⟩:=y8t r
 cases ru
 obtain⟨its,rv,pl,_⟩:=I.list hq
 have hi:IntsAre its ns:=intsAre_of rv
 obtain⟨ys,hy⟩:=hi.allInts.items
 have hl:=pl.isList
 rw[hy] at hl
 have hn:numsOf its.toArray.toList=ns:=by rw[show its.toArray.toList=its from rfl,hi.numsOf]
 rw[hy,nums_intItems] at hn
 have hlen:ys.size=ns.length:=by rw[<-hn,List.length_map,Array.length_toList]
 have hpos:0<ys.size:=by rw[hlen];exact List.length_pos_iff.mpr hne
 refine max_intList (I.ok.hd hc) hl hpos fun v h' tk hv hk=>?_
 obtain⟨t,rfl⟩:=intItems_at hv
 obtain⟨h1,h2⟩:=argBest_gt (numAt ys) (ys.size-1)
 have em:numAt ys (argBest (fun i j=>decide (numAt ys i>numAt ys j)) (ys.size-1))=maxI ns:=by
  refine y7p ?_ fun b hb=>?_
  ·rw[<-hn,numAt_eq];exact getD_mem (by rw[List.length_map,Array.length_toList];lia)
  ·rw[<-hn] at hb
   obtain⟨j,hj,rfl⟩:=mem_getD hb
   rw[List.length_map,Array.length_toList] at hj
   rw[<-numAt_eq];exact h2 j (by lia)
 rw[em]
 exact⟨.int (maxI ns),H,I.kept hk,⟨t,rfl⟩,q⟩
theorem w3t(hc:X.calm=true):y4g X (.builtin "max") x2t:=by
 refine⟨_,y0d.or (x8o (X:=X.nox) hc) (x6x (X:=X.nox) hc),fun H xs ds i hg=>?_⟩
 unfold x2t at hg
 split at hg
 ·rename_i ys
  obtain⟨v,rfl,h⟩:=z9s i
  obtain⟨a,zs,rfl,h1,h2⟩:=Is.lst_iff.mp h
  cases q:ints? ys with
  | none=>rw[q] at hg;exact absurd rfl hg
  | some ns =>
    cases ns with
    | nil=>rw[q] at hg;exact absurd rfl hg
    | cons n ns =>
      have:=ints?_some q
      subst this
      rw[h2.ints_eq] at h1
      exact .inl ⟨a,n::ns,rfl,by simp,h1,_,by unfold x2t;simp only[q],.refl _,Is.int_iff.mpr rfl⟩
 ·rename_i i' j'
  obtain⟨v,v',rfl,h,h'⟩:=w0w i
  exact .inr ⟨i',j',by rw[Is.int_iff.mp h,Is.int_iff.mp h'],_,rfl,.refl _,Is.int_iff.mpr rfl⟩
 ·exact absurd rfl hg
end
section
variable {X:Cx}{e a b c:Expr}{g ga gb gc:G->R D}{lo:Option Expr}{st:Expr}{gl gt:G->R (Option Int)}{pos p2 p3:Pos}
end
section
variable {X:Cx}{a b:Expr}{pos:Pos}
end
section
variable {X:Cx}{e a b c:Expr}{g ga gb gc:G->R D}{pos pos' p p2:Pos}{es:List Expr}{gs:G->R (List D)}
theorem x9c{a b:Int}(ha:0<=a)(hb:0<=b)(h:b≥((Builtin.Int.intBits a:Nat):Int)):a/2^b.toNat=0:=by
 obtain⟨n,rfl⟩:=Int.eq_ofNat_of_zero_le ha
 obtain⟨k,rfl⟩:=Int.eq_ofNat_of_zero_le hb
 have hk:n<2^k:=by
  unfold Builtin.Int.intBits at h
  by_cases hn:n=0
  ·subst hn;exact Nat.two_pow_pos k
  ·rw[Int.natAbs_natCast,if_neg (by simpa using hn)] at h
   exact(Nat.log2_lt hn).mp (by lia)
 rw[Int.toNat_natCast]
 exact Int.ediv_eq_zero_of_lt (Int.natCast_nonneg n) (by exact_mod_cast hk)
theorem w4x:OpD X (binaryOp .RShift) dShr:=od_I (C:=fun i j=>0<=i/\0<=j) (d:=fun i j=>.int (i/2^j.toNat)) (fun _ _ _ _=>Is.int_iff.mpr rfl) (v:=fun i j=>.int (i/2^j.toNat)) (opI fun i j _ _ _ _ _ hc q=>by
 have h1:(0:Int)<=i:=hc.1
 have h2:(0:Int)<=j:=hc.2
 by_cases hb:j≥((Builtin.Int.intBits i:Nat):Int)
 ·refine AutoIntOps.rshift_1 (by lia) hb ?_
  rw[if_neg (by lia),<-x9c h1 h2 hb]
  exact q
 ·refine AutoIntOps.rshift_2 (by lia) hb ?_
  rw[Int.fdiv_eq_ediv_of_nonneg i (Int.le_of_lt (Int.pow_pos (by lia)))]
  exact q)
theorem w2k{apos cpos:Pos}(ha:PD X a ga)
 (hbase:attributeBase a "bit_length" X.env (eval a X.env)=eval a X.env:=by rfl)
 (hfew:((backTo cpos (starEach [] X.env)).all (fun x=>!x.1)&&(backToKw cpos (keywordEach [] X.env)).all (fun x=>x.1.isSome)
   && decide (([]:List Expr).length+([]:List Keyword).length+(if ([]:List Keyword).isEmpty then 0 else 1)<30))=true:=by rfl)
 (hline:(apos.endLine==cpos.line)=true:=by rfl) (hs:starEach [] X.env=[]:=by rfl) :
 PD X (.Call (.Attribute a "bit_length" apos) [] [] cpos) (y9l ga):=by
 refine⟨fun pins s σ H F Γ I fo rl hg=>?_⟩
 refine wpAny_Call_method_late hbase hfew hline rfl (wpAny_mono (ha.run pins s σ H F Γ I fo rl (R.left hg)) (fun v s1 ⟨d,x,H1,e1,I1,r1,S1,i1⟩=>?_) fun _ _ x=>x.bind _)
 have hg1:=R.next hg e1
 cases d with
 | int i =>
   rw[Is.int_iff.mp i1] at r1
   obtain⟨t,rfl⟩:=r1
   refine⟨"int",_,PySem.F.plainAttrs_int,slot_int_bit_length,type_int_bit_length,typeIs_int _ _ _,(fun _ e=>nomatch e),?_⟩
   rw[hs]
   refine Calls.callWith_builtin rfl ?_
   show wpAny _ _ (evalArgs (Value.builtin "int.bit_length") true [] []) _ _ s1
   refine PyProof.Rows.evalArgs_nil3 ?_
   exact call_int_bit_length (Post.bind e1 S1 ⟨.int (x7a i),.int (x7a i),H1,rfl,I1.tok _,⟨_,rfl⟩,.refl _,Is.int_iff.mpr rfl⟩)
 | _=>exact absurd rfl hg1
end
section
variable {X:Cx}{e a b c:Expr}{g ga gb gc:G->R D}{pos pos' p p2:Pos}{es:List Expr}{gs:G->R (List D)}
structure PADr (X:Cx) (es:List Expr) (g:G->R (List D)):Prop where
 run:∀(pos:Pos) (pins:List (Addr×Obj)) (s:Shared) (σ:St) (H:Hp) (F:List Addr) (Γ:G),Inv X pins σ H s->FOk H F->Rel X.K H F Γ σ->g Γ ≠ .no ->
  wpAny (model X.prog X.w) X.A (spliced (backTo pos (starEach es X.env))) (fun us s'=>∃ds vs H',g Γ = .ok ds/\Inv X pins σ H' s'/\Vals vs us/\Same H H'/\IsAll X.K (hid F H') ds vs) (z1p X pins σ H (g Γ)) s
theorem y0m:PADr X [] gNil:=⟨fun pos pins s σ H F Γ I fo rl hg=>Calls.spliced_nil ⟨[],[],H,rfl,I,.nil,.refl _,IsAll.nil⟩⟩
theorem z1a(ha:PDr X e g)(hr:PADr X es gs)(hs:starEach (e::es) X.env=(false,eval e X.env)::starEach es X.env:=by rfl):PADr X (e::es) (gCons g gs):=by
 refine⟨fun pos pins s σ H F Γ I fo rl hg=>?_⟩
 rw[hs]
 show wpAny _ _ (spliced ((false,eval e X.env)::backTo pos (starEach es X.env))) _ _ s
 refine Calls.spliced_cons (wpAny_mono (ha.run pins s σ H F Γ I fo rl (R.left hg)) (fun u s1 ⟨d,x,H1,e1,I1,r1,S1,i1⟩=>?_) fun _ _ x=>x.bind _)
 have hg1:=R.next hg e1
 refine wpAny_mono (hr.run pos pins s1 σ H1 F Γ I1 (fo.same S1) (rl.same S1) (R.left hg1)) (fun us s2 ⟨ds,vs,H2,e2,I2,r2,S2,i2⟩=>?_) fun _ _ x=>z1p.later e1 S1 (x.bind _)
 exact⟨d::ds,x::vs,H2,(R.step e1 _).trans (R.step e2 _),I2,.cons r1 r2,S1.trans S2,IsAll.cons (i1.same (z2h S2)) i2⟩
end
noncomputable def y6g(N:List Str)(env:Env)(x0 y:Str)(scope:Scope):Bool :=
 decide (scope.kind = .function)&&scope.names.all (fun p=>decide (p.2 ≠ .cell)&&(decide (p.2 ≠ .local)||decide (scope.names.lookup p.1=some .local))&&(decide (p.2 ≠ .free)||((env.cells.lookup p.1).isSome&&(decide (env.scope.names.lookup p.1=some .cell)||decide (env.scope.names.lookup p.1=some .free)))))
  && decide (scope.names.lookup x0=some .local/\scope.names.lookup y=some .local/\x0≠y/\(x0 ∉ N∨y ∉ N))&&decide (scope.names.lookup (("":Str))=none)&&N.all (fun z=>decide (scope.names.lookup z≠some .local)||decide (z=x0∨z=y))&&decide ((∀z∈N,z≠("":Str))∨(x0 ∉ N/\y ∉ N))
structure CompOk2 (N:List Str) (env:Env) (x0 y:Str) (scope:Scope):Prop where
 kind:scope.kind = .function
 nocell:∀p∈scope.names,p.2 ≠ .cell
 names:∀p∈scope.names,p.2 = .local->scope.names.lookup p.1=some .local
 free:∀p∈scope.names,p.2 = .free->(∃c,env.cells.lookup p.1=some c)/\(env.scope.names.lookup p.1=some .cell∨env.scope.names.lookup p.1=some .free)
 loc:scope.names.lookup x0=some .local/\scope.names.lookup y=some .local/\x0≠y/\(x0 ∉ N∨y ∉ N)
 nil:scope.names.lookup (("":Str))=none
 only:∀z∈N,scope.names.lookup z=some .local->z=x0∨z=y
 none:(∀z∈N,z≠("":Str))∨(x0 ∉ N/\y ∉ N)
theorem x2w{N:List Str}{env:Env}{x0 y:Str}{scope:Scope}(h:y6g N env x0 y scope=true):CompOk2 N env x0 y scope:=by
 unfold y6g at h
 simp only[Bool.and_eq_true,List.all_eq_true,Bool.or_eq_true,decide_eq_true_eq] at h
 obtain⟨⟨⟨⟨⟨h1,h2⟩,h3⟩,h4⟩,h5⟩,h6⟩:=h
 refine⟨h1,fun p hp=>(h2 p hp).1.1,fun p hp e=>((h2 p hp).1.2).resolve_left fun z=>z e,fun p hp e=>?_,h3,h4,fun z hz e=>(h5 z hz).resolve_left fun q=>q e,h6⟩
 have q:=((h2 p hp).2).resolve_left fun z=>z e
 exact⟨Option.isSome_iff_exists.mp q.1,q.2⟩
noncomputable def z1t(X:Cx)(x0 y:Str)(scope:Scope)(C:Addr)(s₂:Shared)(H₂:Hp)(fp:List Addr)(pn:List (Addr×Obj)):Cx :=
 { X with N:=x0::y::X.N.map (fun z=>if z=x0∨z=y then ("":Str) else z),s₀:=s₂,H₀:=H₂,env:=compEnvC scope (capt X.env scope.names []) C X.env,outer:=X.stack,ex:=fp,fn:=fun _=>false,pn:=pn,xe:=fun _ _=>False }
theorem x2y{X:Cx}{x0 y:Str}{scope:Scope}{C Dd:Addr}{fp:List Addr}{pins pl:List (Addr×Obj)}{σ σ':St}{H₂ H':Hp}{s₂ s1:Shared}{xs:List V}{its:List Value}{n:Nat}(I:Inv X pins σ H₂ s₂)
 (J:Inv (z1t X x0 y scope C s₂ H₂ fp (X.pn++pins)) pl σ' H' s1) (hD:s₂.heap.objs.size<=Dd) (hn:H' Dd=none) (hd:s1.heap.get? Dd=some { cls:=.type "list",data:=.seq its.toArray n }) (rv:Vals xs its) (hz:xs.length<=sizeLine) (hf:∀b∈fp,FpOk X pins H₂ b) :
 Inv X pins σ (upd H' Dd (.lst xs)) s1:=by
 have os:s1.os=s₂.os:=J.os
 have un:Un (frs X.stack) fp H₂ H' s₂.heap s1.heap:=J.base
 have hok:HOk X.prog X.w H' s1.heap:=J.hok
 have bare:AllBare s1.gens:=J.bare
 clear J
 obtain⟨hh,gg,dd,tt,os'⟩:=s1
 obtain rfl:os'=s₂.os:=os
 have neD:∀b o,s₂.heap.get? b=some o->b≠Dd:=fun b o e=>Nat.ne_of_lt (Nat.lt_of_lt_of_le (Heap.lt_size e) hD)
 refine I.call (h':=hh) (g':=gg) (d':=dd) (t':=tt) (ch:=fp) ⟨un.keep,un.slot,fun b o e n' hx=>?_,un.there,fun b ys e=>?_,fun b o u e=>?_,fun b ps e=>?_⟩ (x0x hok hn ⟨hz,its,n,rv,hd⟩) bare fun b hb=>?_
 ·rw[z0u (neD b o e)];exact un.free b o e n' hx
 ·have q:=un.tups b ys e
  rw[z0u (z0z q hn)];exact q
 ·have q:=un.frzs b o u e
  rw[z0u (z0z q hn)];exact q
 ·obtain⟨more,q⟩:=un.tbls b ps e
  exact⟨more,by rw[z0u (z0z q hn)];exact q⟩
 ·obtain⟨f0,f1,f2,f3,f4,f5⟩:=hf b hb
  exact⟨f3.imp_right fun z=>Heap.get?_none_of_le z,f1,f4,f5⟩
theorem x9s{X:Cx}{x0 y:Str}{scope:Scope}{C:Addr}{fp:List Addr}{pins:List (Addr×Obj)}{σ:St}{H₂:Hp}{s₂:Shared}(I:Inv X pins σ H₂ s₂)(c:CompOk2 X.N X.env x0 y scope)(hC:s₂.heap.objs.size<=C)(hf:∀b∈fp,FpOk X pins H₂ b)(ho:∀b∈fp,b<s₂.heap.objs.size) :
 (z1t X x0 y scope C s₂ H₂ fp (X.pn++pins)).Ok:=by
 have cells:∀x k,(capt X.env scope.names []).lookup x=some k->X.env.cells.lookup x=some k:=fun x k e=>by
  rcases z4s scope.names [] (PySem.mem_of_lookup e) with q | q
  ·simp at q
  ·exact q
 refine⟨I.ok.mod,c.kind,I.ok.glob,I.ok.blt,hC,fun x z k h1 h2=>I.ok.inj x z k (cells x k h1) (cells z k h2),fun x hx=>?_,fun x k h _=>absurd h (by simp[z1t]),I.ok.hd,I.ok.frames,.inl rfl,fun b hb=>?_,I.bs,Nat.le_trans I.ok.bsz I.sz,fun b o e hb=>?_,fun b hb z=>?_,I.stack,I.stkFree⟩
 ·have hx':(relabel scope X.env).names.lookup x=some .cell∨(relabel scope X.env).names.lookup x=some .free:=hx
  have hm:∃k,(x,k)∈scope.names/\(k = .free∨k = .cell):=by
   rcases hx' with q | q <;>
   ·have m:=PySem.mem_of_lookup q
    unfold relabel at m
    simp only[List.mem_map] at m
    obtain⟨⟨n,k⟩,hm,e⟩:=m
    by_cases hc:(k==NameKind.free&&X.env.scope.kind == .function&&X.env.kindOf n==some .cell)=true
    ·rw[if_pos hc] at e
     have e1:n=x:=congrArg Prod.fst e
     subst e1
     rw[Bool.and_eq_true,Bool.and_eq_true] at hc
     exact⟨k,hm,.inl (x8u hc.1.1)⟩
    ·rw[if_neg hc] at e
     have e1:n=x:=congrArg Prod.fst e
     have e2:=congrArg Prod.snd e
     dsimp only at e2
     subst e1 e2
     exact⟨_,hm,by first | exact .inr rfl | exact .inl rfl⟩
  obtain⟨k,hm,hk⟩:=hm
  rcases hk with rfl | rfl
  ·obtain⟨⟨a,ea⟩,_⟩:=c.free _ hm rfl
   obtain⟨c',h1,_⟩:=z2t (z7v ea scope.names [] hm)
   exact⟨c',h1⟩
  ·exact absurd rfl (c.nocell _ hm)
 ·refine⟨Nat.ne_of_lt (Nat.lt_of_lt_of_le (ho b hb) hC),fun x k e=>(hf b hb).2.2.2.2.1 x k (cells x k e)⟩
 ·rcases(hf b hb).2.2.2.1 with z | z
  ·exact I.ok.noex b o e z
  ·exact absurd (Nat.lt_of_lt_of_le (Nat.lt_of_lt_of_le (Heap.lt_size e) I.ok.bsz) z) (Nat.lt_irrefl _)
 ·rcases List.mem_cons.mp (I.stkSub b z) with q | q
  ·exact(hf b hb).2.1 q
  ·exact(hf b hb).2.2.1 q
section
variable {X:Cx}{x0 y:Str}{scope:Scope}
theorem y9s{C Dd:Addr}{fp:List Addr}{pins:List (Addr×Obj)}{σ:St}{H₂:Hp}{s₂:Shared}{h₁:Heap}{tk:Nat}{oD:Obj}{m:Str->Option Value}(I:Inv X pins σ H₂ s₂)(c:CompOk2 X.N X.env x0 y scope)(hC:s₂.heap.objs.size<=C)(hD:s₂.heap.objs.size<=Dd)(hDC:Dd≠C)(hf:∀b∈fp,FpOk X pins H₂ b)(ho:∀b∈fp,b<s₂.heap.objs.size)
 (old:∀b o,s₂.heap.get? b=some o->h₁.get? b=some o) (hns:h₁.Ns C m) (hd:h₁.get? Dd=some oD) (hdd:∀v,oD.data ≠ .cell v) :
 Inv (z1t X x0 y scope C s₂ H₂ fp (X.pn++pins)) [(Dd,oD)] (none::none::σ) H₂ { s₂ with heap:=h₁,toks:=tk }:=by
 have cells:∀x k,(capt X.env scope.names []).lookup x=some k->X.env.cells.lookup x=some k:=fun x k e=>by
  rcases z4s scope.names [] (PySem.mem_of_lookup e) with q | q
  ·simp at q
  ·exact q
 have nstk:∀b,s₂.heap.objs.size<=b->b ∉ frs X.stack:=fun b hb z=>by
  rcases List.mem_cons.mp (I.stkSub b z) with q | q
  ·exact absurd (Nat.lt_of_lt_of_le I.lt (by rw[<-q];exact hb)) (Nat.lt_irrefl _)
  ·exact I.nofs hb q
 refine⟨x9s I c hC hf ho,rfl,I.bare,Un.kept old,⟨m,hns,fun i x v e1 e2 e3=>?_⟩,fun x k e=>?_,I.hok.fresh hC,fun x k e=>I.freeC x k (cells x k e),fun p hp=>?_,I.hok.kept old,?_⟩
 ·cases i with
  | zero=>simp at e2
  | succ i =>
  cases i with
  | zero=>simp at e2
  | succ i =>
    have e2':σ[i]? = some (some v):=by simpa using e2
    have e1':(X.N.map (fun z=>if z=x0∨z=y then ("":Str) else z))[i]? = some x:=by simpa [z1t] using e1
    rw[List.getElem?_map] at e1'
    cases hz:X.N[i]? with
    | none=>rw[hz] at e1';cases e1'
    | some z =>
      rw[hz] at e1'
      simp only[Option.map_some,Option.some.injEq] at e1'
      have e3':Vis (relabel scope X.env) x:=e3
      have look0:∀{k:NameKind},(relabel scope X.env).names.lookup x=some k->∃k',(x,k')∈scope.names/\(k'=k∨(k' = .free/\k = .cell)):=fun {k} q=>by
       have m':=PySem.mem_of_lookup q
       unfold relabel at m'
       simp only[List.mem_map] at m'
       obtain⟨⟨n,k0⟩,hm,e⟩:=m'
       by_cases hc:(k0==NameKind.free&&X.env.scope.kind == .function&&X.env.kindOf n==some .cell)=true
       ·rw[if_pos hc] at e
        have e1:n=x:=congrArg Prod.fst e
        have e2:=congrArg Prod.snd e
        dsimp only at e2
        subst e1 e2
        rw[Bool.and_eq_true,Bool.and_eq_true] at hc
        exact⟨k0,hm,.inr ⟨x8u hc.1.1,rfl⟩⟩
       ·rw[if_neg hc] at e
        have e1:n=x:=congrArg Prod.fst e
        have e2:=congrArg Prod.snd e
        dsimp only at e2
        subst e1 e2
        exact⟨_,hm,.inl rfl⟩
      have inames:∀k',(x,k')∈scope.names->x≠("":Str):=fun k' hm z=>by
       subst z
       obtain⟨c',h1,_⟩:=z2t hm
       rw[c.nil] at h1;cases h1
      have ne:x≠("":Str):=by
       rcases e3' with q | q | q<;>(obtain⟨k',hm,_⟩:=look0 q;exact inames k' hm)
      by_cases hzy:z=x0∨z=y
      ·rw[if_pos hzy] at e1';exact absurd e1'.symm ne
      ·rw[if_neg hzy] at e1'
       subst e1'
       have fr:(z,NameKind.free)∈scope.names:=by
        rcases e3' with q | q | q
        ·obtain⟨k',hm,hk⟩:=look0 q
         rcases hk with rfl | ⟨_,hk⟩
         ·exact absurd (c.only z (List.mem_of_getElem? hz) (c.names _ hm rfl)) hzy
         ·cases hk
        ·obtain⟨k',hm,hk⟩:=look0 q
         rcases hk with rfl | ⟨rfl,_⟩
         ·exact absurd rfl (c.nocell _ hm)
         ·exact hm
        ·obtain⟨k',hm,hk⟩:=look0 q
         rcases hk with rfl | ⟨_,hk⟩
         ·exact hm
         ·cases hk
       obtain⟨⟨ca,eca⟩,hv⟩:=c.free _ fr rfl
       obtain⟨m0,hn0,hl0⟩:=I.loc
       obtain⟨u,ru,lk⟩:=hl0 i z v hz e2' (.inr hv)
       refine⟨u,ru,?_⟩
       rcases lk with ⟨q,_⟩ | ⟨_,k,ek,hk⟩
       ·exfalso
        have q':X.env.scope.names.lookup z=some .local:=q
        rcases hv with w | w<;>(rw[q'] at w;cases w)
       ·obtain⟨c',h1,_⟩:=z2t (z7v ek scope.names [] fr)
        have h2:=cells z c' h1
        rw[ek] at h2;cases h2
        refine .inr ⟨?_,k,h1,?_⟩
        ·rcases e3' with q | q | q
         ·exfalso
          obtain⟨k',hm,hk'⟩:=look0 q
          rcases hk' with rfl | ⟨_,hk'⟩
          ·exact hzy (c.only z (List.mem_of_getElem? hz) (c.names _ hm rfl))
          ·cases hk'
         ·exact .inl q
         ·exact .inr q
        ·obtain⟨o,ho',hd'⟩:=hk
         exact⟨o,old _ _ ho',hd'⟩
 ·obtain⟨v,o,ho',hd'⟩:=I.cell x k (cells x k e)
  exact⟨v,o,old _ _ ho',hd'⟩
 ·rcases List.mem_append.mp hp with q | q
  ·obtain⟨h1,h2,h3,h4,h5⟩:=I.pin p q
   refine⟨old _ _ h1,h2,Nat.ne_of_lt (Nat.lt_of_lt_of_le (Heap.lt_size h1) hC),fun z=>?_,h5⟩
   rcases List.mem_cons.mp (I.stkSub p.1 z) with q' | q'
   ·exact h3 q'
   ·exact h4 q'
  ·have e:p=(Dd,oD):=by simpa using q
   subst e
   exact⟨hd,I.hok.fresh hD,hDC,nstk Dd hD,hdd⟩
 ·show σ.length+1+1=(x0::y::X.N.map _).length
  rw[List.length_cons,List.length_cons,List.length_map,I.len]
structure PC2 (X:Cx) (x0 y:Str) (scope:Scope) (ifs:List Expr) (elt:Expr) (f:D->D->G->R (Option D)):Prop where
 run:∀(C:Addr) (s₂:Shared) (H₂:Hp) (fp:List Addr) (pn:List (Addr×Obj)) (pins:List (Addr×Obj)) (s:Shared) (σ:St) (H:Hp) (F:List Addr) (Γ:G) (d d2:D),Inv (z1t X x0 y scope C s₂ H₂ fp pn) pins σ H s->FOk H F->Rel X.K H F (.ro d :: .ro d2::Γ) σ->(∃o,f d d2 Γ = .ok o) ->
  wpAny (model X.prog X.w) X.A (forIn ifs true fun c r=>if r=true then do let ok <-isTrue c (compEnvC scope (capt X.env scope.names []) C X.env) (eval c (compEnvC scope (capt X.env scope.names []) C X.env));pure (ForInStep.yield ok) else pure (ForInStep.yield r)) (fun ok s₃ =>
   if ok=true then wpAny (model X.prog X.w) X.A (eval elt (compEnvC scope (capt X.env scope.names []) C X.env)) (fun u s₄=>∃e v H',f d d2 Γ = .ok (some e)/\Inv (z1t X x0 y scope C s₂ H₂ fp pn) pins σ H' s₄/\RelV v u/\Same H H'/\Is X.K (hid F H') e v) (fun _ _=>False) s₃
   else f d d2 Γ = .ok none/\∃H',Inv (z1t X x0 y scope C s₂ H₂ fp pn) pins σ H' s₃/\Same H H') (fun _ _=>False) s
theorem x8i{elt c:Expr}{gc:G->R Bool}{ge:G->R D}(hc:∀C s₂ H₂ fp pn,PTD (z1t X x0 y scope C s₂ H₂ fp pn) c gc)(he:∀C s₂ H₂ fp pn,PDr (z1t X x0 y scope C s₂ H₂ fp pn) elt ge):PC2 X x0 y scope [c] elt (y4z gc ge):=by
 refine⟨fun C s₂ H₂ fp pn pins s σ H F Γ d d2 I fo rl ⟨o,eo⟩=>?_⟩
 have hne:gc (.ro d :: .ro d2::Γ) ≠ .no:=fun z=>by unfold y4z at eo;rw[z] at eo;cases eo
 refine wpAny_tests_one (wpAny_mono ((hc C s₂ H₂ fp pn).run pins s σ H F (.ro d :: .ro d2::Γ) I fo rl hne) (fun k s3 ⟨H1,e1,I1,S1⟩=>?_) fun x s' ⟨c',H',e1,_⟩=>?_)
 ·have eo':(if k=true then ge (.ro d :: .ro d2::Γ)>>=fun e=>R.ok (some e) else .ok none) = .ok o:=by
   unfold y4z at eo;rw[e1] at eo;exact eo
  cases k with
  | false =>
    rw[if_neg Bool.false_ne_true]
    exact⟨R.step e1 _,H1,I1,S1⟩
  | true =>
    rw[if_pos rfl] at eo' ⊢
    have hne2:ge (.ro d :: .ro d2::Γ) ≠ .no:=fun z=>by rw[z] at eo';cases eo'
    refine wpAny_mono ((he C s₂ H₂ fp pn).run pins s3 σ H1 F (.ro d :: .ro d2::Γ) I1 (fo.same S1) (rl.same S1) hne2) (fun u s4 ⟨e,v,H',e2,I',rv,S,iv⟩=>⟨e,v,H',(R.step e1 _).trans (R.step e2 _),I',rv,S1.trans S,iv⟩) fun x s' ⟨c',H',e2,_⟩=>?_
    rw[e2] at eo';cases eo'
 ·unfold y4z at eo;rw[e1] at eo;cases eo
noncomputable def JC2(K:PySem.W.Frag)(H:Hp)(F:List Addr)(J:It)(ds:List D):Prop:=∀H1,Same H H1 ->
 (∀i:Nat,i<ds.length->J.go i H1/\∀v H2,J.yld i H1 v H2->Same H1 H2/\∃d1 d2 q v1 v2,ds[i]? = some (.tup [d1,d2])/\v = .ref q/\SqT K H2 q [v1,v2]/\Is K (hid F H2) d1 v1/\Is K (hid F H2) d2 v2)/\J.stop ds.length H1
theorem x8j{prog:Program}{w:World}{A:Around}{Z:Result->Shared->Prop}{s0:Shared}{elt iter:Expr}{es ifs:List Expr}{kt}{pt pos:Pos}{scope:Scope}{it acc:Value}{env:Env}(K:Nat->Shared->Prop)
 (one:∀n s,K n s->wpAny (model prog w) A (pyNext it) (fun r s1=>match r with
   | some v=>wpAny (model prog w) A (letOwnedTupleGo (.Tuple es kt pt) it v) (fun _ s2=>wpAny (model prog w) A (assign (.Tuple es kt pt) env v) (fun _ s3 =>
      wpAny (model prog w) A (forIn ifs true fun c r=>if r=true then do let ok <-isTrue c env (eval c env);pure (ForInStep.yield ok) else pure (ForInStep.yield r)) (fun ok s4 =>
       if ok=true then wpAny (model prog w) A (eval elt env) (fun x s5 =>
        wpAny (model prog w) A (call (.builtin "list.append") [acc,x]) (fun _ s6=>∃m,m<n/\K m s6) (notedBy (model prog w) A env fun e s'=>Z (.error e) s') s5) (notedBy (model prog w) A env fun e s'=>Z (.error e) s') s4
       else ∃m,m<n/\K m s4) (notedBy (model prog w) A env fun e s'=>Z (.error e) s') s3) (notedBy (model prog w) A env fun e s'=>Z (.error e) s') s2) (notedBy (model prog w) A env fun e s'=>Z (.error e) s') s1
   | none=>Z (.ok .next) s1) (notedBy (model prog w) A env fun e s'=>Z (.error e) s') s)
 (n:Nat) (h0:K n s0):codeAny (model prog w) A (.compLoop (.ListComp elt [⟨.Tuple es kt pt,iter,ifs,0⟩] scope pos) 0 it acc env) Z s0:=by
 refine codeAny_loop rfl K (fun n s hK=>?_) n h0
 show wpAny _ A ((compTurn (.ListComp elt [⟨.Tuple es kt pt,iter,ifs,0⟩] scope pos) 0 it acc env).onRaise (fun x=>do noteFrame x env;theTreesLotGoes x)) _ _ s
 refine wpAny_noted ?_
 rw[compTurn_list]
 refine wpAny_bind (wpAny_standAt (wpAny_bind (wpAny_mono (one n s hK) (fun r s1 q1=>?_) fun _ _ q=>q)))
 cases r with
 | some v =>
   refine wpAny_bind (wpAny_mono q1 (fun _ s2 q2=>?_) fun _ _ q=>q)
   refine wpAny_bind (wpAny_mono q2 (fun _ s3 q3=>wpAny_bind (wpAny_mono q3 (fun ok s4 q4=>?_) fun _ _ q=>q)) fun _ _ q=>q)
   cases ok with
   | true=>exact wpAny_bind (wpAny_bind (wpAny_mono q4 (fun x s5 q5=>wpAny_bind (wpAny_mono q5 (fun _ s6 q6=>wpAny_pure (wpAny_pure ⟨rfl,q6⟩)) fun _ _ q=>q)) fun _ _ q=>q))
   | false=>exact wpAny_pure ⟨rfl,q4⟩
 | none=>exact wpAny_pure q1
theorem x2z{elt iter:Expr}{p0 px pt pos:Pos}{kt}{ifs:List Expr}{f:D->D->G->R (Option D)}{pins:List (Addr×Obj)}{σ:St}{H₂:Hp}{s₂:Shared}{F:List Addr}{Γ:G}{items:List D}{it:Addr}{fp:List Addr}{tn:Nat->Heap->Prop}{J:It}{E:Value->Shared->Prop}{total:List D}
 (hp:PC2 X x0 y scope ifs elt f) (c:CompOk2 X.N X.env x0 y scope) (hN:X.N.Nodup) (hcalm:X.calm=true) (I:Inv X pins σ H₂ s₂) (fo:FOk H₂ F) (rl:Rel X.K H₂ F Γ σ) (T:Turn X.prog X.w X.K (.Tuple [.Name x0 p0,.Name y px] kt pt) J fp it tn) (t0:tn 0 s₂.heap) (hf:∀b∈fp,FpOk X pins H₂ b) (hj:JC2 X.K H₂ F J items)
 (ht:z0y (y1a f Γ) items [] = .ok total) (hl:items.length<=100000) {RR:Value->Addr->Result->Shared->Prop}
 (hR:∀(Dd C:Addr) (xs:List V) (H':Hp) (m:Str->Option Value) (s':Shared),s₂.heap.objs.size<=C->Dd≠C->H₂ Dd=none->H' Dd=none->H' C=none->s₂.heap.objs.size<=Dd->Same H₂ H'->IsAll X.K (hid F H') total xs->Inv X pins σ (upd H' Dd (.lst xs)) s'->s'.heap.Ns C m->RR (.ref Dd) C (.ok .next) s') :
 wpAny (model X.prog X.w) X.A (newList []) (fun acc s₃=>wpAny (model X.prog X.w) X.A (newFunctionEnv scope X.env.globals (capt X.env scope.names []) [] X.env.qual none .none (some X.env)) (fun cenv s₄ =>
  codeAny (model X.prog X.w) X.A (.compStart (.ListComp elt [⟨.Tuple [.Name x0 p0,.Name y px] kt pt,iter,ifs,0⟩] scope pos) 0 (.ref it) acc { cenv with scope:=relabel scope X.env }) (RR acc cenv.locals) s₄) E s₃) E s₂:=by
 have ho:∀b∈fp,b<s₂.heap.objs.size:=fun b hb=>by obtain⟨o,e,_⟩:=T.obj _ _ t0 b hb;exact Heap.lt_size e
 refine wpAny_newObj_type (wpAny_newFunctionEnv c.nocell (by intro y hy;simp at hy) (fun h₁ hns₁ hsb₁=>?_) c.kind)
 dsimp only at hns₁ hsb₁ ⊢
 generalize hH2:s₂.heap.push { cls:=.type "list",dict:=none,data:=.seq ([]:List Value).toArray }=H2 at hns₁ hsb₁ ⊢
 have hCs:H2.objs.size=s₂.heap.objs.size+1:=by rw[<-hH2,Heap.size_push]
 generalize hCC:H2.objs.size=C at hns₁ hsb₁ hCs ⊢
 generalize hDD:s₂.heap.objs.size=Dd at hCs ⊢
 obtain⟨⟨hDC,hC,hD⟩,below⟩:=sb2 hCs hDD
 have old:∀b o,s₂.heap.get? b=some o->h₁.get? b=some o:=fun b o e=>by
  refine hsb₁.extBut b o (below b (Heap.lt_size e)).1 ?_
  exact Heap.get?_push_of_some _ (hH2 ▸ Heap.get?_push_of_some _ e)
 have hacc:h₁.get? Dd=some { cls:=.type "list",dict:=none,data:=.seq ([]:List Value).toArray }:=by
  refine hsb₁.extBut _ _ hDC ?_
  refine Heap.get?_push_of_some _ ?_
  rw[<-hH2,<-hDD]
  exact Heap.get?_push_size _ rfl
 have J0:∀tk,Inv (z1t X x0 y scope C s₂ H₂ fp (X.pn++pins)) [(Dd,{ cls:=.type "list",dict:=none,data:=.seq ([]:List Value).toArray })] (none::none::σ) H₂ { s₂ with heap:=h₁,toks:=tk }:=fun tk =>
  y9s I c hC hD hDC hf ho old hns₁ hacc (fun v z=>nomatch z)
 have t1:tn 0 h₁:=T.keep _ _ _ t0 fun b hb o e=>old b o e
 have fpY:∀{H':Hp} {o:Obj},(∀b∈fp,H' b=none)->∀b∈fp,FpOk (z1t X x0 y scope C s₂ H₂ fp (X.pn++pins)) [(Dd,o)] H' b:=fun {H' o} hn b hb=>by
  obtain⟨f0,f1,f2,f3,f4,f5⟩:=hf b hb
  have lt:=ho b hb
  refine⟨hn b hb,(below b lt).1,fun z=>?_,.inl hb,fun x k e=>?_,fun p hp'=>?_⟩
  ·rcases List.mem_cons.mp (I.stkSub b z) with q | q
   ·exact f1 q
   ·exact f2 q
  ·rcases z4s scope.names [] (PySem.mem_of_lookup e) with q | q
   ·simp at q
   ·exact f4 x k q
  ·rcases List.mem_append.mp hp' with q | q
   ·exact f5 p q
   ·have e:p=(Dd,o):=by simpa using q
    subst e
    exact Ne.symm (below b lt).2
 have NdY:(z1t X x0 y scope C s₂ H₂ fp (X.pn++pins)).N.Nodup:=by
  show(x0::y::X.N.map (fun z=>if z=x0∨z=y then ("":Str) else z)).Nodup
  have ne0:∀q:Str,scope.names.lookup q=some .local->q ∉ X.N.map (fun z=>if z=x0∨z=y then ("":Str) else z)∨True:=fun _ _=>.inr trivial
  have out:∀q:Str,scope.names.lookup q=some .local->(q=x0∨q=y)->q ∉ X.N.map (fun z=>if z=x0∨z=y then ("":Str) else z):=fun q hq hqq z=>by
   obtain⟨z',hz,e⟩:=List.mem_map.mp z
   by_cases w':z'=x0∨z'=y
   ·rw[if_pos w'] at e
    subst e
    rw[c.nil] at hq;cases hq
   ·rw[if_neg w'] at e
    subst e
    exact w' hqq
  refine List.nodup_cons.mpr ⟨fun z=>?_,List.nodup_cons.mpr ⟨out y c.loc.2.1 (.inr rfl),?_⟩⟩
  ·rcases List.mem_cons.mp z with e | e
   ·exact c.loc.2.2.1 e
   ·exact out x0 c.loc.1 (.inl rfl) e
  ·have inj:∀a∈X.N,∀b∈X.N,(if a=x0∨a=y then ("":Str) else a)=(if b=x0∨b=y then ("":Str) else b)->a=b∨((a=x0∨a=y)/\(b=x0∨b=y)):=fun a ha b hb e=>by
    by_cases qa:a=x0∨a=y
    ·by_cases qb:b=x0∨b=y
     ·exact .inr ⟨qa,qb⟩
     ·rw[if_pos qa,if_neg qb] at e;exact absurd e.symm ((c.none.resolve_right fun z=>qa.elim (fun e=>z.1 (e ▸ ha)) fun e=>z.2 (e ▸ ha)) b hb)
    ·by_cases qb:b=x0∨b=y
     ·rw[if_neg qa,if_pos qb] at e;exact absurd e ((c.none.resolve_right fun z=>qb.elim (fun e=>z.1 (e ▸ hb)) fun e=>z.2 (e ▸ hb)) a ha)
     ·rw[if_neg qa,if_neg qb] at e;exact .inl e
   have gen:∀l:List Str,(∀a∈l,a∈X.N)->l.Nodup->(l.map (fun z=>if z=x0∨z=y then ("":Str) else z)).Nodup:=by
    intro l
    induction l with
    | nil=>intro _ _;exact List.nodup_nil
    | cons a l ih =>
      intro hs nd
      obtain⟨n1,n2⟩:=List.nodup_cons.mp nd
      rw[List.map_cons]
      refine List.nodup_cons.mpr ⟨fun z=>?_,ih (fun b hb=>hs b (List.mem_cons_of_mem _ hb)) n2⟩
      obtain⟨b,hb,e⟩:=List.mem_map.mp z
      rcases inj b (hs b (List.mem_cons_of_mem _ hb)) a (hs a List.mem_cons_self) e with q | q
      ·exact n1 (q ▸ hb)
      ·have ha:=hs a List.mem_cons_self
       have hb':=hs b (List.mem_cons_of_mem _ hb)
       have hab:b≠a:=fun z=>n1 (z ▸ hb)
       have both:x0∈X.N/\y∈X.N:=by
        rcases q.1 with rfl | rfl<;>rcases q.2 with rfl | rfl
        ·exact absurd rfl hab
        ·exact⟨hb',ha⟩
        ·exact⟨ha,hb'⟩
        ·exact absurd rfl hab
       rcases c.loc.2.2.2 with z | z
       ·exact z both.1
       ·exact z both.2
   exact gen X.N (fun _ h=>h) hN
 let L:Nat->Shared->Prop:=fun n s'=>∃(i:Nat) (H':Hp) (o o2:Option V) (xs:List V) (its:List Value) (acc:List D) (k:Nat),n=items.length-i/\i<=items.length/\Inv (z1t X x0 y scope C s₂ H₂ fp (X.pn++pins)) [(Dd,{ cls:=.type "list",dict:=none,data:=.seq its.toArray k })] (o::o2::σ) H' s' /\
  Same H₂ H'/\(∀b∈fp,H' b=none)/\tn i s'.heap/\Vals xs its/\acc.length<=i/\IsAll X.K (hid F H') acc xs/\z0y (y1a f Γ) (items.drop i) acc = .ok total
 have loop:∀s₄:Shared,L items.length s₄->codeAny (model X.prog X.w) X.A (.compLoop (.ListComp elt [⟨.Tuple [.Name x0 p0,.Name y px] kt pt,iter,ifs,0⟩] scope pos) 0 (.ref it) (.ref Dd) (compEnvC scope (capt X.env scope.names []) C X.env)) (RR (.ref Dd) C) s₄:=fun s₄ h4=>by
  refine x8j L (fun n s' hL=>wpAny_mono (E:=fun _ _=>False) ?_ (fun _ _ q=>q) fun _ _ z=>z.elim) items.length h4
  obtain⟨i,H',o,o2,xs,its,acc,k,en,hi,J',S',fr',tn',rv,hal,ia,eg⟩:=hL
  obtain⟨jgo,jstop⟩:=hj H' S'
  have hpD:=J'.pin (Dd,{ cls:=.type "list",dict:=none,data:=.seq its.toArray k }) (List.mem_append_right _ (by simp))
  have hxl:xs.length<=100000:=by rw[<-ia.length];exact Nat.le_trans hal (Nat.le_trans hi hl)
  have hsl:(100000:Nat)<=sizeLine:=by rw[sizeLine_eq];decide
  by_cases hlt:i<items.length
  ·obtain⟨go,yl⟩:=jgo i hlt
   refine thn (T.item (z1t X x0 y scope C s₂ H₂ fp (X.pn++pins)) rfl rfl rfl hcalm i _ s' _ H' (fun _ _=>False) J' (fpY fr') tn' go) fun r s2 ⟨u,hr,h1⟩=>?_
   subst hr
   refine wpAny_mono h1 (fun _ s2 ⟨x,H5,J5,r5,y5,st5,fr5⟩=>?_) fun _ _ z=>z.elim
   obtain⟨S5,d1,d2,q,v1,v2,ed,rfl,sq5,iv1,iv2⟩:=yl x H5 y5
   have J5':=J5.pinned (fpY fr5) (T.obj _ _ st5)
   have S6:=S'.trans S5
   have hdrop:items.drop i = .tup [d1,d2]::items.drop (i+1):=by
    rw[List.drop_eq_getElem_cons hlt]
    have:items[i] = .tup [d1,d2]:=by
     have:=List.getElem?_eq_getElem hlt
     rw[ed] at this;exact(Option.some.inj this).symm
    rw[this]
   rw[hdrop] at eg
   have hfo:∃od,f d1 d2 Γ = .ok od/\(match od with | some e=>z0y (y1a f Γ) (items.drop (i+1)) (acc++[e]) | none=>z0y (y1a f Γ) (items.drop (i+1)) acc) = .ok total:=by
    unfold z0y at eg
    have ep:y1a f Γ (.tup [d1,d2])=f d1 d2 Γ:=rfl
    rw[ep] at eg
    cases q:f d1 d2 Γ with
    | no=>rw[q] at eg;cases eg
    | er c'=>rw[q] at eg;cases eg
    | ok od =>
      refine⟨od,rfl,?_⟩
      rw[q] at eg
      cases od with
      | none=>exact eg
      | some e=>exact eg
   obtain⟨od,eod,etot⟩:=hfo
   have hpg:PG (z1t X x0 y scope C s₂ H₂ fp (X.pn++pins)).nox (.Tuple [.Name x0 p0,.Name y px] kt pt) (L2.gTup X.K 2 (L2.gCons (y7t 0) (L2.gCons (y7t 1) L2.gNil))) :=
    w0o (X:=(z1t X x0 y scope C s₂ H₂ fp (X.pn++pins)).nox) hcalm (z7r (z6u (X:=(z1t X x0 y scope C s₂ H₂ fp (X.pn++pins)).nox) NdY rfl (.inl (lookup_relabel_local c.loc.1)) (.inr (lookup_relabel_local c.loc.1))) (z7r (z6u (X:=(z1t X x0 y scope C s₂ H₂ fp (X.pn++pins)).nox) NdY rfl (.inl (lookup_relabel_local c.loc.2.1)) (.inr (lookup_relabel_local c.loc.2.1))) y9d rfl) rfl) rfl rfl
   refine wpAny_mono (hpg _ s2 (o::o2::σ) H5 (.ref q) u (fun σ' H'=>σ'=some v1::some v2::σ/\H'=H5) (J5'.wish _) r5 ⟨q,[v1,v2],rfl,sq5,rfl,v1,[v2],rfl,v2,[],rfl,rfl,rfl,rfl⟩) (fun _ s3 ⟨σ6,H6,J6,e6,e6'⟩=>?_) fun _ _ z=>z.elim
   subst e6 e6'
   have J6':=J6.unwish
   have fo6:=fo.same S6
   have back:∀{s5:Shared} {H7:Hp} {σ7:St},Inv (z1t X x0 y scope C s₂ H₂ fp (X.pn++pins)) ([(Dd,{ cls:=.type "list",dict:=none,data:=.seq its.toArray k })]++y2s fp s2.heap) σ7 H7 s5->tn (i+1) s5.heap/\(∀b∈fp,H7 b=none):=fun {s5 H7 σ7} J7=>by
    refine⟨T.keep _ _ _ st5 fun b hb o' e=>(J7.pin (b,o') (List.mem_append_right _ (List.mem_append_right _ (z2x hb e)))).1,fun b hb=>?_⟩
    obtain⟨o',e,dd⟩:=T.obj _ _ st5 b hb
    exact(J7.pin (b,o') (List.mem_append_right _ (List.mem_append_right _ (z2x hb e)))).2.1
   refine wpAny_mono (hp.run C s₂ H₂ fp (X.pn++pins) _ s3 _ H6 F Γ d1 d2 J6' fo6 (y5o (y5o (rl.same S6) iv2) iv1) ⟨od,eod⟩) (fun ok s4 h4=>?_) fun _ _ z=>z.elim
   cases ok with
   | false =>
     rw[if_neg Bool.false_ne_true] at h4 ⊢
     obtain⟨ef,H7,J7,S7⟩:=h4
     rw[eod] at ef;cases ef
     obtain⟨tn7,fr7⟩:=back J7
     exact⟨items.length-(i+1),sb1 en hlt,i+1,H7,some v1,some v2,xs,its,acc,k,rfl,hlt,J7.unpinned,S6.trans S7,fr7,tn7,rv,Nat.le_succ_of_le hal,ia.same (z2h (S5.trans S7)),etot⟩
   | true =>
     rw[if_pos rfl] at h4 ⊢
     refine wpAny_mono h4 (fun u7 s5 ⟨e,v7,H7,ef,J7,r7,S7,iv7⟩=>?_) fun _ _ z=>z.elim
     rw[eod] at ef;cases ef
     obtain⟨tn7,fr7⟩:=back J7
     have J8:=J7.unpinned
     have hpD7:=J8.pin (Dd,{ cls:=.type "list",dict:=none,data:=.seq its.toArray k }) (List.mem_append_right _ (by simp))
     have hlen:its.length=acc.length:=by rw[<-rv.length,<-ia.length]
     refine wpAny_list_append_plain (l:=Dd) (items:=its.toArray) (x:=u7) ⟨k,hpD7.1⟩ (fun h' hl' hs'=>?_) (by rw[List.size_toArray,<-rv.length];exact Nat.le_trans hxl hsl)
     obtain⟨k',hk'⟩:=hl'
     have epush:its.toArray.push u7=(its++[u7]).toArray:=by simp
     rw[epush] at hk'
     have J9:Inv (z1t X x0 y scope C s₂ H₂ fp (X.pn++pins)) [] (some v1::some v2::σ) H7 s5:=J8.pins_of fun p hp'=>by simp at hp'
     have J10:Inv (z1t X x0 y scope C s₂ H₂ fp (X.pn++pins)) [] (some v1::some v2::σ) H7 { s5 with heap:=h' }:=J9.turned (t':=s5.toks) (it:=Dd) (fun b o' hb e'=>(hs'.2 b hb).trans e') hpD7.2.1 hDC (.inr hD) (fun x' k'' e' z=>by
      rcases z4s scope.names [] (PySem.mem_of_lookup e') with q | q
      ·simp at q
      ·obtain⟨v',o',ho',_⟩:=I.cell x' k'' q
       exact(below k'' (Heap.lt_size ho')).2 z) (fun p hp' z=>by
      rcases List.mem_append.mp hp' with q | q
      ·obtain⟨h1',_⟩:=I.pin p q
       exact(below p.1 (Heap.lt_size h1')).2 z
      ·simp at q)
     have J11:Inv (z1t X x0 y scope C s₂ H₂ fp (X.pn++pins)) [(Dd,{ cls:=.type "list",dict:=none,data:=.seq (its++[u7]).toArray k' })] (some v1::some v2::σ) H7 { s5 with heap:=h' }:=J10.pins_of fun p hp'=>by
      have e':p=(Dd,{ cls:=.type "list",dict:=none,data:=.seq (its++[u7]).toArray k' }):=by simpa using hp'
      subst e'
      exact⟨hk',hpD7.2.1,hDC,hpD7.2.2.2.1,fun v z=>nomatch z⟩
     refine⟨items.length-(i+1),sb1 en hlt,i+1,H7,some v1,some v2,xs++[v7],its++[u7],acc++[e],k',rfl,hlt,J11,S6.trans S7,fr7,T.keep _ _ _ tn7 fun b hb o' e'=>(hs'.2 b (below b (ho b hb)).2).trans e',rv.append (.cons r7 .nil),by rw[List.length_append,List.length_singleton];exact Nat.succ_le_succ hal,(ia.same (z2h (S5.trans S7))).append (IsAll.cons iv7 IsAll.nil),etot⟩
  ·have hi':i=items.length:=Nat.le_antisymm hi (Nat.le_of_not_lt hlt)
   subst hi'
   refine thn (T.done (z1t X x0 y scope C s₂ H₂ fp (X.pn++pins)) rfl rfl rfl hcalm _ _ s' _ H' (fun _ _=>False) J' (fpY fr') tn' jstop) fun r s1 ⟨hr,J1⟩=>?_
   subst hr
   have hpD1:=J1.pin (Dd,{ cls:=.type "list",dict:=none,data:=.seq its.toArray k }) (List.mem_append_right _ (by simp))
   rw[List.drop_length] at eg
   have:acc=total:=by unfold z0y at eg;cases eg;rfl
   subst this
   obtain⟨mC,hnC,_⟩:=J1.loc
   exact hR Dd C xs H' mC s1 hC hDC (I.hok.fresh hD) hpD1.2.1 J1.free hD S' ia (x2y I J1 hD hpD1.2.1 hpD1.1 rv (Nat.le_trans hxl hsl) hf) hnC
 have L0:∀tk,L items.length { s₂ with heap:=h₁,toks:=tk }:=fun tk=>⟨0,H₂,none,none,[],[],[],_,rfl,Nat.zero_le _,J0 tk,.refl _,fun b hb=>(hf b hb).1,t1,.nil,Nat.le_refl _,IsAll.nil,by rw[List.drop_zero];exact ht⟩
 exact codeAny_compStart_list (loop _ (L0 _)) (T.self _ 0 _ _ _ t1 (loop _ (L0 _)))
theorem x8h{elt iter:Expr}{p0 px pt pos:Pos}{kt}{ifs:List Expr}{f:D->D->G->R (Option D)}{gi:G->R (List D)}(hi:PIx JC2 X (.Tuple [.Name x0 p0,.Name y px] kt pt) iter gi)(hp:PC2 X x0 y scope ifs elt f)(hN:X.N.Nodup)(hcalm:X.calm=true)
 (chk:y6g X.N X.env x0 y scope=true:=by rfl) (hclos:closureFor scope X.env=pure (capt X.env scope.names []):=by rfl) (hs:∀x,foldedSetIterable iter X.env x=pure x:=by intro _;rfl) :
 PF X (.ListComp elt [⟨.Tuple [.Name x0 p0,.Name y px] kt pt,iter,ifs,0⟩] scope pos) (y3p gi f):=by
 refine⟨fun pins s σ H F Γ I fo rl hg=>?_⟩
 have c:=x2w chk
 rw[eval_ListComp]
 refine wpAny_comprehension_free (use:=none) rfl hs hclos c.kind c.names (wpAny_mono (hi.run pins s σ H F Γ I fo rl (R.left hg)) (fun xv s₁ h₁=>wpAny_mono h₁ (fun itv s₂ h₂=>?_) fun _ _ x=>x.bind _) fun _ _ x=>x.bind _)
 obtain⟨items,it,fp,tn,J,H₂,e1,rfl,I2,S2,T,t0,fk,jc⟩:=h₂
 have hgx:=R.next hg e1
 obtain⟨hl,e2⟩:=R.guard_ne hgx
 have hne:z0y (y1a f Γ) items [] ≠ .no:=by
  have:=R.next hg e1
  rw[e2] at this;exact this
 obtain⟨total,et⟩:=z8y hne
 refine x2z (RR:=fun acc C=>compPost (model X.prog X.w) X.A _ none _ acc C) hp c hN hcalm I2 (fo.same S2) (rl.same S2) T t0 fk jc et hl ?_
 intro Dd C xs H' m s' hC hDC hn hn' hnC hD S' ia I' hnsC
 refine⟨m,hnsC,fun h'' hs''=>?_⟩
 have nlt:∀{b:Addr} {o:Obj},s₂.heap.get? b=some o->b≠C:=fun e=>Nat.ne_of_lt (Nat.lt_of_lt_of_le (Heap.lt_size e) hC)
 have I'':Inv X pins σ (upd H' Dd (.lst xs)) { s' with heap:=h'' }:=I'.turned (t':=s'.toks) (it:=C) (fun b o hb e=>hs''.extBut b o hb e) (by rw[z0u (Ne.symm hDC)];exact hnC) (Nat.ne_of_gt (Nat.lt_of_lt_of_le I2.lt hC)) (.inr (Nat.le_trans I2.sz hC))
  (fun x k e=>by obtain⟨v,o,ho,_⟩:=I2.cell x k e;exact nlt ho) (fun p hp'=>nlt (I2.pin p hp').1)
 have S3:=z1r hn' (.lst xs)
 refine⟨total,Dd,xs,_,(R.step e1 _).trans (e2.trans et),I'',rfl,(S2.trans S').trans S3,S2.free hn,z0q,ia.same fun b o hb=>?_⟩
 obtain⟨z1,z2⟩:=z3x hb
 have hbl:b≠Dd:=z0z z2 hn'
 rw[z1o fun z=>(List.mem_cons.mp z).elim hbl z1,z0u hbl]
 exact z2
end
section
variable {prog:Program}{w:World}{A:Around}{E:Value->Shared->Prop}{s:Shared}
end
section
variable {prog:Program}{w:World}{A:Around}{E:Value->Shared->Prop}{s:Shared}{b1 b2:Bool}
end
section
variable {prog:Program}{w:World}{A:Around}{E:Value->Shared->Prop}{s:Shared}{b1 b2:Bool}
end
section
variable {X:Cx}{pins:List (Addr×Obj)}{σ:St}{H:Hp}{s:Shared}{h':Heap}
theorem w3z{ch:List Addr}{t':Nat}(I:Inv X pins σ H s)(hf:∀b∈ch,FpOk X pins H b)(k:∀b o,b ∉ ch->s.heap.get? b=some o->h'.get? b=some o):Inv X pins σ H { s with heap:=h',toks:=t' }:=by
 have nit:∀b u,H b=some u->b ∉ ch:=fun b u e z=>by rw[(hf b z).1] at e;cases e
 have nL:X.env.locals ∉ ch:=fun z=>(hf _ z).2.1 rfl
 refine I.step (g':=s.gens) (d':=s.drawn) (ch:=ch) (fun b hb=>?_) (fun b o _ _ hc e _=>k b o hc e) (fun b o _ _ hc e _=>⟨o.slots,k b o hc e⟩) (fun _ _ _ _ n=>n) (fun b o hc e=>⟨o,k b o hc e⟩) (fun _ _ e=>e) (fun _ _ _ e=>e) (fun b ps e=>⟨#[],by rw[e];simp⟩) (fun m hm=>?_) (fun b u e=>?_) I.bare
 ·obtain⟨f0,f1,f2,f3,f4,f5⟩:=hf b hb
  exact⟨f3.imp_right fun z=>Heap.get?_none_of_le z,f1,f4,f5⟩
 ·obtain⟨o,es,ep,ho,r⟩:=hm
  exact⟨o,es,ep,k _ o nL ho,r⟩
 ·refine(I.hok b u e).stay (fun c v hc q=>k c v ?_ q) (fun _ q=>q) fun _ _ q=>q
  rcases hc with z | z
  ·rw[z];exact nit b u e
  ·exact nit c _ z
theorem w3y{ch:List Addr}{t':Nat}{T:Addr}{xs:List V}{its:List Value}(I:Inv X pins σ H s)(hf:∀b∈ch,FpOk X pins H b)(k:∀b o,b ∉ ch->s.heap.get? b=some o->h'.get? b=some o)(hT:s.heap.objs.size<=T)(hz:xs.length<=sizeLine)(rv:Vals xs its)(ht:IsTup h' T its.toArray):Inv X pins σ (upd H T (.tup xs)) { s with heap:=h',toks:=t' }:=by
 have nit:∀b u,H b=some u->b ∉ ch:=fun b u e z=>by rw[(hf b z).1] at e;cases e
 have nL:X.env.locals ∉ ch:=fun z=>(hf _ z).2.1 rfl
 have hn:H T=none:=I.hok.fresh hT
 have neT:∀b o,s.heap.get? b=some o->b≠T:=fun b o e=>Nat.ne_of_lt (Nat.lt_of_lt_of_le (Heap.lt_size e) hT)
 have nT:∀b u,H b=some u->b≠T:=fun b u e=>z0z e hn
 refine I.step (g':=s.gens) (d':=s.drawn) (ch:=ch) (fun b hb=>?_) (fun b o _ _ hc e _=>k b o hc e) (fun b o _ _ hc e _=>⟨o.slots,k b o hc e⟩) (fun b o _ e n=>by rw[z0u (neT b o e)];exact n) (fun b o hc e=>⟨o,k b o hc e⟩)
  (fun b u e=>by rw[z0u (nT b _ e)];exact e) (fun b o u e=>by rw[z0u (nT b _ e)];exact e) (fun b ps e=>⟨#[],by rw[z0u (nT b _ e),e];simp⟩) (fun m hm=>?_) (fun b u e=>?_) I.bare
 ·obtain⟨f0,f1,f2,f3,f4,f5⟩:=hf b hb
  exact⟨f3.imp_right fun z=>Heap.get?_none_of_le z,f1,f4,f5⟩
 ·obtain⟨o,es,ep,ho,r⟩:=hm
  exact⟨o,es,ep,k _ o nL ho,r⟩
 ·by_cases hb:b=T
  ·subst hb
   rw[z0q] at e
   cases e
   exact⟨hz,its,rv,ht⟩
  ·rw[z0u hb] at e
   refine(I.hok b u e).stay (fun c v hc q=>k c v ?_ q) (fun c q=>by rw[z0u (nT c _ q)];exact q) fun c u' q=>by rw[z0u (nT c _ q)];exact q
   rcases hc with z | z
   ·rw[z];exact nit b u e
   ·exact nit c _ z
end
section
variable {X:Cx}{a b:Expr}{ga gb:G->R D}
end
noncomputable def JD2(K:PySem.W.Frag)(H:Hp)(F:List Addr)(J:It)(ds:List D):Prop:=∀H1,(∀b o,b ∉ F->H b=some o->H1 b=some o) ->
 (∀i:Nat,i<ds.length->J.go i H1/\∀v H2,J.yld i H1 v H2->Same H1 H2/\∃d1 d2 q v1 v2,ds[i]? = some (.tup [d1,d2])/\v = .ref q/\SqT K H2 q [v1,v2]/\∀F',(∀b,b∈F'->b∈F∨H b=none)->Is K (hid F' H2) d1 v1/\Is K (hid F' H2) d2 v2)/\J.stop ds.length H1
section
variable {X:Cx}{e a b c:Expr}{g ga gb gc:G->R D}{pos:Pos}
theorem w2e(i k:Nat){x y0:Str}{px py pt:Pos}{kt}{iter:Expr}{body:List Stmt}{gi:G->R (List D)}{gb:G->R Fl}(hp:PO' X)(hcalm:X.calm=true)(hi:PIx JD2 X (.Tuple [.Name x px,.Name y0 py] kt pt) iter gi)(hb:PQs X body gb)(hN:X.N.Nodup)(hix:X.N[i]? = some x:=by rfl)(hiy:X.N[k]? = some y0:=by rfl)(hx:Loc X.env.scope x:=by first | exact Or.inl rfl | exact Or.inr rfl)(hy:Loc X.env.scope y0:=by first | exact Or.inl rfl | exact Or.inr rfl)
 (hf:X.fn x=true∨X.env.scope.names.lookup x=some .local:=by first | exact .inl rfl | exact .inr rfl | assumption)
 (hfy:X.fn y0=true∨X.env.scope.names.lookup y0=some .local:=by first | exact .inl rfl | exact .inr rfl | assumption)
 (hs:∀x,foldedSetIterable iter X.env x=pure x:=by intro _;rfl):PQ X (.For (.Tuple [.Name x px,.Name y0 py] kt pt) iter body [] pos) (x2p i k gi gb):=by
 refine⟨fun pins s σ H F Γ I fo rl hg=>?_⟩
 refine wpAny_For (wpAny_mono (hi.run pins s σ H F Γ I fo rl (z2d hg)) (fun v s1 h1=>wpAny_mono h1 (fun itv s2 h2=>?_) fun _ _ x=>x.lift fo rl _) fun _ _ x=>x.lift fo rl _) hs
 obtain⟨ds,it,fp,tn,J,H2,e1,rfl,I2,S2,T,t0,fk,jd⟩:=h2
 have eg:x2p i k gi gb Γ=z3v gb i k ds Γ:=z4b e1
 rw[eg] at hg ⊢
 have hp':=hp pins H F (z3v gb i k ds Γ)
 have stat:∀{H':Hp},(∀b∈fp,H' b=none)->∀b∈fp,FpOk X pins H' b:=fun hn b hb=>⟨hn b hb,(fk b hb).2⟩
 refine codeAny_forLoop_any (fun n s'=>∃(j:Nat) (σ':St) (H':Hp) (F':List Addr) (Γ':G),n=ds.length-j/\j<=ds.length/\Inv X pins σ' H' s'/\tn j s'.heap/\(∀b∈fp,H' b=none)/\FOk H' F'/\Rel X.K H' F' Γ' σ'/\Ext H2 F H' F'/\z3v gb i k (ds.drop j) Γ'=z3v gb i k ds Γ) ?_ ds.length
  ⟨0,σ,H2,F,Γ,by lia,Nat.zero_le _,I2,t0,fun b hb=>(fk b hb).1,fo.same S2,rl.same S2,.refl,by rw[List.drop_zero]⟩
 rintro n s3 ⟨j,σ3,H3,F3,Γ3,en,hj,I3,t3,fr3,fo3,rl3,E3,ev3⟩
 have E03:Ext H F H3 F3:=(Ext.of_same S2).trans E3
 obtain⟨jgo,jstop⟩:=jd H3 fun b o hb h=>E3.keep b o hb h
 by_cases hlt:j<ds.length
 ·obtain⟨go,yl⟩:=jgo j hlt
  refine wpAny_passesOwn hp' (thn (T.item X rfl rfl rfl hcalm j pins s3 σ3 H3 _ I3 (stat fr3) t3 go) fun r s4 ⟨u,hr,h4⟩=>?_)
  subst hr
  refine wpAny_passesOwn hp' (thn h4 fun _ s5 ⟨y,H5,I5,r5,y5,st5,fr5⟩=>?_)
  obtain⟨S5,d1,d2,q,v1,v2,ed,rfl,sq5,iv⟩:=yl y H5 y5
  obtain⟨iv1,iv2⟩:=iv F3 fun b hb=>E3.old b hb
  have fo5:=fo3.same S5
  have rl5:=rl3.same S5
  have E5:=E3.trans (Ext.of_same S5)
  have E05:Ext H F H5 F3:=(Ext.of_same S2).trans E5
  have hdrop:ds.drop j = .tup [d1,d2]::ds.drop (j+1):=by
   rw[List.drop_eq_getElem_cons hlt]
   have:ds[j] = .tup [d1,d2]:=by
    have:=List.getElem?_eq_getElem hlt
    rw[ed] at this;exact(Option.some.inj this).symm
   rw[this]
  have I5':=I5.pinned (stat fr5) (T.obj _ _ st5)
  have hpg:PG X.nox (.Tuple [.Name x px,.Name y0 py] kt pt) (L2.gTup X.K 2 (L2.gCons (y7t i) (L2.gCons (y7t k) L2.gNil))):=w0o (X:=X.nox) hcalm (z7r (z6u (X:=X.nox) hN hix hx hf) (z7r (z6u (X:=X.nox) hN hiy hy hfy) y9d rfl) rfl) rfl rfl
  refine wpAny_passesOwn hp' (wpAny_mono (hpg _ s5 σ3 H5 (.ref q) u (fun σ' H'=>σ'=(σ3.set i (some v1)).set k (some v2)/\H'=H5) (I5'.wish _) r5 ⟨q,[v1,v2],rfl,sq5,rfl,v1,[v2],rfl,v2,[],rfl,rfl,rfl,rfl⟩) (fun _ s6 ⟨σ6,H6,I6,e6,e6'⟩=>?_) fun _ _ z=>False.elim z)
  subst e6 e6'
  have evd:z3v gb i k (.tup [d1,d2]::ds.drop (j+1)) Γ3=z3v gb i k ds Γ:=by rw[<-hdrop];exact ev3
  have hgb:gb ((Γ3.set i (.ro d1)).set k (.ro d2)) ≠ .no:=fun z=>by
   rw[<-evd] at hg
   unfold z3v at hg
   rw[z] at hg
   exact hg rfl
  have back:∀{s7:Shared} {σ7:St} {H7:Hp},Inv X (pins++y2s fp s5.heap) σ7 H7 s7->Inv X pins σ7 H7 s7/\tn (j+1) s7.heap/\∀b∈fp,H7 b=none:=fun {s7 σ7 H7} I7=>by
   refine⟨I7.unpinned,T.keep _ _ _ st5 fun b hb o e=>(I7.pin (b,o) (List.mem_append_right _ (List.mem_append_right _ (z2x hb e)))).1,fun b hb=>?_⟩
   obtain⟨o,e,dd⟩:=T.obj _ _ st5 b hb
   exact(I7.pin (b,o) (List.mem_append_right _ (List.mem_append_right _ (z2x hb e)))).2.1
  refine wpAny_passesOwn hp' (wpAny_mono (hb.run _ s6 _ H6 F3 _ I6.unwish fo5 ((rl5.set_ro iv1).set_ro iv2) hgb) (fun f s7 q7=>?_) fun x7 s7 q7=>?_)
  ·cases f with
   | next =>
     obtain⟨Γ7,e7,σ7,H7,F7,I7,fo7,rl7,E7⟩:=q7
     obtain⟨b1,b2,b3⟩:=back I7
     refine⟨ds.length-(j+1),by lia,j+1,σ7,H7,F7,Γ7,rfl,hlt,b1,b2,b3,fo7,rl7,E5.trans E7,?_⟩
     rw[<-evd]
     conv=>rhs;unfold z3v
     rw[e7]
   | cont =>
     obtain⟨Γ7,e7,σ7,H7,F7,I7,fo7,rl7,E7⟩:=q7
     obtain⟨b1,b2,b3⟩:=back I7
     refine⟨ds.length-(j+1),by lia,j+1,σ7,H7,F7,Γ7,rfl,hlt,b1,b2,b3,fo7,rl7,E5.trans E7,?_⟩
     rw[<-evd]
     conv=>rhs;unfold z3v
     rw[e7]
   | brk =>
     obtain⟨Γ7,e7,σ7,H7,F7,I7,fo7,rl7,E7⟩:=q7
     refine⟨Γ7,?_,σ7,H7,F7,I7.unpinned,fo7,rl7,E05.trans E7⟩
     rw[<-evd]
     conv=>lhs;unfold z3v
     rw[e7]
   | ret v7 =>
     refine RtP.map q7 E05 (fun _ _ I7=>I7.unpinned) (fun d7 e7=>?_) fun d7 e7=>?_
     ·rw[<-evd]
      conv=>lhs;unfold z3v
      rw[e7]
     ·rw[<-evd]
      conv=>lhs;unfold z3v
      rw[e7]
  ·obtain⟨c7,Γ7,σ7,H7,F7,e7,fl7,fo7,rl7,E7⟩:=q7
   refine⟨c7,Γ7,σ7,H7,F7,?_,?_,fo7,rl7,E05.trans E7⟩
   ·rw[<-evd]
    conv=>lhs;unfold z3v
    rw[e7]
   ·obtain⟨I7,e',C',oe,vs,q1,q2,q3,q4,q5,q6,q7',q8⟩:=fl7
    refine⟨I7.unpinned,e',C',oe,vs,q1,q2,q3,q4,q5,q6,fun p hp2=>q7' p ?_,?_⟩
    ·rcases List.mem_append.mp hp2 with z | z
     ·exact List.mem_append_left _ z
     ·exact List.mem_append_right _ (List.mem_append_left _ z)
    ·obtain⟨w1,w2,w3,w4,w5⟩:=q8
     refine⟨w1,w2,w3,w4,?_⟩
     rcases w5 with w5 | ⟨T',oT,ts,z1,z2,z3,z4,z5,z6,z7⟩
     ·exact .inl w5
     ·refine .inr ⟨T',oT,ts,z1,z2,z3,z4,z5,fun p hp2=>z6 p ?_,z7⟩
      rcases List.mem_append.mp hp2 with z | z
      ·exact List.mem_append_left _ z
      ·exact List.mem_append_right _ (List.mem_append_left _ z)
 ·have ej:j=ds.length:=by lia
  subst ej
  refine wpAny_passesOwn hp' (thn (T.done X rfl rfl rfl hcalm _ pins s3 σ3 H3 _ I3 (stat fr3) t3 jstop) fun r s4 ⟨hr,I4⟩=>?_)
  subst hr
  rw[List.drop_length] at ev3
  exact wpAny_execs_nil ⟨Γ3,ev3.symm,σ3,H3,F3,I4,fo3,rl3,E03⟩
end
noncomputable def Ite(K:PySem.W.Frag)(l:Addr):It :=
 ⟨fun i H=>∃xs x,SqL K H l xs/\xs[i]? = some x,
  fun i H v H'=>∃T x,v = .ref T/\H T=none/\H'=upd H T (.tup [.int (i:Int),x])/\∀xs,SqL K H l xs->xs[i]? = some x,
  fun i H=>∃xs,SqL K H l xs/\xs.length<=i⟩
theorem x3l{P:Program}{w:World}{K:PySem.W.Frag}{elts:List Expr}{kt}{pt:Pos}{e it l:Addr}(hei:e≠it):Turn P w K (.Tuple elts kt pt) (Ite K l) [e,it] e (fun i h=>(∃old,IsEnum h e it (i:Nat) old)/\h.IsListIter it l i) where
 mem:=by simp
 obj:=fun i h ⟨⟨old,q1⟩,q2⟩ c hc=>by
  simp only[List.mem_cons,List.not_mem_nil,or_false] at hc
  rcases hc with rfl | rfl
  ·exact⟨_,q1,fun v z=>nomatch z⟩
  ·obtain⟨o,e,c,d⟩:=q2;exact⟨o,e,fun v z=>by rw[d] at z;cases z⟩
 keep:=fun i h h' ⟨⟨old,q1⟩,q2⟩ k=>⟨⟨old,k e (by simp) _ q1⟩,q2.at fun o z=>k it (by simp) o z⟩
 item:=by
  intro X hP hw hK hc i pins s σ H E I hf ⟨⟨old,q1⟩,q2⟩ ⟨xs,x,s1,ex⟩
  subst hP hw hK
  obtain⟨its,rv,p,hz⟩:=I.list s1
  obtain⟨u,hu,ru⟩:=rv.get ex
  refine wpAny_pyNext_enum_item q1 q2 p.isList (x:=u) (by simpa using hu) hei fun h' a1 a2 a3 a4 a5=>⟨_,rfl,?_⟩
  refine wpAny_letOwnedTupleGo_enum (s:={ s with heap:=h',toks:=s.toks+1 }) a1 fun h'' c1 c2=>?_
  have Te:s.heap.objs.size≠e:=Nat.ne_of_gt (Heap.lt_size q1)
  have kk:∀c o,c ∉ [e,it]->s.heap.get? c=some o->h''.get? c=some o:=fun c o hc z=>by
   simp only[List.mem_cons,List.not_mem_nil,or_false,not_or] at hc
   exact c2.extBut _ _ hc.1 (a5 c o hc.1 hc.2 z)
  have tT:IsTup h'' s.heap.objs.size [Value.int i s.toks,u].toArray:=⟨_,c2.extBut _ _ Te a3,rfl,_,rfl⟩
  have I1:=w3y (t':=s.toks+1) (xs:=[.int (i:Int),x]) I hf kk (Nat.le_refl _) (by rw[sizeLine_eq];exact(by decide:(2:Nat)<=16777216)) (.cons ⟨_,rfl⟩ (.cons ru .nil)) tT
  refine⟨.ref s.heap.objs.size,_,I1,rfl,⟨_,x,rfl,I.hok.fresh (Nat.le_refl _),rfl,fun xs' q=>by rw[I.list_inj q s1];exact ex⟩,⟨⟨u,c1⟩,a2.extBut c2.extBut (Ne.symm hei)⟩,fun c hc=>?_⟩
  rw[z0u]
  ·exact(hf c hc).1
  ·intro z
   have ex:∃o,s.heap.get? c=some o:=by
    simp only[List.mem_cons,List.not_mem_nil,or_false] at hc
    rcases hc with rfl | rfl
    ·exact⟨_,q1⟩
    ·obtain⟨o,e,_⟩:=q2;exact⟨o,e⟩
   obtain⟨o,eo⟩:=ex
   exact absurd (Heap.lt_size eo) (by rw[z];exact Nat.lt_irrefl _)
 done:=by
  intro X hP hw hK hc i pins s σ H E I hf ⟨⟨old,q1⟩,q2⟩ ⟨xs,s1,hend⟩
  subst hP hw hK
  obtain⟨its,rv,p,hz⟩:=I.list s1
  have n1:=rv.length
  refine wpAny_pyNext_enum_end (I.ok.hd hc) q1 q2 p.isList (by simp;lia) fun h' kk=>⟨rfl,w3z (t':=s.toks) I hf fun c o hc z=>?_⟩
  simp only[List.mem_cons,List.not_mem_nil,or_false,not_or] at hc
  exact kk c o hc.2 z
 self:=fun _ _ _ _ _ st h=>by obtain⟨⟨old,q1⟩,_⟩:=st;exact wpAny_pyIter_enum q1 h
theorem y3u:∀{k:Nat} {xs:List D} {i:Nat} {x:D},xs[i]? = some x->(z4w k xs)[i]? = some (.tup [.int ((k+i:Nat):Int),x])
 | _,[],_,_,h=>by simp at h
 | k,a::xs,0,x,h=>by simp at h;subst h;simp[z4w]
 | k,a::xs,i+1,x,h=>by
   simp only[z4w,List.getElem?_cons_succ] at *
   rw[y3u h,show k+1+i=k+(i+1) by lia]
theorem y3t:∀(k:Nat) (xs:List D),(z4w k xs).length=xs.length
 | _,[]=>rfl
 | k,a::xs=>by simp[z4w,y3t (k+1) xs]
theorem x8v{K:PySem.W.Frag}{H:Hp}{F:List Addr}{l:Addr}{xs:List V}{ds:List D}(h1:SqL K H l xs)(i1:IsAll K (hid F H) ds xs):JC2 K H F (Ite K l) (z4w 0 ds):=fun H1 S=>by
 have q1:=S.seq h1
 have n1:=i1.length
 have nz:=y3t 0 ds
 refine⟨fun i hi=>⟨⟨xs,xs[i]'(by lia),q1,List.getElem?_eq_getElem (by lia)⟩,fun v H2 y=>?_⟩,⟨xs,q1,by lia⟩⟩
 obtain⟨T,x,rfl,hT,rfl,e1⟩:=y
 obtain⟨d,ed,iv⟩:=i1.getX (e1 xs q1)
 have S2:=z1r hT (.tup [.int (i:Int),x])
 have eg:=y3u (k:=0) ed
 rw[Nat.zero_add] at eg
 exact⟨S2,.int (i:Int),d,T,.int (i:Int),x,eg,rfl,SqT.of z0q,Is.int_iff.mpr rfl,iv.same (z2h (S.trans S2))⟩
theorem y8g:bootBuiltins ("enumerate":Str)=some (.type "enumerate"):=by decide +kernel
section
variable {X:Cx}{a b:Expr}{ga gb:G->R D}
theorem x4n{elts:List Expr}{kt}{pt p pos:Pos}(ha:PD X a ga)(hm:X.mg "enumerate"=none)(hg:Gl X "enumerate":=by rfl)(hs:starEach [a] X.env=[(false,eval a X.env)]:=by rfl) :
 PIx JC2 X (.Tuple elts kt pt) (.Call (.Name "enumerate" p) [a] [] pos) (y7u ga):=by
 refine⟨fun pins s σ H F Γ I fo rl hgg=>?_⟩
 refine Call_ (z4m I hg hm y8g (PyProof.Rows.callWith_type1 ?_ hs rfl))
 rw[hs]
 show wpAny _ _ (spliced ((false,eval a X.env)::backTo pos [])) _ _ s
 refine Calls.spliced_cons (wpAny_mono (ha.run pins s σ H F Γ I fo rl (R.left hgg)) (fun u s1 ⟨d,v,H1,e1,I1,r1,S1,i1⟩=>Calls.spliced_nil ?_) fun _ _ x=>x.bind _)
 have hg1:=R.next hgg e1
 cases d with
 | lst ds =>
   obtain⟨n1,e5⟩:=R.guard_ne (show R.guard (D.noLs ds=true) (.ok (z4w 0 ds)) ≠ .no from hg1)
   obtain⟨l,xs,rfl,q1,j1⟩:=Is.lst_iff.mp i1
   have j1':=IsAll.hid (fo.same S1) _ xs n1 j1
   cases (show u=Value.ref l from r1)
   obtain⟨its,rv,pl,hz⟩:=I1.list q1
   refine call_enumerate_list pl.isList fun h' a1 a2 a3 a4=>?_
   refine wpAny_pyIter_enum (s:={ s1 with heap:=h' }) a1 ?_
   have I3:Inv X pins σ H1 { s1 with heap:=h' }:=I1.kept (t':=s1.toks) a4
   refine⟨z4w 0 ds,s1.heap.objs.size+1,_,_,Ite X.K l,H1,(R.step e1 _).trans e5,rfl,I3,S1,x3l (it:=s1.heap.objs.size) (by show @Ne Nat _ _;lia),⟨⟨_,a1⟩,a2⟩,fun c hc=>?_,x8v q1 j1'⟩
   simp only[List.mem_cons,List.not_mem_nil,or_false] at hc
   have hge:s1.heap.objs.size<=c:=by rcases hc with rfl | rfl<;>lia
   exact I1.fpOk hge (I1.hok.fresh hge)
 | _=>exact absurd rfl hg1
end
section
variable {X:Cx}{e a b c:Expr}{g ga gb gc:G->R D}{pos pos' p:Pos}
end
section
variable {X:Cx}{e a b c:Expr}{g ga gb gc:G->R D}{pos pos' p:Pos}{gs:G->R (List D)}
end
theorem Rel.frzAt{K:PySem.W.Frag}{H:Hp}{F:List Addr}{Γ:G}{σ:St}(fo:FOk H F)(r:Rel K H F Γ σ)(i:Nat):∃F',(∀b∈F',b∈F)/\FOk H F'/\Rel K H F' (L3.frzAt i Γ) σ:=by
 unfold L3.frzAt
 split
 ·rename_i ds e
  obtain⟨a,xs,h1,h2,h3,h4⟩:=r.own i ds e
  have sub:∀b∈F.filter (fun b=>decide (b≠a)),b∈F:=fun b hb=>(List.mem_filter.mp hb).1
  have out:a ∉ F.filter (fun b=>decide (b≠a)):=fun z=>(of_decide_eq_true (List.mem_filter.mp z).2) rfl
  have S:Same (hid F H) (hid (F.filter (fun b=>decide (b≠a))) H):=fun b o h=>by
   obtain⟨z1,z2⟩:=z3x h
   rw[z1o fun z=>z1 (sub b z)]
   exact z2
  have hi:i<Γ.length:=by
   rcases Nat.lt_or_ge i Γ.length with z | z
   ·exact z
   ·rw[List.getElem?_eq_none z] at e;cases e
  refine⟨F.filter (fun b=>decide (b≠a)),sub,fun b hb=>fo b (sub b hb),⟨by rw[List.length_set];exact r.len,fun j d h=>?_,fun j es h=>?_,fun j k es fs c g1 g2 g3 g4=>?_⟩⟩
  ·by_cases hj:i=j
   ·subst hj
    rw[List.getElem?_set_self hi] at h
    cases h
    exact⟨.ref a,h1,Is.lst_iff.mpr ⟨a,xs,rfl,SqL.of (by rw[z1o out];exact h3),h4.same S⟩⟩
   ·rw[List.getElem?_set_ne hj] at h
    obtain⟨v,q1,q2⟩:=r.ro j d h
    exact⟨v,q1,q2.same S⟩
  ·by_cases hj:i=j
   ·subst hj
    rw[List.getElem?_set_self hi] at h
    cases h
   ·rw[List.getElem?_set_ne hj] at h
    obtain⟨c,ys,q1,q2,q3,q4⟩:=r.own j es h
    refine⟨c,ys,q1,List.mem_filter.mpr ⟨q2,decide_eq_true fun z=>?_⟩,q3,q4.same S⟩
    subst z
    exact hj (r.inj i j ds es c e h h1 q1)
  ·have back:∀(m:Nat) (es:List D),(Γ.set i (.ro (.lst ds)))[m]? = some (.own es)->Γ[m]? = some (.own es):=fun m es h=>by
    by_cases hm:i=m
    ·subst hm
     rw[List.getElem?_set_self hi] at h
     cases h
    ·rw[List.getElem?_set_ne hm] at h;exact h
   exact r.inj j k es fs c (back j es g1) (back k fs g2) g3 g4
 ·exact⟨F,fun _ h=>h,fo,r⟩
theorem w4m{X:Cx}(i:Nat){st:Stmt}{g:G->R Fl}(h:PQ X st g):PQ X st (gFrz i g):=by
 refine⟨fun pins s σ H F Γ I fo rl hg=>?_⟩
 obtain⟨F',sub,fo',rl'⟩:=rl.frzAt fo i
 have E:Ext H F H F':=⟨fun b o _ q=>q,fun b hb=>.inl (sub b hb)⟩
 exact wpAny_mono (h.run pins s σ H F' _ I fo' rl' hg) (fun _ _ q=>FlP.later E q) fun _ _ q=>FlX.later E q
noncomputable def w2q(y:Str)(names:List (Str×NameKind)):Bool:=decide (names.filter (fun p=>p.2 == .cell)=[(y,.cell)])
structure CompOkC (N:List Str) (env:Env) (y:Str) (scope:Scope):Prop where
 kind:scope.kind = .function
 nocell:∀p∈scope.names,p.2 ≠ .cell∨p.1=y
 names:∀p∈scope.names,p.2 = .local->scope.names.lookup p.1=some .local
 free:∀p∈scope.names,p.2 = .free->(∃c,env.cells.lookup p.1=some c)/\(env.scope.names.lookup p.1=some .cell∨env.scope.names.lookup p.1=some .free)
 loc:w2q y scope.names=true/\scope.names.lookup y=some .cell
 nil:scope.names.lookup (("":Str))=none
 only:∀z∈N,scope.names.lookup z≠some .local
 none:∀z∈N,z≠("":Str)
noncomputable def y9r(X:Cx)(y:Str)(scope:Scope)(C cc:Addr)(s₂:Shared)(H₂:Hp)(fp:List Addr)(pn:List (Addr×Obj)):Cx :=
 { X with N:=y::X.N.map (fun z=>if z=y then ("":Str) else z),s₀:=s₂,H₀:=H₂,env:=compEnvC scope ((y,cc)::capt X.env scope.names []) C X.env,outer:=X.stack,ex:=fp,fn:=fun z=>z==y,pn:=pn,xe:=fun _ _=>False }
section
variable {X:Cx}{y:Str}{scope:Scope}
structure PC1C (X:Cx) (y:Str) (scope:Scope) (ifs:List Expr) (elt:Expr) (f:D->G->R (Option D)):Prop where
 run:∀(C cc:Addr) (s₂:Shared) (H₂:Hp) (fp:List Addr) (pn:List (Addr×Obj)) (pins:List (Addr×Obj)) (s:Shared) (σ:St) (H:Hp) (F:List Addr) (Γ:G) (d:D),Inv (y9r X y scope C cc s₂ H₂ fp pn) pins σ H s->FOk H F->Rel X.K H F (.ro d::Γ) σ->(∃o,f d Γ = .ok o) ->
  wpAny (model X.prog X.w) X.A (forIn ifs true fun c r=>if r=true then do let ok <-isTrue c (compEnvC scope ((y,cc)::capt X.env scope.names []) C X.env) (eval c (compEnvC scope ((y,cc)::capt X.env scope.names []) C X.env));pure (ForInStep.yield ok) else pure (ForInStep.yield r)) (fun ok s₃ =>
   if ok=true then wpAny (model X.prog X.w) X.A (eval elt (compEnvC scope ((y,cc)::capt X.env scope.names []) C X.env)) (fun u s₄=>∃e v H',f d Γ = .ok (some e)/\Inv (y9r X y scope C cc s₂ H₂ fp pn) pins σ H' s₄/\RelV v u/\Same H H'/\Is X.K (hid F H') e v) (fun _ _=>False) s₃
   else f d Γ = .ok none/\∃H',Inv (y9r X y scope C cc s₂ H₂ fp pn) pins σ H' s₃/\Same H H') (fun _ _=>False) s
end
section
variable {X:Cx}{e:Expr}{pos p:Pos}{x:Str}{es:List Expr}{gs:G->R (List D)}
theorem w3i{P:Program}{w:World}{H:Hp}{h:Heap}{F:List Addr}(fo:FOk H F)(k:HOk P w H h):HOk P w (hid F H) h:=fun b u e=>by
 have out:∀{c:Addr} {o:HO},H c=some o->(∀xs,o ≠ .lst xs)->hid F H c=some o:=fun {c o} q n=>by
  rw[z1o fun z=>by obtain⟨xs,e⟩:=fo c z;rw[q] at e;cases e;exact n xs rfl];exact q
 exact(k b u (z3x e).2).stay (fun c v _ q=>q) (fun c q=>out q fun xs z=>nomatch z) fun c xs q=>out q fun xs z=>nomatch z
end
section
variable {M:Model}{A:Around}{E:Value->Shared->Prop}{env:Env}{s:Shared}
end
section
variable {X:Cx}{y:Str}{scope:Scope}
structure PC1X (X:Cx) (y:Str) (scope:Scope) (ifs:List Expr) (elt:Expr) (f:D->G->R (Option D)):Prop where
 run:∀(C:Addr) (s₂:Shared) (H₂:Hp) (fp:List Addr) (pn:List (Addr×Obj)),(∀b∈fp,∃o,(b,o)∈pn)->∀(pins:List (Addr×Obj)) (s:Shared) (σ:St) (H:Hp) (F:List Addr) (Γ:G) (d:D),Inv (z1l X y scope C s₂ H₂ fp pn) pins σ H s->FOk H F->Rel X.K H F (.ro d::Γ) σ->f d Γ ≠ .no ->
  wpAny (model X.prog X.w) X.A (forIn ifs true fun c r=>if r=true then do let ok <-isTrue c (compEnvC scope (capt X.env scope.names []) C X.env) (eval c (compEnvC scope (capt X.env scope.names []) C X.env));pure (ForInStep.yield ok) else pure (ForInStep.yield r)) (fun ok s₃ =>
   if ok=true then wpAny (model X.prog X.w) X.A (eval elt (compEnvC scope (capt X.env scope.names []) C X.env)) (fun u s₄=>∃e v H',f d Γ = .ok (some e)/\Inv (z1l X y scope C s₂ H₂ fp pn) pins σ H' s₄/\RelV v u/\Same H H'/\Is X.K (hid F H') e v) (fun x s'=>∃c H',f d Γ = .er c/\Same H H'/\y8p (z1l X y scope C s₂ H₂ fp pn) pins σ H' c x s') s₃
   else f d Γ = .ok none/\∃H',Inv (z1l X y scope C s₂ H₂ fp pn) pins σ H' s₃/\Same H H') (fun x s'=>∃c H',f d Γ = .er c/\Same H H'/\y8p (z1l X y scope C s₂ H₂ fp pn) pins σ H' c x s') s
end
section
variable {X:Cx}{e a b c:Expr}{g ga gb gc:G->R D}{pos p:Pos}{x:Str}{es:List Expr}{gs:G->R (List D)}
end
section
variable {X:Cx}{e:Expr}{g:G->R D}{pos p pos':Pos}
end
section
variable {X:Cx}{e a b c:Expr}{g ga gb gc:G->R D}{pos:Pos}
theorem y8n:∀bs:List Bool,((List.range bs.length).all fun i=>(bs[i]?).getD true)=bs.all (fun b=>b)
 | []=>rfl
 | b::bs=>by
   rw[List.length_cons,List.range_succ_eq_map,List.all_cons,List.all_map,List.all_cons,<-y8n bs]
   rfl
theorem x7g(hc:X.calm=true):y0d X (.builtin "all") (fun xs H Q=>∃(a:Addr) (bs:List Bool),xs=[.ref a]/\SqL X.K H a (bs.map V.bl)/\Q (.bl (bs.all (fun b=>b))) H):=by
 intro pins s σ H xs us Q I r h
 obtain⟨a,bs,rfl,hq,q⟩:=h
 obtain⟨u,rfl,ru⟩:=y8t r
 cases ru
 obtain⟨its,rv,pl,_⟩:=I.list hq
 have hl:=pl.isList
 have hlt:a<s.heap.objs.size:=by obtain⟨_,e,_⟩:=hl;exact Heap.lt_size e
 have hlen:its.length=bs.length:=by rw[<-rv.length,List.length_map]
 refine call_all_walk (wpAny_pyIter_list hl ?_)
 refine⟨s.heap.objs.size,[s.heap.objs.size,a],[s.heap.objs.size],its.toArray.size,_,_,fun i=>(bs[i]?).getD true,rfl,Walks.list (A:=X.A.in1) (I.ok.hd hc) _ a (Nat.ne_of_lt hlt) its.toArray,
  ⟨⟨_,Heap.get?_push_size _ rfl,rfl,rfl⟩,hl.push _⟩,fun i v s' Q' E' hP hQ=>?_,fun h' tk hk=>?_⟩
 ·obtain⟨b,e,rfl⟩:=y4f rv (i:=i) (v:=v) (by simpa using hP)
  simp only[e,Option.getD_some] at hQ
  exact wpAny_truthy_bool hQ
 ·have e:((List.range its.toArray.size).all fun i=>(bs[i]?).getD true)=bs.all (fun b=>b):=by
   rw[List.size_toArray,hlen];exact y8n bs
  refine⟨.bl (bs.all (fun b=>b)),H,I.kept (fun b x ex=>hk b x (fun hm=>by rw[List.mem_singleton.mp hm] at ex;exact Nat.lt_irrefl _ (Heap.lt_size ex)) (Heap.get?_push_of_some _ ex)),by rw[e];rfl,q⟩
theorem w6a(hc:X.calm=true):y4g X (.builtin "all") dAll:=by
 refine⟨_,x7g (X:=X.nox) hc,fun H xs ds i hg=>?_⟩
 unfold dAll at hg
 split at hg
 ·rename_i ys
  obtain⟨v,rfl,h⟩:=z9s i
  obtain⟨a,zs,rfl,h1,h2⟩:=Is.lst_iff.mp h
  cases q:bools? ys with
  | none=>rw[q] at hg;exact absurd rfl hg
  | some ns =>
    have:=bools?_some q
    subst this
    rw[h2.bools_eq] at h1
    exact⟨a,ns,rfl,h1,.bl (ns.all (fun b=>b)),by show dAll [.lst (ns.map D.bl)]=_;simp only[dAll,q],.refl _,Is.bl_iff.mpr rfl⟩
 ·exact absurd rfl hg
end
namespace Rv
theorem owner:List.lookup (String.ofList ['d','e','s','r','e','v','e','r'].reverse) Manifest.owners=some Manifest.sig_reversed:=rfl
end Rv
section
variable {prog:Program}{w:World}{A:Around}{E:Value->Shared->Prop}{s:Shared}
end
section
variable {X:Cx}{a:Expr}{ga:G->R D}
end
section
variable {X:Cx}{e:Expr}{pos p:Pos}{x:Str}{es:List Expr}{gs:G->R (List D)}
theorem w6h{k:Nat}{f:Addr}{fd:FuncData}{ps:List Str}{φ:List D->R D}(Fn:FnD X.prog X.w X.K X.mg X.base k f fd ps φ)(hr:Room k X.A){pins:List (Addr×Obj)}{σ:St}{H:Hp}{F:List Addr}{s:Shared}{us:List Value}{vs:List V}{ds:List D}{d':D}{EE:Value->Shared->Prop}
 (I:Inv X pins σ H s) (fo:FOk H F) (r:Vals vs us) (i:IsAll X.K (hid F H) ds vs) (hg:φ ds = .ok d'):wpAny (model X.prog X.w) X.A (call (.ref f) us) (fun u s'=>∃v H',Inv X pins σ H' s'/\RelV v u/\Same H H'/\Is X.K (hid F H') d' v) EE s:=by
 have hsp:spD X.K X.mg φ vs (hid F H) (fun v H'=>Same (hid F H) H'/\Is X.K H' d' v) (fun _ _ _=>False) :=
  ⟨ds,i,(by rw[hg];exact fun z=>nomatch z),fun d v H' e S iv=>by rw[hg] at e;cases e;exact⟨S,iv⟩,fun c C H' e=>by rw[hg] at e;cases e⟩
 have hl:us.length=ps.length:=by rw[<-r.length];exact Fn.ok.len _ _ _ _ hsp
 have hb:=Fn.binds s us I.kIn (by rw[List.append_nil];exact hl)
 rw[List.append_nil] at hb
 have nh:∀{b:Addr},H b=none->hid F H b=none:=fun {b} q=>by
  by_cases hb:b∈F
  ·exact y7r hb
  ·rw[z1o hb];exact q
 have e0:=I.env0
 have en:Env0 X.prog X.w X.K X.mg X.base X.A X.stack s (hid F H):=⟨e0.frames,e0.mod,fun b o q=>⟨(e0.bs b o q).1,nh (e0.bs b o q).2⟩,e0.bsz,e0.funs,fun b hb=>nh (e0.frf b hb),w3i fo e0.hok,e0.bare⟩
 refine wpAny_call (codeAny_mono (Fn.ok.run X.A X.stack s (hid F H) ⟨us,[]⟩ us vs _ _ hr en hb r hsp) fun r' s' hq=>?_)
 cases r' with
 | error u=>obtain⟨_,_,_,_,_,_,_,_,_,_,_,_,_,_,_,_,_,_,_,_,_,_,_,_,_,_,hE⟩:=hq;exact hE.elim
 | ok fl =>
   cases fl with
   | ret u =>
     obtain⟨v,H1,os,bare,un,hok,rv,S,h3⟩:=hq
     have own:∀b,b∈F->∃ys its n,H b=some (.lst ys)/\ys.length<=sizeLine/\Vals ys its/\s'.heap.get? b=some { cls:=.type "list",data:=.seq its.toArray n }/\H1 b=none:=fun b hb=>by
      obtain⟨ys,ey⟩:=fo b hb
      obtain⟨z,its,n,rv',gt⟩:=I.hok b _ ey
      exact⟨ys,its,n,ey,z,rv',un.keep b _ gt (y7r hb) (fun z=>by rw[e0.frf b z] at ey;cases ey) (by simp),un.free b _ gt (y7r hb) (by simp)⟩
     let H2:Hp:=fun b=>if b∈F then H b else H1 b
     have in2:∀{b},b∈F->H2 b=H b:=fun {b} h=>if_pos h
     have out2:∀{b},b ∉ F->H2 b=H1 b:=fun {b} h=>if_neg h
     have up:∀{b o},H1 b=some o->b ∉ F/\H2 b=some o:=fun {b o} q=>by
      have hb:b ∉ F:=fun z=>by obtain⟨_,_,_,_,_,_,_,z2⟩:=own b z;rw[q] at z2;cases z2
      exact⟨hb,(out2 hb).trans q⟩
     have notl:∀{b o},H b=some o->(∀ys,o ≠ .lst ys)->b ∉ F:=fun {b o} q n z=>by obtain⟨ys,e⟩:=fo b z;rw[q] at e;cases e;exact n ys rfl
     have un2:Un (frs X.stack) [] H H2 s.heap s'.heap:=by
      refine⟨fun b o q n=>un.keep b o q (nh n),fun b o q n=>un.slot b o q (nh n),fun b o q n hx=>?_,un.there,fun b ys q=>?_,fun b o u q=>?_,fun b ps q=>?_⟩
      ·have hb:b ∉ F:=fun z=>by obtain⟨ys,e⟩:=fo b z;rw[n] at e;cases e
       rw[out2 hb];exact un.free b o q (nh n) hx
      ·have hb:=notl q fun ys z=>nomatch z
       rw[out2 hb];exact un.tups b ys (by rw[z1o hb];exact q)
      ·have hb:=notl q fun ys z=>nomatch z
       rw[out2 hb];exact un.frzs b o u (by rw[z1o hb];exact q)
      ·have hb:=notl q fun ys z=>nomatch z
       rw[out2 hb];exact un.tbls b ps (by rw[z1o hb];exact q)
     have hok2:HOk X.prog X.w H2 s'.heap:=fun b u q=>by
      by_cases hb:b∈F
      ·obtain⟨ys,its,n,ey,z,rv',gt,_⟩:=own b hb
       rw[in2 hb,ey] at q
       cases q
       exact⟨z,its,n,rv',gt⟩
      ·rw[out2 hb] at q
       exact(hok b u q).stay (fun c v _ e=>e) (fun c e=>(up e).2) fun c ys e=>(up e).2
     have I2:Inv X pins σ H2 s':=I.call' os un2 hok2 bare (fun b z=>absurd z (by simp))
     have S2:Same H H2:=fun b o q=>by
      by_cases hb:b∈F
      ·rw[in2 hb];exact q
      ·rw[out2 hb];exact S b o (by rw[z1o hb];exact q)
     have Sx:Same H1 (hid F H2):=fun b o q=>by rw[z1o (up q).1];exact(up q).2
     exact⟨v,H2,I2,rv,S2,h3.same Sx⟩
   | next=>exact False.elim hq
   | brk=>exact False.elim hq
   | cont=>exact False.elim hq
theorem z8h{k:Nat}{f:Addr}{fd:FuncData}{ps:List Str}{φ:List D->R D}(Fn:FnD X.prog X.w X.K X.mg X.base k f fd ps φ)(hr:Room k X.A)(hm:X.mg x=some (.ref f))(ha:PADr X (e::es) gs)(hg:Gl X x:=by rfl)(hdb:(x==("__debug__":Str))=false:=by decide)
 (he:starEach (e::es) X.env=(false,eval e X.env)::starEach es X.env:=by rfl) (hpl:(backTo pos (starEach es X.env)).any (·.1)=false:=by rfl):PDr X (.Call (.Name x p) (e::es) [] pos) (z7z φ gs):=by
 refine⟨fun pins s σ H F Γ I fo rl hgg=>?_⟩
 refine wpAny_Call_Name_kw (y1e I hg hm ?_ hdb)
 refine PySem.W.callWith_K (h₀:=X.base) I.ok.mod.kin Fn.kp (wpAny_mono (ha.run pos pins s σ H F Γ I fo rl (R.left hgg)) (fun us s1 ⟨ds,vs,H1,e1,I1,r1,S1,i1⟩=>⟨I1.kIn,?_⟩) fun _ _ x=>x.bind _) he hpl
 have hg1:=R.next hgg e1
 cases q:φ ds with
 | no=>rw[q] at hg1;exact absurd rfl hg1
 | er c=>rw[q] at hg1;exact absurd rfl hg1
 | ok d =>
   refine wpAny_mono (w6h (EE:=z1p X pins σ H (z7z φ gs Γ)) Fn hr I1 (fo.same S1) r1 i1 q) (fun u s' ⟨v,H',I',rv,S,h2⟩=>?_) fun _ _ z=>z
   have e2:z7z φ gs Γ = .ok d:=(R.step e1 _).trans (by rw[q])
   exact⟨d,v,H',e2,I',rv,S1.trans S,h2⟩
end
section
variable {X:Cx}{e:Expr}{g:G->R D}{pos pt:Pos}
theorem w2d{es:List Expr}{t:TGs}{is:List Nat}{kt}(hp:PGs X.nox es t)(ht:∀(vs:List V) σ H (Q:St->Hp->Prop),vs.length=is.length->Q (setV is vs σ) H->t vs σ H Q)(he:PDr X e g)(hc:X.calm=true)(hln:es.length=is.length)
 (hn:(assignEach es X.env).length=es.length:=by rfl) (hst:(assignEach es X.env).findIdx? (·.1)=none:=by rfl)
 (hs:swapsWithSole [.Tuple es kt pt] e pos.line X.env=pure false:=by rfl) (hw:swappedStores [.Tuple es kt pt] e X.env=pure none:=by rfl)
 (h1:(assignEach [.Tuple es kt pt] X.env).map (·.2)=[assign (.Tuple es kt pt) X.env]:=by rfl):PQ X (.Assign [.Tuple es kt pt] e pos) (y6e is g):=by
 refine⟨fun pins s σ H F Γ I fo rl hg=>?_⟩
 refine wpAny_Assign_stores (wpAny_mono (he.run pins s σ H F Γ I fo rl (z2d hg)) (fun u s1 ⟨d,v,H1,e1,I1,r1,S1,i1⟩=>?_) fun _ _ x=>x.lift fo rl _) hs hw
 rw[h1]
 have hg1:=z8m hg e1
 have fin:∀(ds:List D) (xs:List V) (its:List Value) (s2:Shared),dSeq d = .ok ds->ds.length=is.length->y6e is g Γ = .ok (.nx (L3.setAll is ds Γ))->Vals xs its->IsAll X.K (hid F H1) ds xs->Inv X pins σ H1 s2 ->
  wpAny (model X.prog X.w) X.A (assignInOrder ((assignEach es X.env).map (·.2)) its) (fun _ s3=>FlP X pins H F (y6e is g Γ) .next s3) (FlX X pins H F (y6e is g Γ)) s2:=fun ds xs its s2 ed hl ev rv ia I2=>by
  refine wpAny_mono (hp pins s2 σ H1 xs its (fun σ' H'=>σ'=setV is xs σ/\H'=H1) (I2.wish _) rv (ht xs σ H1 _ (by rw[<-ia.length,hl]) ⟨rfl,rfl⟩)) (fun _ s3 ⟨σ',H',I3,e3,e4⟩=>?_) fun _ _ z=>False.elim z
  subst e3 e4
  exact⟨_,ev,_,H',F,I3.unwish,fo.same S1,Rel.setAll is ds xs _ _ ia (rl.same S1),.of_same S1⟩
 cases d with
 | tup ds =>
   obtain⟨hl,e2⟩:=R.guard_ne (show R.guard (ds.length=is.length) (R.ok (Fl.nx (L3.setAll is ds Γ)))≠R.no from hg1)
   obtain⟨p,xs,rfl,h1',h2⟩:=Is.tup_iff.mp i1
   cases (show u=Value.ref p from r1)
   obtain⟨its,rv,hT,hz⟩:=I1.tuple (z3t (z2j (F:=F)) h1')
   refine assign_Tuple_tuple (I1.ok.hd hc) hT (by rw[hn,hln,List.size_toArray,<-rv.length,<-h2.length,hl]) hst fun h' hx=>?_
   exact fin ds xs its _ rfl hl ((z4b e1).trans e2) rv h2 (I1.kept (t':=s1.toks) fun b o e=>hx b o (Nat.ne_of_lt (Heap.lt_size e)) e)
 | lst ds =>
   obtain⟨hl,e2⟩:=R.guard_ne (show R.guard (ds.length=is.length) (R.ok (Fl.nx (L3.setAll is ds Γ)))≠R.no from hg1)
   obtain⟨p,xs,rfl,h1',h2⟩:=Is.lst_iff.mp i1
   cases (show u=Value.ref p from r1)
   obtain⟨its,rv,hT,hz⟩:=I1.list ((z2j (F:=F)).seq h1')
   refine y1o (I1.ok.hd hc) hT.isList (by rw[hn,hln,List.size_toArray,<-rv.length,<-h2.length,hl]) hst fun h' hx=>?_
   exact fin ds xs its _ rfl hl ((z4b e1).trans e2) rv h2 (I1.kept (t':=s1.toks) fun b o e=>hx b o (Nat.ne_of_lt (Heap.lt_size e)) e)
 | _=>exact absurd rfl hg1
theorem y9a(i j k:Nat){x y z:Str}{px py pz:Pos}{kt}(he:PDr X e g)(nd:X.N.Nodup)(hc:X.calm=true)(hi:X.N[i]? = some x:=by rfl)(hj:X.N[j]? = some y:=by rfl)(hk:X.N[k]? = some z:=by rfl)
 (hx:Loc X.env.scope x:=by first | exact Or.inl rfl | exact Or.inr rfl) (hy:Loc X.env.scope y:=by first | exact Or.inl rfl | exact Or.inr rfl) (hz:Loc X.env.scope z:=by first | exact Or.inl rfl | exact Or.inr rfl)
 (fx:X.fn x=true∨X.env.scope.names.lookup x=some .local:=by first | exact .inl rfl | exact .inr rfl) (fy:X.fn y=true∨X.env.scope.names.lookup y=some .local:=by first | exact .inl rfl | exact .inr rfl) (fz:X.fn z=true∨X.env.scope.names.lookup z=some .local:=by first | exact .inl rfl | exact .inr rfl)
 (hs:swapsWithSole [.Tuple [.Name x px,.Name y py,.Name z pz] kt pt] e pos.line X.env=pure false:=by rfl) (hw:swappedStores [.Tuple [.Name x px,.Name y py,.Name z pz] kt pt] e X.env=pure none:=by rfl) :
 PQ X (.Assign [.Tuple [.Name x px,.Name y py,.Name z pz] kt pt] e pos) (y6e [i,j,k] g) :=
 w2d (z7r (z6u (X:=X.nox) nd hi hx fx) (z7r (z6u (X:=X.nox) nd hj hy fy) (z7r (z6u (X:=X.nox) nd hk hz fz) y9d rfl) rfl) rfl)
  (fun vs σ H Q hl q=>match vs,hl,q with | [a,b,c],_,q=>⟨a,[b,c],rfl,b,[c],rfl,c,[],rfl,rfl,q⟩) he hc rfl rfl rfl hs hw
end
section
variable {prog:Program}{w:World}{A:Around}{E:Value->Shared->Prop}{s:Shared}
end
section
variable {X:Cx}{a:Expr}{ga:G->R D}{st:Expr}{gt:G->R (Option Int)}{pos p2:Pos}
end
section
variable {X:Cx}{e a b c:Expr}{g ga gb gc:G->R D}{pos:Pos}
end
theorem vals_ints:∀{ns:List Int} {us:List Value},IntsAre us ns->Vals (ns.map V.int) us
 | _,_,.nil=>.nil
 | _,_,.cons n t h=>.cons ⟨t,rfl⟩ (vals_ints h)
section
variable {X:Cx}{e a b c:Expr}{g ga gb gc:G->R D}{pos:Pos}
end
theorem x7f(d:D):∀ys:List D,((D.pys ys).any fun y=>y.eqv d.py)=ys.any fun y=>eqD y d
 | []=>by simp[D.pys]
 | y::ys=>by rw[D.pys,List.any_cons,List.any_cons,x7f d ys,y7w]
section
variable {X:Cx}
end
theorem y6m{α:Type}{M:Model}{A:Around}{E:Value->Shared->Prop}{s:Shared}{b:Bool}{t u:Sem α}{Q:α->Shared->Prop}(h1:wpAny M A t Q E s)(h2:wpAny M A u Q E s):wpAny M A (if b=true then t else u) Q E s:=by
 cases b
 ·exact h2
 ·exact h1
section
variable {prog:Program}{w:World}{A:Around}{E:Value->Shared->Prop}{s:Shared}
end
section
variable {X:Cx}{a b:Expr}{ga gb:G->R D}
end
section
variable {X:Cx}{e a b c:Expr}{g ga gb gc:G->R D}{gs:G->R (List D)}{pos pos' p:Pos}
theorem x4j(i:Nat){x:Str}{apos cpos:Pos}(he:PF X e gs)(hN:X.N[i]? = some x:=by rfl)(hv:Vis X.env.scope x:=by first | exact Or.inl rfl | exact Or.inr (Or.inl rfl) | exact Or.inr (Or.inr rfl))(hd:(x==("__debug__":Str))=false:=by decide)(hcd:(x==("__classdict__":Str))=false:=by decide)
 (hsw:swapsWith (.Call (.Attribute (.Name x p) "extend" apos) [e] [] cpos) none pos.line X.env=pure false:=by rfl)
 (hbase:attributeBase (.Name x p) "extend" X.env (eval (.Name x p) X.env)=eval (.Name x p) X.env:=by rfl)
 (hfew:((backTo cpos (starEach [e] X.env)).all (fun x=>!x.1)&&(backToKw cpos (keywordEach [] X.env)).all (fun x=>x.1.isSome)
   && decide ([e].length+([]:List Keyword).length+(if ([]:List Keyword).isEmpty then 0 else 1)<30))=true:=by rfl)
 (hline:(apos.endLine==cpos.line)=true:=by rfl) (hs:starEach [e] X.env=(false,eval e X.env)::starEach [] X.env:=by rfl) :
 PQ X (.Expr (.Call (.Attribute (.Name x p) "extend" apos) [e] [] cpos) pos) (gExt i gs):=by
 refine⟨fun pins s σ H F Γ I fo rl hg=>?_⟩
 refine wpAny_Expr_any ?_ I.quiet hsw
 have hown:∃ds,Γ[i]? = some (.own ds):=by
  unfold gExt at hg
  split at hg
  ·rename_i ds e1;exact⟨ds,e1⟩
  ·exact absurd rfl hg
 obtain⟨ds,eo⟩:=hown
 have egA:gExt i gs Γ=lift (gs Γ) Γ fun es=>R.guard (ds.length+es.length<=100000) (.ok (.nx (Γ.set i (.own (ds++es))))):=by unfold gExt;rw[eo]
 rw[egA] at hg ⊢
 obtain⟨a',xs,h1,hF,h3,h4⟩:=rl.own i ds eo
 refine wpAny_Call_method_late hbase hfew hline rfl (wpAny_mono (z8g (X:=X.nox) hN hv hd hcd pins s σ H (fun v' H'=>v' = .ref a'/\H'=H) (I.wish _) ⟨.ref a',h1,rfl,rfl⟩) (fun v s1 ⟨v',H',I1,r1,e1,e2⟩=>?_) fun _ _ z=>False.elim z)
 subst e1 e2
 have I1':=I1.unwish
 obtain⟨t1,t2⟩:=x3i (T:="list") I1' r1 (.inl ⟨rfl,xs,SqL.of h3⟩)
 refine⟨"list",_,PySem.F.plainAttrs_list,PySem.F.slot_list_extend,PySem.F.type_list_extend,t1,t2,?_⟩
 rw[hs]
 refine Calls.callWith_builtin rfl (Calls.evalArgs_plain ?_)
 show wpAny _ _ (spliced ((false,eval e X.env)::backTo cpos [])) _ _ s1
 refine Calls.spliced_cons (wpAny_mono (he.run pins s1 σ H' F Γ I1' fo rl (z2d hg)) (fun u s2 hq=>Calls.spliced_nil ?_) fun _ _ x=>x.lift fo rl _)
 obtain⟨es,l,zs,H2,e3,I2,r2,S2,hfree,hl2,ia⟩:=hq
 have hgx:=z8m hg e3
 obtain⟨hl,e4⟩:=R.guard_ne hgx
 have hx2:=S2 _ _ h3
 have hsl:(100001:Nat)<=sizeLine:=by rw[sizeLine_eq];decide
 have hxl:=h4.length
 have hzl:=ia.length
 refine wpAny_mono (x4z (X:=X.nox) pins s2 σ H2 (.ref a') [.ref l] v [u] (fun z H''=>z = .non/\H''=upd H2 a' (.lst (xs++zs))) (I2.wish _) r1 (.cons r2 .nil) ⟨a',l,xs,zs,rfl,rfl,hx2,hl2,by lia,rfl,rfl⟩) (fun w' s3 ⟨z,H'',I3,rz,ez,eH⟩=>?_) fun _ _ z=>False.elim z
 subst ez eH
 have ne:l≠a':=fun z=>by rw[z,h3] at hfree;cases hfree
 have ia':IsAll X.K (hid F H2) es zs:=ia.same fun b o hb=>by
  obtain⟨z1,z2⟩:=z3x hb
  rw[z1o fun z=>z1 (List.mem_cons_of_mem _ z)]
  exact z2
 obtain⟨rl',hF'⟩:=(rl.same S2).put eo h1 (xs':=xs++zs) (ds':=ds++es) ((h4.same (z2h S2)).append ia')
 refine⟨_,(z4b e3).trans e4,σ,_,F,I3.unwish,fun b hb=>?_,rl',⟨fun b o hb h=>?_,fun b hb=>.inl hb⟩⟩
 ·by_cases hba:b=a'
  ·exact⟨xs++zs,by rw[hba];exact z0q⟩
  ·obtain⟨ys,q⟩:=fo b hb
   exact⟨ys,by rw[z0u hba];exact S2 _ _ q⟩
 ·rw[z0u (fun z=>hb (by rw[z];exact hF))];exact S2 _ _ h
end
noncomputable def At(xs:Array Nat)(j i:Nat):Prop:=i<=xs.size/\(∀(k v:Nat),k<i->xs[k]? = some v->v<j)/\(∀(k v:Nat),i<=k->xs[k]? = some v->j<=v)
theorem y6k{xs:Array Nat}{j:Nat}(hup:xs.toList.Pairwise (·<·)):∀(fuel lo hi:Nat),hi-lo<=fuel->lo<=hi->hi<=xs.size->(∀(k v:Nat),k<lo->xs[k]? = some v->v<j)->(∀(k v:Nat),hi<=k->xs[k]? = some v->j<=v) ->
 At xs j (SetTable.below.go xs j fuel lo hi)
 | 0,lo,hi,h1,h2,h3,h4,h5=>by
   have e:lo=hi:=by lia
   subst e
   exact⟨h3,h4,h5⟩
 | fuel+1,lo,hi,h1,h2,h3,h4,h5=>by
   rw[show SetTable.below.go xs j (fuel+1) lo hi=(if lo<hi then (if xs.getD ((lo+hi)/2) j<j then SetTable.below.go xs j fuel ((lo+hi)/2+1) hi else SetTable.below.go xs j fuel lo ((lo+hi)/2)) else lo) from rfl]
   by_cases q:lo<hi
   ·rw[if_pos q]
    have hm:(lo+hi)/2<xs.size:=by lia
    have hg:xs.getD ((lo+hi)/2) j=xs[(lo+hi)/2]:=by simp[Array.getD,hm]
    have mono:∀(a b va vb:Nat),a<=b->xs[a]? = some va->xs[b]? = some vb->va<=vb:=fun a b va vb hab ea eb=>by
     rcases Nat.lt_or_ge a b with w | w
     ·obtain⟨ha,ea'⟩:=Array.getElem?_eq_some_iff.mp ea
      obtain⟨hb,eb'⟩:=Array.getElem?_eq_some_iff.mp eb
      have:=List.pairwise_iff_getElem.mp hup a b (by simpa using ha) (by simpa using hb) w
      rw[Array.getElem_toList,Array.getElem_toList,ea',eb'] at this
      lia
     ·have:a=b:=by lia
      rw[this,eb] at ea;cases ea;exact Nat.le_refl _
    have em:xs[(lo+hi)/2]? = some xs[(lo+hi)/2]:=Array.getElem?_eq_getElem hm
    by_cases z:xs.getD ((lo+hi)/2) j<j
    ·rw[if_pos z]
     rw[hg] at z
     exact y6k hup fuel _ hi (by lia) (by lia) h3 (fun k v hk e=>Nat.lt_of_le_of_lt (mono k _ v _ (by lia) e em) z) h5
    ·rw[if_neg z]
     rw[hg] at z
     exact y6k hup fuel lo _ (by lia) (by lia) (by lia) h4 (fun k v hk e=>Nat.le_trans (by lia) (mono _ k _ v hk em e))
   ·rw[if_neg q]
    have e:lo=hi:=by lia
    subst e
    exact⟨h3,h4,h5⟩
theorem x1h{xs:Array Nat}(hup:xs.toList.Pairwise (·<·))(j:Nat):At xs j (SetTable.below xs j) :=
 y6k hup xs.size 0 xs.size (by lia) (Nat.zero_le _) (Nat.le_refl _) (fun k v hk=>absurd hk (Nat.not_lt_zero _)) fun k v hk e=>by
  obtain⟨h,_⟩:=Array.getElem?_eq_some_iff.mp e
  lia
theorem x5t{xs:Array Nat}{j:Nat}(hup:xs.toList.Pairwise (·<·))(hj:xs[SetTable.below xs j]? ≠ some j):(SetTable.insertAt xs (SetTable.below xs j) j).toList.Pairwise (·<·):=by
 obtain⟨b1,b2,b3⟩:=x1h hup j
 generalize SetTable.below xs j=i at *
 rw[SetTable.toList_insertAt]
 have ht:xs.toList=xs.toList.take i++xs.toList.drop i:=(List.take_append_drop i _).symm
 have hp:=hup
 rw[ht] at hp
 obtain⟨p1,p2,p3⟩:=List.pairwise_append.mp hp
 have lt1:∀v∈xs.toList.take i,v<j:=fun v hv=>by
  obtain⟨k,hk,e⟩:=List.mem_take_iff_getElem.mp hv
  refine b2 k v (by lia) ?_
  have hk2:k<xs.size:=by have:=hk;simp at this;lia
  rw[Array.getElem?_eq_getElem hk2,<-e,Array.getElem_toList]
 have gt1:∀v∈xs.toList.drop i,j<v:=fun v hv=>by
  obtain⟨k,hk,e⟩:=List.mem_drop_iff_getElem.mp hv
  have hk2:i+k<xs.size:=by simp at hk;lia
  have ek:xs[i+k]? = some v:=by rw[Array.getElem?_eq_getElem hk2,<-e,Array.getElem_toList]
  have h1:=b3 (i+k) v (by lia) ek
  by_cases z:j=v
  ·exfalso
   subst z
   cases k with
   | zero=>exact hj ek
   | succ k =>
     have hi2:i<xs.size:=by lia
     have h2:=b3 i xs[i] (Nat.le_refl _) (Array.getElem?_eq_getElem hi2)
     have h3:=List.pairwise_iff_getElem.mp hup i (i+(k+1)) (by simpa using hi2) (by simpa using hk2) (by lia)
     rw[Array.getElem_toList,Array.getElem_toList] at h3
     have h4:xs[i+(k+1)]=j:=by rw[Array.getElem?_eq_getElem hk2] at ek;exact Option.some.inj ek
     lia
  ·lia
 refine List.pairwise_append.mpr ⟨p1,List.pairwise_cons.mpr ⟨gt1,p2⟩,fun x hx y hy=>?_⟩
 rcases List.mem_cons.mp hy with e | e
 ·rw[e];exact lt1 x hx
 ·exact Nat.lt_trans (lt1 x hx) (gt1 y e)
structure TabK (led:Bool) (t:SetTable):Prop where
 led:t.led=led
 dum:t.dummies=#[]
 up:t.plain=true->t.place.toList.Pairwise (·<·)
theorem TabK.standQ{led:Bool}{t:SetTable}(h:TabK led t)(n:Nat):TabK led (t.standIn n):=⟨h.led,rfl,fun z=>by cases z⟩
theorem TabK.orStandQ{led:Bool}{t:SetTable}(h:TabK led t)(n:Nat):TabK led (t.orStandIn n):=by
 unfold SetTable.orStandIn
 split
 ·exact h
 ·exact h.standQ n
theorem x0p{t:SetTable}(h:t.dummies=#[])(j:Nat):SetTable.has t.dummies j=false:=by rw[h];rfl
theorem y2r{t:SetTable}(h:t.dummies=#[]){f:Nat->Int}{x:Int}:∀(fuel:Nat) (q:SetTable.Probe) {j:Nat} {d:Option Nat},q.dummy=none->SetTable.probe.go t f x fuel q=some (.empty j d)->d=none/\t.slot j = .empty
 | 0,q,j,d,_,e=>by cases e
 | fuel+1,q,j,d,hq,e=>by
   unfold SetTable.probe.go at e
   cases hs:t.slot q.j with
   | empty =>
     rw[hs] at e
     simp only[Option.some.injEq,SetTable.Met.empty.injEq] at e
     obtain⟨rfl,rfl⟩:=e
     exact⟨hq,hs⟩
   | dummy =>
     exfalso
     unfold SetTable.slot at hs
     rw[x0p h] at hs
     dsimp only at hs
     split at hs
     ·cases hs
     ·simp at hs
   | live i =>
     rw[hs] at e
     dsimp only at e
     split at e
     ·cases e
     ·refine y2r h fuel _ ?_ e
      unfold SetTable.advance
      split<;>exact hq
theorem TabK.putQ{led:Bool}{t:SetTable}{x:Int}{j:Nat}{d:Bool}(h:TabK led t)(e:t.freeSlot x=some (j,d)):TabK led (t.put j).1:=by
 unfold SetTable.freeSlot at e
 cases hq:t.probe (fun _=>x+1) x (t.probeStart x) with
 | none=>rw[hq] at e;cases e
 | some m =>
   rw[hq] at e
   cases m with
   | candidate _ _ _=>cases e
   | empty j' d' =>
     obtain⟨rfl,hs⟩:=y2r h.dum _ _ rfl hq
     simp only[Option.getD_none,Option.some.injEq,Prod.mk.injEq] at e
     obtain⟨rfl,_⟩:=e
     have hn:t.place[SetTable.below t.place j']? ≠ some j':=fun z=>by
      unfold SetTable.slot at hs
      dsimp only at hs
      rw[z] at hs
      simp at hs
     refine⟨h.led,?_,fun z=>x5t (h.up z) hn⟩
     show(if SetTable.has t.dummies j' then _ else t.dummies)=#[]
     rw[x0p h.dum,h.dum];rfl
theorem TabK.layQ{led:Bool}{t:SetTable}(h:TabK led t)(es:Array (Int×Value))(x:Int)(v:Value):TabK led (layNew t es x v).2.1:=by
 unfold layNew
 cases hq:t.freeSlot x with
 | none=>exact h.standQ _
 | some p =>
   obtain⟨j,d⟩:=p
   exact(h.putQ hq).orStandQ _
theorem w3a{mask finger moves:Nat}{led plain:Bool}{hs:Array Int}{t:SetTable}{o:Array Nat}(e:SetTable.laid mask finger moves led plain hs=some (t,o)):TabK led t:=by
 unfold SetTable.laid at e
 cases hq:SetTable.layClean mask hs with
 | none=>rw[hq] at e;cases e
 | some owner =>
   rw[hq] at e
   simp only[Option.bind_eq_bind,Option.bind_some,Option.pure_def,Option.some.injEq,Prod.mk.injEq] at e
   obtain⟨rfl,_⟩:=e
   refine⟨rfl,rfl,fun _=>?_⟩
   show(List.map (·.1) ((List.range (mask+1)).filterMap fun j=>(owner.getD j none).map (j,·))).Pairwise (·<·)
   rw[List.pairwise_map]
   refine List.pairwise_filterMap.mpr (List.pairwise_lt_range.imp fun {a b} hab x hx y hy=>?_)
   cases ha:owner.getD a none with
   | none=>rw[ha] at hx;cases hx
   | some u =>
     cases hb:owner.getD b none with
     | none=>rw[hb] at hy;cases hy
     | some w =>
       rw[ha] at hx;rw[hb] at hy
       cases hx;cases hy
       exact hab
theorem TabK.relayQ{led:Bool}{t:SetTable}(h:TabK led t)(es:Array (Int×Value))(n:Nat):TabK led (relayAll t es n).2.1:=by
 unfold relayAll
 cases hq:t.relaid (es.map (·.1)) n with
 | none=>exact h.standQ _
 | some p =>
   obtain⟨t',o⟩:=p
   dsimp only
   split
   ·unfold SetTable.relaid at hq
    have:=w3a hq
    rw[h.led] at this
    exact this
   ·exact h.standQ _
theorem TabK.offQ{led:Bool}{t:SetTable}(h:TabK led t):TabK led { t with plain:=false }:=⟨h.led,h.dum,fun z=>by cases z⟩
section
variable {prog:Program}{w:World}{A:Around}{E:Value->Shared->Prop}{s:Shared}
noncomputable def SetK(prog:Program)(w:World)(led:Bool)(h:Heap)(a:Addr)(S:Int->Bool)(n:Nat):Prop :=
 ∃(o:Obj) (es:Array (Int×Value)) (ep:Nat) (t:SetTable),(h.get? a=some o/\o.ExactSet/\o.data = .set es ep t)/\(ElemsOf (intKind prog w) es.toList/\∀k,S k=true↔∃e∈es.toList,(intKind prog w).is k e.2=true)/\(es.size<scanBound/\t.fits es.size=true/\es.size=n)/\TabK led t
theorem SetK.atQ{led:Bool}{h h':Heap}{a:Addr}{S:Int->Bool}{n:Nat}(x:SetK prog w led h a S n)(e:∀o,h.get? a=some o->h'.get? a=some o):SetK prog w led h' a S n:=by
 obtain⟨o,es,ep,t,⟨q1,q2,q3⟩,rest⟩:=x
 exact⟨o,es,ep,t,⟨e o q1,q2,q3⟩,rest⟩
theorem SetK.likeQ{led:Bool}{h:Heap}{a:Addr}{S S':Int->Bool}{n n':Nat}(x:SetK prog w led h a S n)(e:∀k,S k=S' k)(en:n=n'):SetK prog w led h a S' n':=by
 have:S=S':=funext e
 subst this en
 exact x
theorem x0d{led:Bool}{h:Heap}{a:Addr}{o:Obj}{es es':Array (Int×Value)}{ep:Nat}{t t':SetTable}{S':Int->Bool}(q1:h.get? a=some o)(q2:o.ExactSet)(q3:o.data = .set es ep t)
 (q4:ElemsOf (intKind prog w) es'.toList) (q5:∀k,S' k=true↔∃e∈es'.toList,(intKind prog w).is k e.2=true) (q6:es'.size<scanBound) (q7:t'.fits es'.size=true) (q8:TabK led t') :
 (h.update a (Obj.putSet es' t')).get? a=some { o with data:=.set es' (ep+1) t' }/\SetK prog w led (h.update a (Obj.putSet es' t')) a S' es'.size:=by
 have g:=(SetOf_store (knd:=intKind prog w) q1 q2 q3 q4 q5 q6 q7).1
 exact⟨g,_,es',ep+1,t',⟨g,q2,rfl⟩,⟨q4,q5⟩,⟨q6,q7,rfl⟩,q8⟩
theorem w1l{led:Bool}{g:Bool->Sem Unit}(hg:∀(b:Bool) (s1:Shared) (Q1:Unit->Shared->Prop),Q1 () s1->wpAny (model prog w) A (g b) Q1 E s1)
 {a:Addr} {o:Obj} {es es1:Array (Int×Value)} {ep:Nat} {t t2:SetTable} {S':Int->Bool} {dum:Bool} {Z:Option Bool->Shared->Prop} (q1:s.heap.get? a=some o) (q2:o.ExactSet) (q3:o.data = .set es ep t)
 (q4:ElemsOf (intKind prog w) es1.toList) (q5:∀k,S' k=true↔∃e∈es1.toList,(intKind prog w).is k e.2=true) (q6:es1.size<scanBound) (q7:t2.fits es1.size=true) (q8:TabK led t2)
 (z:∀h',Heap.SameBut a s.heap h'->SetK prog w led h' a S' es1.size->Z (some true) { s with heap:=h' }) :
 wpAny (model prog w) A (do
  storeSet a es1 t2
  if (!dum&&t2.tooFull)=true then do
      g (relayAll t2 es1 (SetTable.grown es1.size)).2.2
      storeSet a (relayAll t2 es1 (SetTable.grown es1.size)).1 (relayAll t2 es1 (SetTable.grown es1.size)).2.1
      pure (some true)
   else pure (some true)) Z E s:=by
 refine wpAny_bind (wpAny_storeSet_of q1 q3 ?_ (fits_of_scanBound q6))
 obtain⟨u1,u2⟩:=x0d (prog:=prog) (w:=w) q1 q2 q3 q4 q5 q6 q7 q8
 have sb:=Heap.SameBut.update s.heap a (Obj.putSet es1 t2)
 by_cases full:(!dum&&t2.tooFull)=true
 ·rw[if_pos full]
  have v1:=relayAll_perm t2 es1 (SetTable.grown es1.size)
  have v2:=relayAll_fits t2 es1 (SetTable.grown es1.size)
  have v3:=q8.relayQ es1 (SetTable.grown es1.size)
  generalize relayAll t2 es1 (SetTable.grown es1.size)=W at v1 v2 v3 ⊢
  obtain⟨es2,t3,gave⟩:=W
  dsimp only at v1 v2 v3 ⊢
  have v4:es2.size=es1.size:=by rw[<-Array.length_toList,v1.length_eq,Array.length_toList]
  have v5:es2.size<scanBound:=by lia
  refine wpAny_bind (hg _ _ _ ?_)
  refine wpAny_bind (wpAny_storeSet_of u1 rfl ?_ (fits_of_scanBound v5))
  obtain⟨_,u3⟩:=x0d (prog:=prog) (w:=w) (S':=S') u1 q2 rfl (q4.perm v1) (fun k=>(q5 k).trans ⟨fun⟨e,he,q⟩=>⟨e,v1.mem_iff.mpr he,q⟩,fun⟨e,he,q⟩=>⟨e,v1.mem_iff.mp he,q⟩⟩) v5 v2 v3
  rw[v4] at u3
  exact wpAny_pure (z _ (sb.trans (Heap.SameBut.update _ a _)) u3)
 ·rw[if_neg full]
  exact wpAny_pure (z _ sb u2)
theorem addK{led:Bool}{a:Addr}{S:Int->Bool}{n:Nat}{k:Int}{x:Value}{Q:Bool->Shared->Prop}(hx:(intKind prog w).is k x=true)(hsc:x.scannable=true)(hS:SetK prog w led s.heap a S n)(room:n+1<scanBound)
 (z:∀h',Heap.SameBut a s.heap h'->SetK prog w led h' a (fun k'=>S k'||decide (k'=k)) (if S k then n else n+1)->Q (!S k) { s with heap:=h' }) :
 wpAny (model prog w) A (setAddHashed a x ((intKind prog w).hash k)) Q E s:=by
 obtain⟨o,es,ep,t,⟨q1,q2,q3⟩,⟨q4,q5⟩,⟨q6,q7,q9⟩,q8⟩:=hS
 have more:es.size+1<scanBound:=by lia
 unfold setAddHashed setAddHashedIn
 refine wpAny_holding (wpAny_bind (wpAny_setState_of q1 q3 q7 ?_))
 dsimp only
 rw[byScan_of hsc q6 q4]
 simp only[↓reduceIte]
 unfold setAddByScan
 refine wpAny_bind (wpAny_bind (wpAny_rule (wpAny_bind (wpAny_setScan_of hx q1 q3 q7 q4 ?_))))
 cases hr:List.findIdx? (fun e=>(intKind prog w).is k e.2) es.toList with
 | some j =>
   dsimp only
   obtain⟨j1,j2,_⟩:=List.findIdx?_eq_some_iff_getElem.mp hr
   have sk:S k=true:=(q5 k).mpr ⟨es.toList[j],List.getElem_mem j1,j2⟩
   refine wpAny_pure (wpAny_pure ?_)
   have e:s={ s with heap:=s.heap }:=by cases s;rfl
   have y:=z s.heap (Heap.SameBut.refl a s.heap) ⟨o,es,ep,t,⟨q1,q2,q3⟩,⟨q4,fun k'=>by
    rw[Bool.or_eq_true,decide_eq_true_eq,<-q5 k']
    exact⟨fun hk=>hk.elim id (fun e=>e ▸ sk),.inl⟩⟩,⟨q6,q7,by rw[sk];exact q9⟩,q8⟩
   rw[sk] at y
   rw[e];exact y
 | none =>
   dsimp only
   have sk:S k=false:=by
    cases hk:S k with
    | false=>rfl
    | true =>
      obtain⟨e,he,hp⟩:=(q5 k).mp hk
      have:=List.findIdx?_eq_none_iff.mp hr e he
      rw[hp] at this;cases this
   have v1:=layNew_perm t es ((intKind prog w).hash k) x
   have v2:=layNew_fits t es ((intKind prog w).hash k) x
   have v3:=q8.layQ es ((intKind prog w).hash k) x
   generalize layNew t es ((intKind prog w).hash k) x=W at v1 v2 v3 ⊢
   obtain⟨es1,t1,dum,gave⟩:=W
   dsimp only at v1 v2 v3 ⊢
   rw[Array.toList_push] at v1
   have len1:es1.size=n+1:=by rw[<-Array.length_toList,v1.length_eq,List.length_append,Array.length_toList,q9];rfl
   have u4:ElemsOf (intKind prog w) es1.toList:=(q4.push hx hsc).perm v1
   have u5:∀k',(S k'||decide (k'=k))=true↔∃e∈es1.toList,(intKind prog w).is k' e.2=true:=mem_push_iff hx q5 v1
   have u6:es1.size<scanBound:=by lia
   have gw:∀(b:Bool) (s1:Shared) (Q1:Unit->Shared->Prop),Q1 () s1->wpAny (model prog w) A (match b with | true=>rule "set.scan.the-table-gave-way" | false=>pure ()) Q1 E s1:=fun b s1 Q1 hq=>by
    cases b
    ·exact wpAny_pure hq
    ·exact wpAny_rule hq
   have fin:∀h',Heap.SameBut a s.heap h'->SetK prog w led h' a (fun k'=>S k'||decide (k'=k)) es1.size->Q true { s with heap:=h' }:=fun h' sb y=>by
    have y2:=z h' sb
    rw[sk] at y2
    rw[len1] at y
    exact y2 y
   refine wpAny_bind (gw _ _ _ ?_)
   by_cases pl:t1.plain=true
   ·rw[if_pos pl]
    refine wpAny_bind ?_
    rw[hashByValue_scannable 8 hsc]
    refine wpAny_pure ?_
    have v2':(if plainKind x=true then t1 else { t1 with plain:=false }).fits es1.size=true:=by
     split
     ·exact v2
     ·exact SetTable.fits_plain_off v2
    have v3':TabK led (if plainKind x=true then t1 else { t1 with plain:=false }):=by
     split
     ·exact v3
     ·exact v3.offQ
    refine w1l gw q1 q2 q3 u4 u5 u6 v2' v3' ?_
    intro h' sb y
    exact wpAny_pure (fin h' sb y)
   ·rw[if_neg pl]
    refine wpAny_bind (wpAny_pure ?_)
    simp only[↓reduceIte]
    refine w1l gw q1 q2 q3 u4 u5 u6 v2 v3 ?_
    intro h' sb y
    exact wpAny_pure (fin h' sb y)
end
section
variable {prog:Program}{w:World}{A:Around}{E:Value->Shared->Prop}{s:Shared}
noncomputable def z7s(w:World):Bool:=!(w.params.followText "set-order")
theorem w1n{led:Bool}{Z:Result->Shared->Prop}{I:Addr}{fp wr:List Addr}{G:Array GenState->Array GenState->Prop}{n:Nat}{P:Nat->Value->Prop}{St:Nat->Shared->Prop}(W:WalksS prog w A.in1 I fp wr G n P St)(a:Addr)(ha:a ∉ fp)
 (val:Nat->Int) (hval:∀i v,P i v->∃t,v = .int (val i) t) (hb:n+1<scanBound) :
 ∀(k i:Nat) (s:Shared),n-i=k->i<=n->St i s->SetK prog w led s.heap a (fun k'=>(firstMet val i).any (·==k')) (firstMet val i).length ->
  (∀s',Moved (a::wr) G s s'->SetK prog w led s'.heap a (fun k'=>(firstMet val n).any (·==k')) (firstMet val n).length->Z (.ok (.ret .none)) s') ->
  codeAny (model prog w) A (.builtin "set.update.loop" ⟨[.ref a,.ref I],[]⟩) Z s:=by
 have aw:a ∉ wr:=fun h=>ha (W.sub _ h)
 have sub':∀b∈wr,b∈a::wr:=fun b hb=>List.mem_cons_of_mem _ hb
 intro k
 induction k with
 | zero =>
   intro i s hk hi st hS hZ
   obtain rfl:i=n:=by lia
   refine codeAny_builtin F.entry_set_update_loop ?_
   rw[Around.under_plainId F.plain_set_update_loop _]
   show wpAny _ A.in1 (pyNext (.ref I)>>=_) _ _ s
   refine wpAny_bind (W.done s _ _ st fun s' mv=>?_)
   exact wpAny_pure (hZ s' (mv.mono sub') (hS.atQ fun o e=>mv.heap a o aw e))
 | succ k ih =>
   intro i s hk hi st hS hZ
   have lt:i<n:=by lia
   refine codeAny_builtin F.entry_set_update_loop ?_
   rw[Around.under_plainId F.plain_set_update_loop _]
   show wpAny _ A.in1 (pyNext (.ref I)>>=_) _ _ s
   refine wpAny_bind (W.item i s _ _ lt st fun v s' hP st' mv=>?_)
   obtain⟨t,rfl⟩:=hval i v hP
   have hS':=hS.atQ fun o e=>mv.heap a o aw e
   show wpAny _ A.in1 (holding [Value.int (val i) t] (setAdd a (.int (val i) t))>>=_) _ _ s'
   refine wpAny_bind (wpAny_holding ?_)
   unfold setAdd
   refine wpAny_holding (wpAny_bind ((intKind prog w).pyHash (k:=val i) (intKind_is _ _ _ _) ?_))
   refine addK (s:={ s' with toks:=s'.toks+1 }) (intKind_is _ _ _ _) rfl hS' (by have:=firstMet_length_le val i;lia) fun h' sb y=>?_
   have y':SetK prog w led h' a (fun k'=>(firstMet val (i+1)).any (·==k')) (firstMet val (i+1)).length:=y.likeQ (fun k'=>by rw[firstMet_succ,step_any]) (by rw[firstMet_succ,step_length])
   refine wpAny_pure ⟨plainId_quiet F.plain_set_update_loop _,ih (i+1) _ (by lia) lt (W.frame _ s' _ _ st' (Nat.le_succ _) fun b hb o e=>?_) y' fun s'' mv' y''=>?_⟩
   ·rw[sb.2 b (fun z:b=a=>ha (by rw[<-z];exact hb))];exact e
   ·refine hZ s'' (Moved.trans W.gtrans ((mv.mono sub').then_heap (Nat.le_succ _) fun b o hb e=>?_) mv') y''
    rw[sb.2 b (fun z:b=a=>hb (by rw[z];exact List.mem_cons_self))];exact e
theorem newK(v:Value){Q1:Value->Shared->Prop}(q:Q1 (.ref s.heap.objs.size) { s with heap:=s.heap.push { cls:=.type "set",dict:=none,data:=.set #[] 0 (.fresh 0 0 (z7s w)) } }) :
 codeAny (model prog w) A (.call (.builtin "set.__new__") ⟨[.type "set",v],[]⟩) (wants Q1 E) s:=by
 refine codeAny_of_tree (show wpAny _ A.in1 (do checkBuiltinCall "set.__new__" ⟨[.type "set",v],[]⟩;again (.builtin "set.__new__" ⟨[.type "set",v],[]⟩)) _ _ s from ?_)
 refine wpAny_bind (wpAny_of_eq (F.newCall_set_1 v) (wpAny_pure ⟨plainId_quiet F.plain_set_new _,codeAny_builtin F.entry_set_new ?_⟩))
 rw[Around.under_plainId F.plain_set_new _];unfold Builtin.«set.__new__» Builtin.Frozenset.newClass
 have hsub:=sub_set_self
 obtain⟨hp,g,d,tk,os⟩:=s
 dsimp only
 wp_walk
 refine wpAny_askSetting (wpAny_pure ?_)
 dsimp only
 simp only[newObj]
 exact wpAny_bind (wpAny_alloc (wpAny_pure (wpAny_pure q)))
end
section
variable {prog:Program}{w:World}{A:Around}{E:Value->Shared->Prop}{s:Shared}
theorem w5u{led:Bool}{h:Heap}{a:Addr}(e:h.get? a=some { cls:=.type "set",dict:=none,data:=.set #[] 0 (.fresh 0 0 led) }):SetK prog w led h a (fun _=>false) 0 :=
 ⟨_,#[],0,_,⟨e,⟨rfl,rfl,rfl⟩,rfl⟩,⟨fun e he=>by simp at he,fun k=>by simp⟩,⟨by decide,by rfl,rfl⟩,⟨rfl,rfl,fun _=>.nil⟩⟩
theorem x9y{l:Addr}{items:Array Value}{ns:List Int}{Q:Value->Shared->Prop}(hh:A.handled=none)(hl:s.heap.IsList l items)(hi:IntsAre items.toList ns)(hb:items.size+1<scanBound)
 (q:∀(h':Heap) (tk:Nat),SetK prog w (z7s w) h' s.heap.objs.size (fun k'=>(firstMet (fun i=>ns.getD i 0) items.size).any (·==k')) (firstMet (fun i=>ns.getD i 0) items.size).length ->
   (∀b o,b<s.heap.objs.size->s.heap.get? b=some o->h'.get? b=some o)->Q (.ref s.heap.objs.size) { s with heap:=h',toks:=tk }) :
 wpAny (model prog w) A (call (.type "set") [.ref l]) Q E s:=by
 obtain⟨c,tl,hmro⟩:=F.called_set.mro
 have hmade:=F.called_set.made;have hsub:=F.called_set.sub
 refine wpAny_call (codeAny_of_tree (show wpAny _ _ (callAny (.type "set") _) _ _ _ from ?_))
 refine wpAny_pure ⟨Code.quiet_builtin _ (by decide +kernel),codeAny_builtin F.entry_type_call ?_⟩;rw[Around.under_plain (weight_type_call_type "set" [.ref l] []) rfl]
 have h1:=F.called_set.notType;have h2:=F.called_set.canCreate;have hct:=F.typeCall_set_1 (.ref l)
 (repeat (any_goals (first | assumption | wp_step)))
 refine codeAny_mono (newK (.ref l) (E:=E) (Q1:=fun obj s1=>obj = .ref s.heap.objs.size/\s1={ s with heap:=s.heap.push { cls:=.type "set",dict:=none,data:=.set #[] 0 (.fresh 0 0 (z7s w)) } }) ⟨rfl,rfl⟩) fun r s1 hr=>?_
 cases r with
 | error e=>exact hr
 | ok fl =>
   cases fl with
   | ret obj =>
     obtain⟨rfl,rfl⟩:=hr
     have hS:(s.heap.push { cls:=.type "set",dict:=none,data:=.set #[] 0 (.fresh 0 0 (z7s w)) }).get? s.heap.objs.size=some { cls:=.type "set",dict:=none,data:=.set #[] 0 (.fresh 0 0 (z7s w)) }:=Heap.get?_push_size _ rfl
     have hT:Shared.TypeIs { s with heap:=s.heap.push { cls:=.type "set",dict:=none,data:=.set #[] 0 (.fresh 0 0 (z7s w)) } } (.ref s.heap.objs.size) "set":=⟨_,hS,rfl⟩
     have hli:=F.called_set.init.lookup;have hbi:=F.called_set.init.bind (.ref s.heap.objs.size)
     (repeat (any_goals (first | assumption | wp_step)))
     refine codeAny_mono (codeAny_call_builtin (R:=wants (fun r s2=>r = .none/\∃h' tk,s2={ s with heap:=h',toks:=tk } /\
      SetK prog w (z7s w) h' s.heap.objs.size (fun k'=>(firstMet (fun i=>ns.getD i 0) items.size).any (·==k')) (firstMet (fun i=>ns.getD i 0) items.size).length /\
      (∀b o,b<s.heap.objs.size->s.heap.get? b=some o->h'.get? b=some o)) E) F.called_set.init.plain F.entry_set_init (check_set_init_1 hT ?_)) fun r2 s2 hr2=>?_
     ·obtain⟨⟨ocls,odict,odata,oslots⟩,hol,hcl,nl,hdl⟩:=hl
      simp only at hcl hdl
      subst hcl hdl
      have hol':(s.heap.push { cls:=.type "set",dict:=none,data:=.set #[] 0 (.fresh 0 0 (z7s w)) }).get? l=some { cls:=.type "list",dict:=odict,data:=.seq items nl,slots:=oslots }:=Heap.get?_push_of_some _ hol
      have hsls:=F.sub_list_set;have hslf:=F.sub_list_frozenset
      have hne:(Value.type "list"==Value.type "dict")=false:=by decide
      have hl1:(s.heap.push { cls:=.type "set",dict:=none,data:=.set #[] 0 (.fresh 0 0 (z7s w)) }).IsList l items:=⟨_,hol',rfl,nl,rfl⟩
      unfold Builtin.«set.__init__» noKeywords Builtin.Frozenset.updateFrom;generalize hPI:pyIter=PI
      wp_walk
      subst hPI
      refine wpAny_pyIter_list hl1 (wpAny_bind (wpAny_runValue ?_))
      have hlS:l<s.heap.objs.size:=Heap.lt_size hol
      have hh3:A.in1.in1.in1.handled=none:=by simp[hh]
      have hnI:l≠(s.heap.push { cls:=.type "set",dict:=none,data:=.set #[] 0 (.fresh 0 0 (z7s w)) }).objs.size:=by rw[Heap.size_push];exact Nat.ne_of_lt (Nat.lt_succ_of_lt hlS)
      have hSf:s.heap.objs.size ∉ [(s.heap.push { cls:=.type "set",dict:=none,data:=.set #[] 0 (.fresh 0 0 (z7s w)) }).objs.size,l]:=by
       rw[Heap.size_push];simp only[List.mem_cons,List.mem_singleton,List.not_mem_nil,or_false,not_or];exact⟨Nat.ne_of_lt (Nat.lt_succ_self _),Nat.ne_of_gt hlS⟩
      have hval:∀(i:Nat) (v:Value),items[i]? = some v->∃t,v = .int ((fun i=>ns.getD i 0) i) t:=fun i v hv=>hi.int_at i v (by rw[Array.getElem?_toList];exact hv)
      refine w1n (led:=z7s w) ((Walks.list hh3 _ l hnI items).toS) s.heap.objs.size hSf (fun i=>ns.getD i 0) hval hb (items.size-0) 0 _ (by lia) (Nat.zero_le _) ⟨⟨_,Heap.get?_push_size _ rfl,rfl,rfl⟩,(hl1.push _)⟩ ?_ ?_
      ·have hg:((s.heap.push { cls:=.type "set",dict:=none,data:=.set #[] 0 (.fresh 0 0 (z7s w)) }).push { cls:=.type "list_iterator",data:=.fields #[.ref l,.int 0 0] }).get? s.heap.objs.size=some { cls:=.type "set",dict:=none,data:=.set #[] 0 (.fresh 0 0 (z7s w)) }:=Heap.get?_push_of_some _ hS
       exact(w5u hg).likeQ (fun _=>rfl) rfl
      ·intro s' mv y
       obtain⟨h',g',d',tk',os'⟩:=s'
       obtain rfl:g'=s.gens:=mv.gens
       obtain rfl:d'=s.drawn:=mv.drawn
       obtain rfl:os'=s.os:=mv.os
       show wpAny _ _ _ _ _ _
       refine wpAny_pure (show wpAny _ _ (ret Value.none) _ _ _ from wpAny_pure ⟨rfl,h',tk',rfl,y,fun b o hb e=>?_⟩)
       have b1:b≠s.heap.objs.size:=Nat.ne_of_lt hb
       have b2:b≠(s.heap.push { cls:=.type "set",dict:=none,data:=.set #[] 0 (.fresh 0 0 (z7s w)) }).objs.size:=by rw[Heap.size_push];exact Nat.ne_of_lt (Nat.lt_succ_of_lt hb)
       exact mv.heap b o (by simp only[List.mem_cons,List.mem_singleton,List.not_mem_nil,or_false,not_or];exact⟨b1,b2⟩) (Heap.get?_push_of_some _ (Heap.get?_push_of_some _ e))
     ·cases r2 with
      | error e=>exact hr2
      | ok fl2 =>
        cases fl2 with
        | ret r =>
          obtain⟨rfl,h',tk,rfl,y,keep⟩:=hr2
          (repeat (any_goals (first | assumption | wp_step)))
          exact q _ _ y keep
        | _=>exact hr2.elim
   | _=>exact hr.elim
end
theorem x0c:Manifest.owners.lookup (String.ofList ['r','o','t','a','r','e','t','i','_','t','e','s'].reverse)=some Manifest.sig_set_iterator:=by kernel_rfl
theorem z5l:Slot "set_iterator" "__next__" "set_iterator.__next__":=.of (owner:="set_iterator") (n:="__next__") (by rw[typeLookup_type,builtinLookup_eq_fast];kernel_rfl) (by decide +kernel) (by decide +kernel) (by decide +kernel) (by first | exact .inl (by decide +kernel) | exact .inr (by decide +kernel)) (by rw[isSubtype_type];kernel_rfl)
theorem y2j:entryFor table "set_iterator.__next__"=some Builtin.«set_iterator.__next__»:=entryFor_of_tree (by kernel_rfl)
theorem y5l(a:Value):argsOk "set_iterator.__next__" ⟨[a],[]⟩:=by unfold argsOk;rw[signature?_of (id:="set_iterator.__next__") (n:=['_','_','t','x','e','n','_','_']) (o:=['r','o','t','a','r','e','t','i','_','t','e','s']) (by kernel_rfl) x0c];kernel_rfl
theorem y5k:Slot "set_iterator" "__iter__" "set_iterator.__iter__":=.of (owner:="set_iterator") (n:="__iter__") (by rw[typeLookup_type,builtinLookup_eq_fast];kernel_rfl) (by decide +kernel) (by decide +kernel) (by decide +kernel) (by first | exact .inl (by decide +kernel) | exact .inr (by decide +kernel)) (by rw[isSubtype_type];kernel_rfl)
theorem y0h:entryFor table "set_iterator.__iter__"=some Builtin.«dict_keyiterator.__iter__»:=entryFor_alias (id':="dict_keyiterator.__iter__") (by kernel_rfl) rfl (by decide +kernel) (by kernel_rfl)
theorem y1s(a:Value):argsOk "set_iterator.__iter__" ⟨[a],[]⟩:=by unfold argsOk;rw[signature?_of (id:="set_iterator.__iter__") (n:=['_','_','r','e','t','i','_','_']) (o:=['r','o','t','a','r','e','t','i','_','t','e','s']) (by kernel_rfl) x0c];kernel_rfl
theorem y4h:entryFor table "set.__iter__"=some Builtin.«frozenset.__iter__»:=entryFor_alias (id':="frozenset.__iter__") (by kernel_rfl) rfl (by decide +kernel) (by kernel_rfl)
noncomputable def y1p(h:Heap)(it a:Addr)(f:Value)(i n ep:Nat):Prop:=∃o,h.get? it=some o/\o.cls = .type "set_iterator"/\o.data = .fields #[f,.int i 0,.ref a,.int n 0,.int ep 0]
theorem y1p.tyQ{s:Shared}{it a:Addr}{f:Value}{i n ep:Nat}(x:y1p s.heap it a f i n ep):s.TypeIs (.ref it) "set_iterator":=let ⟨o,ho,hc,_⟩:=x;⟨o,ho,hc⟩
theorem y1p.atQ{h h':Heap}{it a:Addr}{f:Value}{i n ep:Nat}(x:y1p h it a f i n ep)(e:∀o,h.get? it=some o->h'.get? it=some o):y1p h' it a f i n ep:=let ⟨o,ho,r⟩:=x;⟨o,e _ ho,r⟩
noncomputable def SObj(h:Heap)(a:Addr)(es:Array (Int×Value))(ep:Nat)(t:SetTable):Prop:=∃o,h.get? a=some o/\o.ExactSet/\o.data = .set es ep t/\t.fits es.size=true
theorem SObj.atQ{h h':Heap}{a:Addr}{es:Array (Int×Value)}{ep:Nat}{t:SetTable}(x:SObj h a es ep t)(e:∀o,h.get? a=some o->h'.get? a=some o):SObj h' a es ep t:=let ⟨o,ho,r⟩:=x;⟨o,e _ ho,r⟩
section
variable {prog:Program}{w:World}{A:Around}{E:Value->Shared->Prop}{s:Shared}
theorem y0e{Q:Bool->Shared->Prop}(q:Q (w.params.followText "set-order") s):wpAny (model prog w) A setsByText Q E s:=by
 unfold setsByText
 exact wpAny_bind (wpAny_askSetting (wpAny_pure q))
theorem y6t{it:Addr}{Q:Option Value->Shared->Prop}{h1:Heap}(hh:A.handled=none)(q:∀h',(∀b o,h1.get? b=some o->h'.get? b=some o)->Q none { s with heap:=h' }) :
 wpAny (model prog w) A.in1 (do raiseNew (<-newExc (.type "StopIteration") []):Sem Fin) (fun _ _=>False) (fun e s'=>wpAny (model prog w) A (do if <-isInstance e (.type "StopIteration") then pure none else throw e) Q E s') { s with heap:=h1 }:=by
 refine wpAny_bind ?_
 simp only[newExc,newTuple]
 refine wpAny_bind (wpAny_newObj_type ?_ (by size_fits))
 refine wpAny_bind (m:=firstArgMember _ _) (wpAny_of_eq (a:=Value.none) (by first | rfl | (simp only[firstArgMember];rfl)) (wpAny_newObj_type ?_ (by size_fits)))
 simp only[raiseNew]
 refine wpAny_bind (wpAny_handled ?_);rw[show A.in1.handled=none from hh]
 refine wpAny_bind (wpAny_pure (wpAny_throw ?_));refine wpAny_bind (wpAny_isInstance (T:="StopIteration") (b:=true) ⟨_,Heap.get?_push_size _ rfl,rfl⟩ isSubtype_stop ?_)
 exact wpAny_pure (q _ fun b o e=>Heap.get?_push_of_some _ (Heap.get?_push_of_some _ e))
theorem x4y{it a:Addr}{slot i n ep nx:Nat}{es:Array (Int×Value)}{t:SetTable}{x:Value}{Q:Option Value->Shared->Prop}(hit:y1p s.heap it a (.int slot 0) i n ep)(hS:SObj s.heap a es ep t)(hn:es.size=n)
 (hnx:∀(B:Around) (E':Value->Shared->Prop) (Q':Option (Value×Nat)->Shared->Prop),Q' (some (x,nx)) s->wpAny (model prog w) B (setNext a slot i ep) Q' E' s)
 (q:∀h',y1p h' it a (.int nx 0) (i+1) n ep->Heap.SameBut it s.heap h'->Q (some x) { s with heap:=h' }):wpAny (model prog w) A (pyNext (.ref it)) Q E s:=by
 obtain⟨o,ho,hc,hd⟩:=id hit
 obtain⟨oS,hoS,hex,hdS,hf⟩:=id hS
 unfold pyNext
 refine wpAny_bind (wpAny_attempt (wpAny_callSpecial?_slot (name:=Str.ofString "__next__") hit.tyQ z5l (wpAny_call_entry z5l hit.tyQ y2j ?_ (y5l _))))
 unfold Builtin.«set_iterator.__next__» slotArgs
 simp only[List.isEmpty_nil,Bool.not_true,Bool.false_eq_true,↓reduceIte,bind_assoc,List.length_nil,bne_self_eq_false,pure_bind]
 refine wpAny_bind (wpAny_fieldsOf ho hd ?_)
 dsimp only
 refine wpAny_bind (wpAny_setEntries_of hoS hdS hf ?_)
 rw[if_neg (by rw[hn];simp)]
 refine wpAny_bind (hnx _ _ _ ?_)
 dsimp only
 refine wpAny_bind (wpAny_setField ho hd (by simp) ?_)
 have g1:=Heap.get?_update_self (Obj.mapFields (·.setIfInBounds 0 (rawInt (nx:Int)))) ho (Obj.isFreed_of_fields (Obj.data_mapFields hd _))
 have d1:=Obj.data_mapFields hd (·.setIfInBounds 0 (rawInt (nx:Int)))
 refine wpAny_bind (wpAny_setField (s:={ s with heap:=s.heap.update it (Obj.mapFields (·.setIfInBounds 0 (rawInt (nx:Int)))) }) g1 d1 (by simp) ?_)
 have g2:=Heap.get?_update_self (Obj.mapFields (·.setIfInBounds 1 (rawInt ((i:Int)+1)))) g1 (Obj.isFreed_of_fields (Obj.data_mapFields d1 _))
 refine wpAny_pure ⟨_,rfl,wpAny_pure (q _ ⟨_,g2,?_,?_⟩ ((Heap.SameBut.update ..).trans (Heap.SameBut.update ..)))⟩
 ·exact(Obj.cls_mapFields ..).trans ((Obj.cls_mapFields ..).trans hc)
 ·rw[Obj.data_mapFields d1];simp[rawInt]
theorem x9j{it a:Addr}{slot i n ep:Nat}{es:Array (Int×Value)}{t:SetTable}{Q:Option Value->Shared->Prop}(hh:A.handled=none)(hit:y1p s.heap it a (.int slot 0) i n ep)(hS:SObj s.heap a es ep t)(hn:es.size=n)
 (hnx:∀(B:Around) (E':Value->Shared->Prop) (Q':Option (Value×Nat)->Shared->Prop),Q' none s->wpAny (model prog w) B (setNext a slot i ep) Q' E' s)
 (q:∀h',Heap.ExtBut it s.heap h'->Q none { s with heap:=h' }):wpAny (model prog w) A (pyNext (.ref it)) Q E s:=by
 obtain⟨o,ho,hc,hd⟩:=id hit
 obtain⟨oS,hoS,hex,hdS,hf⟩:=id hS
 unfold pyNext
 refine wpAny_bind (wpAny_attempt (wpAny_callSpecial?_slot (name:=Str.ofString "__next__") hit.tyQ z5l (wpAny_call_entry z5l hit.tyQ y2j ?_ (y5l _))))
 unfold Builtin.«set_iterator.__next__» slotArgs
 simp only[List.isEmpty_nil,Bool.not_true,Bool.false_eq_true,↓reduceIte,bind_assoc,List.length_nil,bne_self_eq_false,pure_bind]
 refine wpAny_bind (wpAny_fieldsOf ho hd ?_)
 dsimp only
 refine wpAny_bind (wpAny_setEntries_of hoS hdS hf ?_)
 rw[if_neg (by rw[hn];simp)]
 refine wpAny_bind (hnx _ _ _ ?_)
 dsimp only
 refine wpAny_bind (wpAny_setField ho hd (by simp) ?_)
 refine wpAny_mono (y6t (it:=it) hh fun h' k=>q h' fun b o hb e=>?_) (fun _ _ z=>z.elim) fun _ _ z=>z
 exact k b o ((Heap.SameBut.update ..).extBut b o hb e)
end
theorem At.oneQ{xs:Array Nat}{j i i':Nat}(h:At xs j i)(h':At xs j i'):i=i':=by
 obtain⟨a1,a2,a3⟩:=h
 obtain⟨b1,b2,b3⟩:=h'
 rcases Nat.lt_trichotomy i i' with z | z | z
 ·have lt:i<xs.size:=by lia
  have e:=Array.getElem?_eq_getElem lt
  have:=b2 i _ z e
  have:=a3 i _ (Nat.le_refl _) e
  lia
 ·exact z
 ·have lt:i'<xs.size:=by lia
  have e:=Array.getElem?_eq_getElem lt
  have:=a2 i' _ z e
  have:=b3 i' _ (Nat.le_refl _) e
  lia
noncomputable def y4q(p:Array Nat):Nat->Nat
 | 0=>0
 | i+1=>(p[i]?).getD 0+1
theorem y5d{p:Array Nat}(hup:p.toList.Pairwise (·<·)){i:Nat}(hi:i<=p.size):SetTable.below p (y4q p i)=i:=by
 refine(x1h hup _).oneQ ⟨hi,?_⟩
 have mono:∀(a b va vb:Nat),a<b->p[a]? = some va->p[b]? = some vb->va<vb:=fun a b va vb hab ea eb=>by
  obtain⟨ha,ea'⟩:=Array.getElem?_eq_some_iff.mp ea
  obtain⟨hb,eb'⟩:=Array.getElem?_eq_some_iff.mp eb
  have:=List.pairwise_iff_getElem.mp hup a b (by simpa using ha) (by simpa using hb) hab
  rw[Array.getElem_toList,Array.getElem_toList,ea',eb'] at this
  exact this
 cases i with
 | zero=>exact⟨fun k v hk=>absurd hk (Nat.not_lt_zero _),fun k v _ _=>Nat.zero_le _⟩
 | succ i =>
   have lt:i<p.size:=by lia
   have e:=Array.getElem?_eq_getElem lt
   have es:y4q p (i+1)=p[i]+1:=by rw[y4q,e];rfl
   rw[es]
   refine⟨fun k v hk ek=>?_,fun k v hk ek=>?_⟩
   ·rcases Nat.lt_or_ge k i with z | z
    ·have:=mono k i v _ z ek e;lia
    ·have:k=i:=by lia
     rw[this,e] at ek;cases ek;lia
   ·have:=mono i k _ v (by lia) e ek;lia
theorem y1l{α:Type}:∀(l:List α) (i:Nat) (x:α),l[i]? = some x->l.Perm (x::l.eraseIdx i)
 | [],i,x,h=>by simp at h
 | y::l,0,x,h=>by simp at h;subst h;exact .refl _
 | y::l,i+1,x,h=>by
   have ih:=y1l l i x (by simpa using h)
   rw[List.eraseIdx_cons_succ]
   exact(List.Perm.cons y ih).trans (List.Perm.swap x y _)
theorem y7l{α:Type}(nx:Nat->Nat):∀(fuel k:Nat) (left:List α) (out:Array α),left.length<=fuel->(pickOrder.go nx fuel k left out).toList.Perm (out.toList++left)
 | 0,k,left,out,h=>by
   have:left=[]:=List.length_eq_zero_iff.mp (by lia)
   subst this
   rw[List.append_nil];exact .refl _
 | fuel+1,k,left,out,h=>by
   unfold pickOrder.go
   cases hq:left[nx k%left.length]? with
   | none =>
     cases left with
     | nil=>simp
     | cons x l =>
       have:=List.getElem?_eq_none_iff.mp hq
       have:=Nat.mod_lt (nx k) (show 0<(x::l).length by simp)
       lia
   | some x =>
     obtain⟨hlt,ex⟩:=List.getElem?_eq_some_iff.mp hq
     have hl:(left.eraseIdx (nx k%left.length)).length<=fuel:=by rw[List.length_eraseIdx_of_lt hlt];lia
     refine(y7l nx fuel (k+1) _ (out.push x) hl).trans ?_
     rw[Array.toList_push,List.append_assoc]
     refine List.Perm.append_left _ ?_
     exact(y1l left _ x hq).symm
theorem y4j{α:Type}(nx:Nat->Nat)(xs:Array α):(pickOrder nx xs).toList.Perm xs.toList:=y7l nx xs.size 0 xs.toList #[] (by simp)
section
variable {prog:Program}{w:World}{A:Around}{E:Value->Shared->Prop}{s:Shared}
theorem x4u{a:Addr}{slot i ep:Nat}{es:Array (Int×Value)}{t:SetTable}{Q:Option (Value×Nat)->Shared->Prop}(hb:w.params.followText "set-order"=true)(hS:SObj s.heap a es ep t)
 (q:Q (((pickOrder (w.params.setOrder a ep) es)[i]?).map fun e=>(e.2,slot)) s):wpAny (model prog w) A (setNext a slot i ep) Q E s:=by
 obtain⟨oS,hoS,hex,hdS,hf⟩:=hS
 unfold setNext
 refine wpAny_bind (wpAny_setState_of hoS hdS hf ?_)
 dsimp only
 refine wpAny_bind (y0e ?_)
 rw[hb]
 simp only[↓reduceIte,bne_self_eq_false,Bool.false_eq_true]
 refine wpAny_bind ?_
 unfold setWalk
 refine wpAny_bind (wpAny_setState_of hoS hdS hf ?_)
 dsimp only
 refine wpAny_bind (y0e ?_)
 rw[hb]
 simp only[↓reduceIte]
 exact wpAny_bind (wpAny_askSetting (wpAny_pure (wpAny_pure q)))
theorem x0m{a:Addr}{slot i ep:Nat}{es:Array (Int×Value)}{t:SetTable}{Q:Option (Value×Nat)->Shared->Prop}(hb:w.params.followText "set-order"=false)(hS:SObj s.heap a es ep t)(hl:t.led=true)(hd:(!t.plain&&decide (es.size>1))=false)
 (q:Q (match es[SetTable.below t.place slot]?,t.place[SetTable.below t.place slot]? with | some (_,x),some j=>some (x,j+1) | _,_=>none) s):wpAny (model prog w) A (setNext a slot i ep) Q E s:=by
 obtain⟨oS,hoS,hex,hdS,hf⟩:=hS
 unfold setNext
 refine wpAny_bind (wpAny_setState_of hoS hdS hf ?_)
 dsimp only
 refine wpAny_bind (y0e ?_)
 rw[hb]
 simp only[Bool.false_eq_true,↓reduceIte]
 show wpAny _ _ (if (!t.plain&&decide (es.size>1))=true then _ else _) _ _ s
 rw[hd]
 simp only[Bool.false_eq_true,↓reduceIte]
 refine wpAny_bind ?_
 show wpAny _ _ (if (!t.led&&!es.isEmpty)=true then _ else _) _ _ s
 rw[hl]
 simp only[Bool.not_true,Bool.false_and,Bool.false_eq_true,↓reduceIte]
 exact wpAny_pure (wpAny_pure q)
theorem x7k(hh:A.handled=none){it a:Addr}(hne:a≠it){n ep:Nat}{es:Array (Int×Value)}{t:SetTable}(hn:es.size=n)(sl:Nat->Nat)(vals:List Value)(hv:vals.length=n)
 (hi:∀i x,vals[i]? = some x->∀(B:Around) (E':Value->Shared->Prop) (s:Shared) (Q':Option (Value×Nat)->Shared->Prop),SObj s.heap a es ep t->Q' (some (x,sl (i+1))) s->wpAny (model prog w) B (setNext a (sl i) i ep) Q' E' s)
 (he:∀(B:Around) (E':Value->Shared->Prop) (s:Shared) (Q':Option (Value×Nat)->Shared->Prop),SObj s.heap a es ep t->Q' none s->wpAny (model prog w) B (setNext a (sl n) n ep) Q' E' s) :
 Walks prog w A it [it,a] [it] n (fun i v=>vals[i]? = some v) (fun i h=>y1p h it a (.int (sl i) 0) i n ep/\SObj h a es ep t) where
 sub:=fun b hb=>by simp at hb;simp[hb]
 frame:=fun _ _ _ st hk=>⟨st.1.atQ fun o e=>hk it (by simp) o e,st.2.atQ fun o e=>hk a (by simp) o e⟩
 item:=fun i s Q E hlt st hQ=>by
  have hx:vals[i]? = some vals[i]:=List.getElem?_eq_getElem (by lia)
  refine x4y st.1 st.2 hn (fun B E' Q' q=>hi i _ hx B E' s Q' st.2 q) fun h' y sb=>?_
  exact hQ _ h' s.toks hx ⟨y,st.2.atQ fun o e=>sb.extBut a o hne e⟩ fun b o hb e=>sb.extBut b o (fun z=>hb (by simp[z])) e
 done:=fun s Q E st hQ=>x9j hh st.1 st.2 hn (fun B E' Q' q=>he B E' s Q' st.2 q) fun h' k=>hQ h' s.toks fun b o hb e=>k b o (fun z=>hb (by simp[z])) e
 self:=fun i s Q E st hQ=>by
  refine wpAny_pyIter_slot st.1.tyQ y5k (wpAny_call_entry y5k st.1.tyQ y0h ?_ (y1s _))
  show wpAny _ _ (ret (.ref it)) _ _ s
  exact wpAny_pure ⟨_,rfl,"set_iterator",_,st.1.tyQ,z5l.lookup,hQ⟩
end
section
variable {prog:Program}{w:World}{A:Around}{E:Value->Shared->Prop}{s:Shared}
noncomputable def x3c(h:Heap)(T:Addr)(ps:List Nat):Prop:=∃o k,h.get? T=some o/\o.data = .seq (ps.map fun(p:Nat)=>rawInt (p:Int)).toArray k
theorem x3c.atQ{h h':Heap}{T:Addr}{ps:List Nat}(x:x3c h T ps)(e:∀o,h.get? T=some o->h'.get? T=some o):x3c h' T ps:=let ⟨o,k,ho,r⟩:=x;⟨o,k,e _ ho,r⟩
theorem x2h{it a T:Addr}{i n ep p:Nat}{ps:List Nat}{es:Array (Int×Value)}{t:SetTable}{hx:Int}{x:Value}{Q:Option Value->Shared->Prop}(hit:y1p s.heap it a (.ref T) i n ep)(hS:SObj s.heap a es ep t)(hT:x3c s.heap T ps)(hn:es.size=n)(hp:ps[i]? = some p)(hx':es[p]? = some (hx,x))
 (q:∀h',y1p h' it a (.ref T) (i+1) n ep->Heap.SameBut it s.heap h'->Q (some x) { s with heap:=h' }):wpAny (model prog w) A (pyNext (.ref it)) Q E s:=by
 obtain⟨o,ho,hc,hd⟩:=id hit
 obtain⟨oS,hoS,hex,hdS,hf⟩:=id hS
 obtain⟨oT,k,hoT,hdT⟩:=hT
 unfold pyNext
 refine wpAny_bind (wpAny_attempt (wpAny_callSpecial?_slot (name:=Str.ofString "__next__") hit.tyQ z5l (wpAny_call_entry z5l hit.tyQ y2j ?_ (y5l _))))
 unfold Builtin.«set_iterator.__next__» slotArgs
 simp only[List.isEmpty_nil,Bool.not_true,Bool.false_eq_true,↓reduceIte,bind_assoc,List.length_nil,bne_self_eq_false,pure_bind]
 refine wpAny_bind (wpAny_fieldsOf ho hd ?_)
 dsimp only
 refine wpAny_bind (wpAny_setEntries_of hoS hdS hf ?_)
 rw[if_neg (by rw[hn];simp)]
 refine wpAny_bind (wpAny_seqItems hoT hdT ?_)
 have ep1:((ps.map fun(p:Nat)=>rawInt (p:Int)).toArray)[(i:Int).toNat]? = some (.int (p:Int) 0):=by
  rw[Int.toNat_natCast,List.getElem?_toArray,List.getElem?_map,hp];rfl
 dsimp only
 rw[ep1]
 dsimp only
 refine wpAny_bind ?_
 unfold setNextDrawn
 refine wpAny_bind (wpAny_setState_of hoS hdS hf ?_)
 dsimp only
 simp only[Int.toNat_natCast,bne_self_eq_false,Bool.false_eq_true,↓reduceIte,hx']
 refine wpAny_pure (wpAny_bind (wpAny_setField ho hd (by simp) ?_))
 have g1:=Heap.get?_update_self (Obj.mapFields (·.setIfInBounds 1 (rawInt ((i:Int)+1)))) ho (Obj.isFreed_of_fields (Obj.data_mapFields hd _))
 refine wpAny_pure ⟨_,rfl,wpAny_pure (q _ ⟨_,g1,(Obj.cls_mapFields ..).trans hc,?_⟩ (Heap.SameBut.update ..))⟩
 rw[Obj.data_mapFields hd];simp[rawInt]
theorem x6o{it a T:Addr}{i n ep:Nat}{ps:List Nat}{es:Array (Int×Value)}{t:SetTable}{Q:Option Value->Shared->Prop}(hh:A.handled=none)(hit:y1p s.heap it a (.ref T) i n ep)(hS:SObj s.heap a es ep t)(hT:x3c s.heap T ps)(hn:es.size=n)(hp:ps[i]? = none)
 (q:∀h',Heap.ExtBut it s.heap h'->Q none { s with heap:=h' }):wpAny (model prog w) A (pyNext (.ref it)) Q E s:=by
 obtain⟨o,ho,hc,hd⟩:=id hit
 obtain⟨oS,hoS,hex,hdS,hf⟩:=id hS
 obtain⟨oT,k,hoT,hdT⟩:=hT
 unfold pyNext
 refine wpAny_bind (wpAny_attempt (wpAny_callSpecial?_slot (name:=Str.ofString "__next__") hit.tyQ z5l (wpAny_call_entry z5l hit.tyQ y2j ?_ (y5l _))))
 unfold Builtin.«set_iterator.__next__» slotArgs
 simp only[List.isEmpty_nil,Bool.not_true,Bool.false_eq_true,↓reduceIte,bind_assoc,List.length_nil,bne_self_eq_false,pure_bind]
 refine wpAny_bind (wpAny_fieldsOf ho hd ?_)
 dsimp only
 refine wpAny_bind (wpAny_setEntries_of hoS hdS hf ?_)
 rw[if_neg (by rw[hn];simp)]
 refine wpAny_bind (wpAny_seqItems hoT hdT ?_)
 have ep1:((ps.map fun(p:Nat)=>rawInt (p:Int)).toArray)[(i:Int).toNat]? = none:=by
  rw[Int.toNat_natCast,List.getElem?_toArray,List.getElem?_map,hp];rfl
 dsimp only
 rw[ep1]
 dsimp only
 refine wpAny_bind (wpAny_setField ho hd (by simp) ?_)
 have g1:=Heap.get?_update_self (Obj.mapFields (·.setIfInBounds 0 (rawInt 0))) ho (Obj.isFreed_of_fields (Obj.data_mapFields hd _))
 refine wpAny_bind (wpAny_setField (s:={ s with heap:=s.heap.update it (Obj.mapFields (·.setIfInBounds 0 (rawInt 0))) }) g1 (Obj.data_mapFields hd _) (by simp) ?_)
 refine wpAny_mono (y6t (it:=it) hh fun h' k=>q h' fun b o hb e=>?_) (fun _ _ z=>z.elim) fun _ _ z=>z
 exact k b o ((Heap.SameBut.update ..).extBut b o hb ((Heap.SameBut.update ..).extBut b o hb e))
theorem x3g(hh:A.handled=none){it a T:Addr}(hne:a≠it)(hnT:T≠it){n ep:Nat}{ps:List Nat}{es:Array (Int×Value)}{t:SetTable}(hn:es.size=n)(hps:ps.length=n)(hlt:∀p∈ps,p<n) :
 Walks prog w A it [it,a,T] [it] n (fun i v=>(ps.filterMap fun p=>(es[p]?).map (·.2))[i]? = some v) (fun i h=>y1p h it a (.ref T) i n ep/\SObj h a es ep t/\x3c h T ps) where
 sub:=fun b hb=>by simp at hb;simp[hb]
 frame:=fun _ _ _ st hk=>⟨st.1.atQ fun o e=>hk it (by simp) o e,st.2.1.atQ fun o e=>hk a (by simp) o e,st.2.2.atQ fun o e=>hk T (by simp) o e⟩
 item:=fun i s Q E hi st hQ=>by
  have hp:ps[i]? = some ps[i]:=List.getElem?_eq_getElem (by lia)
  have hpn:=hlt _ (List.getElem_mem (l:=ps) (n:=i) (by lia))
  have hx:es[ps[i]]? = some es[ps[i]]:=Array.getElem?_eq_getElem (by lia)
  have hv:(ps.filterMap fun p=>(es[p]?).map (·.2))[i]? = some es[ps[i]].2:=by
   have:ps.filterMap (fun p=>(es[p]?).map (·.2))=ps.map fun p=>((es[p]?).map (·.2)).getD .none:=by
    clear hp hpn hx st hQ hps hi
    induction ps with
    | nil=>rfl
    | cons p ps ih =>
      have hp:=hlt p List.mem_cons_self
      rw[List.filterMap_cons,Array.getElem?_eq_getElem (show p<es.size by lia),List.map_cons,ih fun q hq=>hlt q (List.mem_cons_of_mem _ hq)]
      simp[Array.getElem?_eq_getElem (show p<es.size by lia)]
   rw[this,List.getElem?_map,hp]
   simp[hx]
  refine x2h (x:=es[ps[i]].2) (hx:=es[ps[i]].1) st.1 st.2.1 st.2.2 hn hp hx fun h' y sb=>?_
  exact hQ _ h' s.toks hv ⟨y,st.2.1.atQ fun o e=>sb.extBut a o hne e,st.2.2.atQ fun o e=>sb.extBut T o hnT e⟩ fun b o hb e=>sb.extBut b o (fun z=>hb (by simp[z])) e
 done:=fun s Q E st hQ=>x6o hh st.1 st.2.1 st.2.2 hn (by simp;lia) fun h' k=>hQ h' s.toks fun b o hb e=>k b o (fun z=>hb (by simp[z])) e
 self:=fun i s Q E st hQ=>by
  refine wpAny_pyIter_slot st.1.tyQ y5k (wpAny_call_entry y5k st.1.tyQ y0h ?_ (y1s _))
  show wpAny _ _ (ret (.ref it)) _ _ s
  exact wpAny_pure ⟨_,rfl,"set_iterator",_,st.1.tyQ,z5l.lookup,hQ⟩
theorem x1i{n:Nat}{Q:Nat->Shared->Prop}(hn:n≠0)(q:∀k d,k<n->Q k { s with drawn:=d }):wpAny (model prog w) A (choose .order n) Q E s:=by
 intro Γ p hΓ
 show Sem.wp _ _ (.choose .order n _) _ _ _ _
 rw[Sem.wp_choose]
 refine⟨hn,?_⟩
 exact q _ _ (Nat.mod_lt _ (Nat.pos_of_ne_zero hn))
theorem y1r:∀(n:Nat) (xs:List Nat) (s:Shared) {Q:List Nat->Shared->Prop},xs.length=n->(∀ys d,ys.Perm xs->Q ys { s with drawn:=d })->wpAny (model prog w) A (drawOrder n xs) Q E s
 | 0,xs,s,Q,hl,q=>by
   have:xs=[]:=List.length_eq_zero_iff.mp hl
   subst this
   unfold drawOrder
   have e:s={ s with drawn:=s.drawn }:=by cases s;rfl
   exact wpAny_pure (by rw[e];exact q [] s.drawn (.refl _))
 | n+1,[],s,Q,hl,q=>by simp at hl
 | n+1,x::xs,s,Q,hl,q=>by
   unfold drawOrder
   refine wpAny_bind (x1i (by simp) fun k d hk=>?_)
   have hx:(x::xs)[k]? = some (x::xs)[k]:=List.getElem?_eq_getElem hk
   rw[hx]
   dsimp only
   refine wpAny_bind (y1r n _ _ (by rw[List.length_eraseIdx_of_lt hk];lia) fun ys d' hp=>?_)
   exact wpAny_pure (q _ d' ((List.Perm.cons _ hp).trans (y1l _ _ _ hx).symm))
end
section
variable {prog:Program}{w:World}{A:Around}{E:Value->Shared->Prop}{s:Shared}
theorem w3g{a:Addr}{es:Array (Int×Value)}{ep n:Nat}{t:SetTable}{Q:Value->Shared->Prop}(hS:SObj s.heap a es ep t)(hn:es.size=n)(hk:TabK (z7s w) t)(hz:n<=4096)
 (q:∀(it:Addr) (h':Heap) (d:Drawn) (vals:List Value) (fp:List Addr) (St:Nat->Heap->Prop),s.heap.objs.size<=it->(∀b o,s.heap.get? b=some o->h'.get? b=some o)->(∀A':Around,A'.handled=none->Walks prog w A' it fp [it] n (fun i v=>vals[i]? = some v) St)->St 0 h'->(∀b∈fp,b=a∨s.heap.objs.size<=b)->(∀b∈fp,b<h'.objs.size)->vals.length=n->vals.Perm (es.toList.map (·.2))->Q (.ref it) { s with heap:=h',drawn:=d }) :
 wpAny (model prog w) A (pyIter (.ref a)) Q E s:=by
 obtain⟨oS,hoS,hex,hdS,hf⟩:=id hS
 have hT:s.TypeIs (.ref a) "set":=⟨oS,hoS,hex.1⟩
 have halt:a<s.heap.objs.size:=Heap.lt_size hoS
 refine wpAny_pyIter_slot hT F.slot_set_iter (wpAny_call_entry F.slot_set_iter hT y4h ?_ (F.args_set_iter_1 _))
 unfold Builtin.«frozenset.__iter__» Builtin.Frozenset.slot0 slotArgs
 simp only[List.isEmpty_nil,Bool.not_true,Bool.false_eq_true,↓reduceIte,bind_assoc,List.length_nil,bne_self_eq_false,pure_bind]
 unfold Builtin.Frozenset.addrOf Builtin.Frozenset.sizeOf
 refine wpAny_bind (wpAny_pure ?_)
 try dsimp only
 refine wpAny_bind (wpAny_bind (wpAny_setEntries_of hoS hdS hf (wpAny_pure ?_)))
 refine wpAny_bind ?_
 unfold setDrawn
 refine wpAny_bind (wpAny_setState_of hoS hdS hf ?_)
 dsimp only
 refine wpAny_bind (y0e ?_)
 refine wpAny_pure ?_
 show wpAny _ _ (if (!w.params.followText "set-order"&&(!t.plain&&decide (es.size>1)))=true then _ else _) _ _ s
 have hpl:t.place.size=n:=by
  have:=hf
  simp only[SetTable.fits,Bool.and_eq_true,beq_iff_eq] at this
  lia
 have slot:∀(sl:Nat->Nat) (vals:List Value),vals.length=n->vals.Perm (es.toList.map (·.2))->sl 0=0 ->
  (∀i x,vals[i]? = some x->∀(B:Around) (E':Value->Shared->Prop) (s:Shared) (Q':Option (Value×Nat)->Shared->Prop),SObj s.heap a es ep t->Q' (some (x,sl (i+1))) s->wpAny (model prog w) B (setNext a (sl i) i ep) Q' E' s) ->
  (∀(B:Around) (E':Value->Shared->Prop) (s:Shared) (Q':Option (Value×Nat)->Shared->Prop),SObj s.heap a es ep t->Q' none s->wpAny (model prog w) B (setNext a (sl n) n ep) Q' E' s) ->
  Q (.ref s.heap.objs.size) { s with heap:=s.heap.push { cls:=.type "set_iterator",data:=.fields #[.int 0 0,.int 0 0,.ref a,.int n 0,.int ep 0] } }:=fun sl vals hv hp h0 hi he=>by
  have e:s={ s with drawn:=s.drawn }:=by cases s;rfl
  have y:=q s.heap.objs.size (s.heap.push { cls:=.type "set_iterator",data:=.fields #[.int 0 0,.int 0 0,.ref a,.int n 0,.int ep 0] }) s.drawn vals _ _ (Nat.le_refl _) (fun b o e=>Heap.get?_push_of_some _ e) (fun A' hh=>x7k hh (it:=s.heap.objs.size) (Nat.ne_of_lt halt) hn sl vals hv hi he) ⟨⟨_,Heap.get?_push_size _ rfl,rfl,by rw[h0];rfl⟩,hS.atQ fun o e=>Heap.get?_push_of_some _ e⟩ (fun b hb=>by
   simp only[List.mem_cons,List.not_mem_nil,or_false] at hb
   rcases hb with rfl | rfl
   ·exact .inr (Nat.le_refl _)
   ·exact .inl rfl) (fun b hb=>by
   rw[Heap.size_push]
   simp only[List.mem_cons,List.not_mem_nil,or_false] at hb
   rcases hb with rfl | rfl
   ·exact Nat.lt_succ_self _
   ·exact Nat.lt_succ_of_lt halt) hv hp
  exact y
 have mk:Q (.ref s.heap.objs.size) { s with heap:=s.heap.push { cls:=.type "set_iterator",data:=.fields #[.int 0 0,.int 0 0,.ref a,.int n 0,.int ep 0] } } ->
  wpAny (model prog w) A.in1 (do
   ret (<-newFields "set_iterator" [rawInt 0,rawInt 0,.ref a,rawInt (es.size:Int),rawInt (<-setEpoch a)])) (fun fin s'=>∃r,fin=Fin.done (Flow.ret r)/\∃T' r',s'.TypeIs r T'/\typeLookup (.type T') "__next__"=pure (some r')/\Q r s') E s:=fun hq=>by
  refine wpAny_bind (wpAny_setEpoch_of hoS hdS hf ?_)
  refine wpAny_bind (wpAny_newObj_type (wpAny_pure ⟨_,rfl,"set_iterator",_,⟨_,Heap.get?_push_size _ rfl,rfl⟩,z5l.lookup,?_⟩))
  rw[hn];exact hq
 cases hb:w.params.followText "set-order" with
 | true =>
   rw[if_neg (by simp)]
   have p:=y4j (w.params.setOrder a ep) es
   refine mk (slot (fun _=>0) ((pickOrder (w.params.setOrder a ep) es).toList.map (·.2)) ?_ (p.map _) rfl (fun i x hx B E' s Q' y q'=>x4u hb y ?_) fun B E' s Q' y q'=>x4u hb y ?_)
   ·rw[List.length_map,p.length_eq,Array.length_toList,hn]
   ·rw[List.getElem?_map,Array.getElem?_toList] at hx
    cases hq:(pickOrder (w.params.setOrder a ep) es)[i]? with
    | none=>rw[hq] at hx;cases hx
    | some e=>rw[hq] at hx;cases hx;exact q'
   ·have:(pickOrder (w.params.setOrder a ep) es)[n]? = none:=by
     rw[Array.getElem?_eq_none_iff]
     have:=p.length_eq
     rw[Array.length_toList,Array.length_toList] at this
     lia
    rw[this];exact q'
 | false =>
   have hled:t.led=true:=by rw[hk.led];unfold z7s;rw[hb];rfl
   cases hd:(!t.plain&&decide (es.size>1)) with
   | false =>
     rw[if_neg (by simp)]
     have hup:t.place.toList.Pairwise (·<·):=by
      cases hpn:t.plain with
      | true=>exact hk.up hpn
      | false =>
        rw[hpn] at hd
        have h1:¬es.size>1:=by simpa using hd
        match hm:t.place.toList,(show t.place.toList.length<=1 by rw[Array.length_toList];lia) with
        | [],_=>exact .nil
        | [x],_=>exact List.pairwise_singleton _ _
        | _::_::_,h=>simp at h
     refine mk (slot (y4q t.place) (es.toList.map (·.2)) (by rw[List.length_map,Array.length_toList,hn]) (.refl _) rfl (fun i x hx B E' s Q' y q'=>x0m hb y hled hd ?_) fun B E' s Q' y q'=>x0m hb y hled hd ?_)
     ·rw[List.getElem?_map,Array.getElem?_toList] at hx
      cases hq:es[i]? with
      | none=>rw[hq] at hx;cases hx
      | some e =>
        rw[hq] at hx
        cases hx
        have hi:i<es.size:=(Array.getElem?_eq_some_iff.mp hq).1
        have hp:=Array.getElem?_eq_getElem (xs:=t.place) (i:=i) (by lia)
        rw[y5d hup (by lia),hq,hp]
        have:y4q t.place (i+1)=t.place[i]+1:=by rw[y4q,hp];rfl
        rw[this] at q'
        exact q'
     ·rw[y5d hup (by lia),Array.getElem?_eq_none (by lia)]
      exact q'
   | true =>
     rw[if_pos (by simp)]
     refine wpAny_bind (y1r _ _ _ (by simp) fun ys d hp=>wpAny_bind (wpAny_newTuple ?_ (by rw[List.length_map,hp.length_eq,List.length_range,sizeLine_eq];lia)))
     have hS2:SObj (s.heap.push (seqObj "tuple" (ys.map fun(i:Nat)=>rawInt i).toArray 0)) a es ep t:=hS.atQ fun o e=>Heap.get?_push_of_some _ e
     obtain⟨o2,ho2,_,hd2,hf2⟩:=id hS2
     refine wpAny_bind (wpAny_setEpoch_of (s:={ s with heap:=s.heap.push (seqObj "tuple" (ys.map fun(i:Nat)=>rawInt i).toArray 0),drawn:=d }) ho2 hd2 hf2 ?_)
     refine wpAny_bind (wpAny_newObj_type (wpAny_pure ⟨_,rfl,"set_iterator",_,⟨_,Heap.get?_push_size _ rfl,rfl⟩,z5l.lookup,?_⟩))
     have hl:ys.length=n:=by rw[hp.length_eq,List.length_range,hn]
     have hlt:∀p∈ys,p<n:=fun p hpp=>by have:=hp.mem_iff.mp hpp;rw[List.mem_range,hn] at this;exact this
     have hT1:s.heap.objs.size<(s.heap.push (seqObj "tuple" (ys.map fun(i:Nat)=>rawInt i).toArray 0)).objs.size:=by rw[Heap.size_push];exact Nat.lt_succ_self _
     refine q _ _ d (ys.filterMap fun p=>(es[p]?).map (·.2)) _ _ (Nat.le_of_lt hT1) (fun b o e=>Heap.get?_push_of_some _ (Heap.get?_push_of_some _ e)) (fun A' hh=>x3g (T:=s.heap.objs.size) hh (Nat.ne_of_lt (Nat.lt_trans halt hT1)) (Nat.ne_of_lt hT1) hn hl hlt) ⟨⟨_,Heap.get?_push_size _ rfl,rfl,by rw[hn];rfl⟩,hS2.atQ fun o e=>Heap.get?_push_of_some _ e,⟨_,_,Heap.get?_push_of_some _ (Heap.get?_push_size _ rfl),rfl⟩⟩ (fun b hb=>?_) (fun b hb=>?_) ?_ ?_
     ·simp only[List.mem_cons,List.not_mem_nil,or_false] at hb
      rcases hb with rfl | rfl | rfl
      ·exact .inr (Nat.le_of_lt hT1)
      ·exact .inl rfl
      ·exact .inr (Nat.le_refl _)
     ·rw[Heap.size_push]
      simp only[List.mem_cons,List.not_mem_nil,or_false] at hb
      rcases hb with rfl | rfl | rfl
      ·exact Nat.lt_succ_self _
      ·exact Nat.lt_succ_of_lt (Nat.lt_trans halt hT1)
      ·exact Nat.lt_succ_of_lt hT1
     ·have:=(hp.filterMap (fun p=>(es[p]?).map (·.2))).length_eq
      rw[this,<-hn]
      have h2:(List.range es.size).filterMap (fun p=>(es[p]?).map (·.2))=es.toList.map (·.2):=by rw[<-List.map_filterMap,filterMap_getElem?_range]
      rw[h2];simp
     ·refine(hp.filterMap _).trans ?_
      have h2:(List.range es.size).filterMap (fun p=>(es[p]?).map (·.2))=es.toList.map (·.2):=by rw[<-List.map_filterMap,filterMap_getElem?_range]
      rw[h2]
end
section
variable {prog:Program}{w:World}{A:Around}{E:Value->Shared->Prop}{s:Shared}
theorem y7b:typeLookup (.type "set") "__len__"=pure (some (.builtin "set.__len__")):=F.slot_set_len.lookup
theorem w3j{a:Addr}{Q:Bool->Shared->Prop}(hT:s.TypeIs (.ref a) "set")(q:Q false s):wpAny (model prog w) A (Builtin.List.listLengthHint (.ref a)) Q E s:=by
 unfold Builtin.List.listLengthHint
 refine wpAny_bind (wpAny_specialOf hT y7b ?_)
 dsimp only
 have e:splitId "set.__len__"=some ("set","__len__"):=by kernel_rfl
 rw[e]
 dsimp only
 refine wpAny_bind (wpAny_isInstance (T:="set") (b:=true) hT sub_set_self ?_)
 simp only[Bool.not_true,Bool.false_eq_true,↓reduceIte]
 show wpAny _ _ (if true=true then _ else _) _ _ s
 rw[if_pos rfl]
 refine wpAny_bind (wpAny_typeOf hT ?_)
 exact wpAny_pure q
theorem x3a{a:Addr}{es:Array (Int×Value)}{ep n:Nat}{t:SetTable}{Q:List Value->Shared->Prop}(hh:A.handled=none)(hS:SObj s.heap a es ep t)(hn:es.size=n)(hk:TabK (z7s w) t)(hz:n<=4096)
 (q:∀(vals:List Value) (h':Heap) (d:Drawn) (tk:Nat),vals.Perm (es.toList.map (·.2))->s.heap.objs.size<=h'.objs.size->(∀b o,s.heap.get? b=some o->h'.get? b=some o)->s.toks<=tk->Q vals { s with heap:=h',drawn:=d,toks:=tk }):wpAny (model prog w) A (collect (.ref a)) Q E s:=by
 obtain⟨oS,hoS,hex,hdS,hf⟩:=id hS
 have halt:a<s.heap.objs.size:=Heap.lt_size hoS
 unfold collect
 refine wpAny_bind (wpAny_runValue (codeAny_builtin F.entry_proto_collect ?_));rw[Around.under_plainId F.plain_proto_collect _]
 show wpAny _ A.in1 (newList []>>=fun l=>again (.builtin "list.__iadd__" ⟨[l,.ref a],[]⟩)) _ _ s
 refine wpAny_bind (wpAny_newObj_type (wpAny_pure ⟨plainId_quiet F.plain_list_iadd _,codeAny_builtin F.entry_list_iadd ?_⟩))
 rw[Around.under_plainId F.plain_list_iadd _]
 show wpAny _ A.in1 (Builtin.List.listExtendWith (.ref s.heap.objs.size) (.ref a) (.ref s.heap.objs.size)) _ _ _
 have hS1:SObj (s.heap.push { cls:=.type "list",data:=.seq ([]:List Value).toArray }) a es ep t:=hS.atQ fun o e=>Heap.get?_push_of_some _ e
 have hT1:Shared.TypeIs { s with heap:=s.heap.push { cls:=.type "list",data:=.seq ([]:List Value).toArray } } (.ref a) "set":=⟨oS,Heap.get?_push_of_some _ hoS,hex.1⟩
 unfold Builtin.List.listExtendWith
 refine wpAny_bind (wpAny_typeOf hT1 ?_)
 have u1:Builtin.List.listSameRef (.ref s.heap.objs.size) (.ref a)=false:=by simp[Builtin.List.listSameRef,Nat.ne_of_gt halt]
 have u2:(Value.type "set"==Value.type "list")=false:=by decide
 have u3:(Value.type "set"==Value.type "tuple")=false:=by decide
 simp only[u1,u2,u3,Bool.or_false,Bool.false_eq_true,if_false]
 refine wpAny_bind (w3g (s:={ s with heap:=s.heap.push { cls:=.type "list",data:=.seq ([]:List Value).toArray } }) hS1 hn hk hz fun it h1 d vals fp St hit keep W st0 hfp hfs hv hp=>?_)
 have hT2:Shared.TypeIs { s with heap:=h1,drawn:=d } (.ref a) "set":=⟨oS,keep a _ (Heap.get?_push_of_some _ hoS),hex.1⟩
 refine wpAny_bind (wpAny_holding (w3j hT2 ?_))
 have L0:h1.get? s.heap.objs.size=some { cls:=.type "list",data:=.seq ([]:List Value).toArray }:=keep _ _ (Heap.get?_push_size _ rfl)
 have itN:s.heap.objs.size<it:=by rw[Heap.size_push] at hit;exact Nat.lt_of_succ_le hit
 have hLf:s.heap.objs.size ∉ fp:=fun hm=>by
  rcases hfp _ hm with z | z
  ·exact absurd z (Nat.ne_of_gt halt)
  ·rw[Heap.size_push] at z;exact absurd z (Nat.not_succ_le_self _)
 show wpAny _ A.in1 (rule "list.extend.makes-room">>=fun _=>Builtin.List.listTouch (.ref s.heap.objs.size)>>=fun _=>again (.builtin "list.extend.loop" ⟨[.ref s.heap.objs.size,.ref it,.ref s.heap.objs.size],[]⟩)) _ _ _
 refine wpAny_bind (wpAny_rule (wpAny_bind (show wpAny _ A.in1 (updateSeq s.heap.objs.size (·.push .none)>>=fun _=>updateSeq s.heap.objs.size (·.pop)) _ _ _ from ?_)))
 refine wpAny_bind (wpAny_updateSeq (s:={ s with heap:=h1,drawn:=d }) L0 rfl ?_)
 have L1:=Heap.get?_update_self (Obj.mapSeq (·.push Value.none)) L0 rfl
 refine wpAny_updateSeq (s:={ s with heap:=h1.update s.heap.objs.size (Obj.mapSeq (·.push Value.none)),drawn:=d }) L1 rfl ?_
 have L2':=Heap.get?_update_self (Obj.mapSeq (·.pop)) L1 rfl
 have oth:∀b o,b≠s.heap.objs.size->h1.get? b=some o->((h1.update s.heap.objs.size (Obj.mapSeq (·.push Value.none))).update s.heap.objs.size (Obj.mapSeq (·.pop))).get? b=some o:=fun b o hb e=>(Heap.get?_update_other _ _ (Ne.symm hb)).trans ((Heap.get?_update_other _ _ (Ne.symm hb)).trans e)
 have hh1:A.in1.handled=none:=hh
 have WS:=(W A.in1 hh1).toS
 have st1:=(W A.in1 hh1).frame 0 h1 _ st0 fun b hb o e=>oth b o (fun z=>hLf (z ▸ hb)) e
 refine wpAny_pure ⟨plainId_quiet F.plain_extend_loop _,codeAny_extend_loopS WS (by rw[sizeLine_eq];lia) _ hLf _ n 0 _ _ _ rfl (Nat.zero_le _) st1 L2' (ItemsOf.nil _) fun s' acc c mv hL hacc=>?_⟩
 show wpAny _ A (load s.heap.objs.size>>=_) _ _ s'
 refine wpAny_bind (wpAny_load hL ?_)
 obtain⟨h',g',d',tk',os'⟩:=s'
 obtain rfl:g'=s.gens:=mv.gens
 obtain rfl:d'=d:=mv.drawn
 obtain rfl:os'=s.os:=mv.os
 have eacc:acc.toList=vals:=by
  refine List.ext_getElem? fun i=>?_
  rw[Array.getElem?_toList]
  rcases Nat.lt_or_ge i n with z | z
  ·have lt:i<acc.size:=by rw[hacc.1];exact z
   have e:=Array.getElem?_eq_getElem lt
   rw[e];exact(hacc.2 i _ e).symm
  ·rw[Array.getElem?_eq_none (by rw[hacc.1];exact z),List.getElem?_eq_none (by lia)]
 refine wpAny_pure ?_
 rw[eacc]
 have kp:∀b o,s.heap.get? b=some o->h'.get? b=some o:=fun b o e=>by
  have b1:b<s.heap.objs.size:=Heap.lt_size e
  refine mv.heap b o (fun z=>?_) (oth b o (Nat.ne_of_lt b1) (keep b o (Heap.get?_push_of_some _ e)))
  rcases List.mem_cons.mp z with z | z
  ·exact absurd z (Nat.ne_of_lt b1)
  ·have:b=it:=by simpa using z
   exact absurd (Nat.lt_trans b1 itN) (by rw[this];exact Nat.lt_irrefl _)
 exact q vals h' d' tk' hp (Nat.le_of_lt (Heap.lt_size hL)) kp mv.toks
theorem y6j{a:Addr}{es:Array (Int×Value)}{ep n:Nat}{t:SetTable}{ns:List Int}{Q:Value->Shared->Prop}(hh:A.handled=none)(hS:SObj s.heap a es ep t)(hn:es.size=n)(hk:TabK (z7s w) t)(h64:n<64)(hi:IntsAre (es.toList.map (·.2)) ns)
 (q:∀(l:Addr) (out:List Value) (ns':List Int) (h':Heap) (d:Drawn) (tk m:Nat),IntsAre out ns'->ns'.Perm ns->ns'.Pairwise (·<=·)->s.heap.objs.size<=l->h'.get? l=some (seqObj "list" out.toArray m)->(∀b o,s.heap.get? b=some o->h'.get? b=some o)->s.toks<=tk->Q (.ref l) { s with heap:=h',drawn:=d,toks:=tk }) :
 wpAny (model prog w) A (call (.builtin "sorted") [.ref a]) Q E s:=by
 refine Calls.call_function_entry kind_sorted plain_sorted entry_sorted (args_sorted1 _) ?_
 unfold Builtin.«sorted»
 show wpAny _ A.in1 (collect (.ref a)>>=_) _ _ s
 refine wpAny_bind (x3a hh hS hn hk (by lia) fun vals h1 d tk hp hsz keep htk=>?_)
 obtain⟨ns1,i1,p1⟩:∃ns1,IntsAre vals ns1/\ns1.Perm ns:=by
  have H:∀{xs ys:List Value},xs.Perm ys->∀{ms:List Int},IntsAre ys ms->∃ns1,IntsAre xs ns1/\ns1.Perm ms:=by
   intro xs ys hp
   induction hp with
   | nil=>intro ms h;cases h;exact⟨[],.nil,.refl _⟩
   | cons x _ ih =>
     intro ms h
     cases h with
     | cons m t h =>
       obtain⟨n1,a1,a2⟩:=ih h
       exact⟨m::n1,.cons m t a1,.cons m a2⟩
   | swap x y l =>
     intro ms h
     cases h with
     | cons m1 t1 h =>
       cases h with
       | cons m2 t2 h=>exact⟨m2::m1::_,.cons m2 t2 (.cons m1 t1 h),.swap m1 m2 _⟩
   | trans _ _ ih1 ih2 =>
     intro ms h
     obtain⟨n2,b1,b2⟩:=ih2 h
     obtain⟨n1,a1,a2⟩:=ih1 b1
     exact⟨n1,a1,a2.trans b2⟩
  exact H hp hi
 have hvl:vals.length<64:=by rw[hp.length_eq,List.length_map,Array.length_toList];lia
 refine wpAny_bind (wpAny_newList ?_ (by rw[sizeLine_eq];lia))
 refine wpAny_bind (wpAny_holding ?_)
 have g0:(h1.push (seqObj "list" vals.toArray 0)).get? h1.objs.size=some (seqObj "list" vals.toArray 0):=Heap.get?_push_size _ rfl
 refine wpAny_call_entry (s:={ s with heap:=h1.push (seqObj "list" vals.toArray 0),drawn:=d,toks:=tk }) slot_list_sort ⟨_,g0,rfl⟩ entry_list_sort ?_ (args_list_sort _)
 refine list_sort_tree (s:={ s with heap:=h1.push (seqObj "list" vals.toArray 0),drawn:=d,toks:=tk }) g0 i1 hvl fun out ns' o1 o2 o3=>?_
 refine⟨_,rfl,?_⟩
 obtain⟨m,em⟩:=sortedHeap_at (vs:=vals) (out:=out) g0
 refine wpAny_pure ⟨_,rfl,q h1.objs.size out.toList ns' _ d tk m o1 (o2.trans p1) o3 hsz (by rw[Array.toArray_toList];exact em) (fun b o e=>?_) htk⟩
 have lt1:b<h1.objs.size:=Nat.lt_of_lt_of_le (Heap.lt_size e) hsz
 rw[sortedHeap_old (Nat.ne_of_lt lt1) (by rw[Heap.size_push];exact Nat.lt_succ_of_lt lt1)]
 exact Heap.get?_push_of_some _ (keep b o e)
end
theorem x9z:bootBuiltins ("set":Str)=some (.type "set"):=by decide +kernel
theorem x6z:bootBuiltins ("sorted":Str)=some (.builtin "sorted"):=by decide +kernel
theorem w0d:∀{a b:List Int},a.Pairwise (·<·)->b.Pairwise (·<·)->(∀x,x∈a↔x∈b)->a=b
 | [],[],_,_,_=>rfl
 | [],y::b,_,_,h=>absurd ((h y).mpr List.mem_cons_self) (by simp)
 | x::a,[],_,_,h=>absurd ((h x).mp List.mem_cons_self) (by simp)
 | x::a,y::b,ha,hb,h=>by
   obtain⟨a1,a2⟩:=List.pairwise_cons.mp ha
   obtain⟨b1,b2⟩:=List.pairwise_cons.mp hb
   have e:x=y:=by
    rcases List.mem_cons.mp ((h x).mp List.mem_cons_self) with z | z
    ·exact z
    ·rcases List.mem_cons.mp ((h y).mpr List.mem_cons_self) with z2 | z2
     ·exact z2.symm
     ·have:=b1 x z;have:=a1 y z2;lia
   subst e
   rw[w0d a2 b2 fun z=>⟨fun hz=>?_,fun hz=>?_⟩]
   ·rcases List.mem_cons.mp ((h z).mp (List.mem_cons_of_mem _ hz)) with w | w
    ·have:=a1 z hz;lia
    ·exact w
   ·rcases List.mem_cons.mp ((h z).mpr (List.mem_cons_of_mem _ hz)) with w | w
    ·have:=b1 z hz;lia
    ·exact w
theorem z9q:∀{l:List Int},l.Pairwise (·<=·)->l.Nodup->l.Pairwise (·<·)
 | [],_,_=>.nil
 | x::l,h,n=>by
   obtain⟨h1,h2⟩:=List.pairwise_cons.mp h
   obtain⟨n1,n2⟩:=List.nodup_cons.mp n
   refine List.pairwise_cons.mpr ⟨fun y hy=>?_,z9q h2 n2⟩
   have:=h1 y hy
   have:x≠y:=fun z=>n1 (z ▸ hy)
   lia
theorem x0h:∀{a b:List Int},a.Nodup->(∀x∈a,x∈b)->b.length<=a.length->a.Perm b
 | [],b,_,_,h=>by
   have:b=[]:=List.length_eq_zero_iff.mp (by simpa using h)
   rw[this]
 | x::a,b,hn,hs,h=>by
   obtain⟨n1,n2⟩:=List.nodup_cons.mp hn
   have hx:=hs x List.mem_cons_self
   have hl:(b.erase x).length<=a.length:=by rw[List.length_erase_of_mem hx];simp at h;lia
   refine(List.Perm.cons x (x0h n2 (fun y hy=>?_) hl)).trans (List.perm_cons_erase hx).symm
   have ne:y≠x:=fun z=>n1 (z ▸ hy)
   exact(List.mem_erase_of_ne ne).mpr (hs y (List.mem_cons_of_mem _ hy))
theorem y0q(val:Nat->Int):∀i,(firstMet val i).Nodup
 | 0=>by rw[firstMet_zero];exact .nil
 | i+1=>by
   rw[firstMet_succ]
   unfold step_dedup
   split
   ·exact y0q val i
   ·rename_i h
    refine List.nodup_append.mpr ⟨y0q val i,by simp,fun x hx y hy e=>?_⟩
    have:y=val i:=by simpa using hy
    rw[this] at e
    exact h (List.any_eq_true.mpr ⟨x,hx,by simp[e]⟩)
theorem x5c(ns:List Int)(x:Int):x∈firstMet (fun i=>ns.getD i 0) ns.length↔x∈ns:=by
 have h:=firstMet_any (fun i=>ns.getD i 0) ns.length x
 have e:(List.range ns.length).map (fun i=>ns.getD i 0)=ns:=by
  refine List.ext_getElem (by simp) fun i h1 h2=>?_
  simp[List.getD_eq_getElem?_getD,List.getElem?_eq_getElem h2]
 rw[e] at h
 have m:∀l:List Int,(l.any (·==x))=true↔x∈l:=fun l=>by simp
 rw[<-m,<-m,h]
section
variable {X:Cx}{e a b c:Expr}{g ga gb gc:G->R D}{gs:G->R (List D)}{pos pos' p p2:Pos}
theorem w2f(ha:PD X a ga)(hm1:X.mg "sorted"=none)(hm2:X.mg "set"=none)(hcalm:X.calm=true)(hg1:Gl X "sorted":=by rfl)(hg2:Gl X "set":=by rfl)
 (hs1:starEach [.Call (.Name "set" p2) [a] [] pos'] X.env=[(false,eval (.Call (.Name "set" p2) [a] [] pos') X.env)]:=by rfl) (hs2:starEach [a] X.env=[(false,eval a X.env)]:=by rfl) :
 PF X (.Call (.Name "sorted" p) [.Call (.Name "set" p2) [a] [] pos'] [] pos) (x8z ga):=by
 refine⟨fun pins s σ H F Γ I fo rl hgg=>?_⟩
 refine wpAny_Call_Name_kw (z4m I hg1 hm1 x6z (PyProof.Rows.callWith_builtin1 ?_ hs1 rfl))
 rw[hs1]
 show wpAny _ _ (spliced ((false,eval (.Call (.Name "set" p2) [a] [] pos') X.env)::backTo pos [])) _ _ s
 refine Calls.spliced_cons ?_
 refine wpAny_Call_Name_kw (z4m I hg2 hm2 x9z (PyProof.Rows.callWith_type1 ?_ hs2 rfl))
 rw[hs2]
 show wpAny _ _ (spliced ((false,eval a X.env)::backTo pos' [])) _ _ s
 refine Calls.spliced_cons (wpAny_mono (ha.run pins s σ H F Γ I fo rl (R.left hgg)) (fun u s1 ⟨d,v,H1,e1,I1,r1,S1,i1⟩=>Calls.spliced_nil ?_) fun _ _ x=>x.bind _)
 have hg1':=R.next hgg e1
 cases d with
 | lst ds =>
   obtain⟨l,xs,rfl,q1,j1⟩:=Is.lst_iff.mp i1
   cases (show u=Value.ref l from r1)
   cases hints:ints? ds with
   | none=>exact absurd (show(match ints? ds with | some ns=>R.guard (ns.length<64) (R.ok ((z5k ns).map D.int)) | none=>R.no)=R.no by rw[hints]) hg1'
   | some ns =>
     have:=ints?_some hints
     subst this
     have hg2':R.guard (ns.length<64) (R.ok ((z5k ns).map D.int)) ≠ .no:=by
      have h:=hg1'
      dsimp only at h
      rw[hints] at h
      exact h
     obtain⟨h64,e5⟩:=R.guard_ne hg2'
     rw[j1.ints_eq] at q1
     obtain⟨its,rv,pl,hz⟩:=I1.list q1
     have hlen:its.length=ns.length:=by rw[<-rv.length,List.length_map]
     have hia:=L2.intsAre_of rv
     have hh:X.A.handled=none:=I1.ok.hd hcalm
     have esz:its.toArray.size=ns.length:=by simp[hlen]
     refine x9y (s:=s1) hh pl.isList (by simpa using hia) (by rw[esz];unfold scanBound;lia) fun h' tk y keep=>Calls.spliced_nil ?_
     rw[esz] at y
     obtain⟨o,es,ep,t,⟨q2,q3,q4⟩,⟨q5,q6⟩,⟨q7,q8,q9⟩,q10⟩:=y
     have keep':∀b o,s1.heap.get? b=some o->h'.get? b=some o:=fun b o e=>keep b o (Heap.lt_size e) e
     obtain⟨ks,k1,k2⟩:∃ks,IntsAre (es.toList.map (·.2)) ks/\∀x,x∈ks↔∃e∈es.toList,(intKind X.prog X.w).is x e.2=true:=by
      clear q6 q7 q8 q9 q4
      generalize es.toList=L at q5
      induction L with
      | nil=>exact⟨[],.nil,fun x=>by simp⟩
      | cons e L ih =>
        obtain⟨ks,a1,a2⟩:=ih q5.tail
        obtain⟨⟨k,hk,_⟩,_⟩:=q5.head
        obtain⟨t0,ht0⟩:∃t0,e.2 = .int k t0:=by
         have h:=hk
         cases hv:e.2 with
         | int z t0 =>
           rw[hv] at h
           have:z=k:=by simpa [intKind,Value.isInt] using h
           exact⟨t0,by rw[this]⟩
         | _=>rw[hv] at h;simp[intKind,Value.isInt] at h
        refine⟨k::ks,by rw[List.map_cons,ht0];exact .cons k t0 a1,fun x=>?_⟩
        rw[List.mem_cons,a2]
        constructor
        ·rintro(rfl | ⟨e',he',hx⟩)
         ·exact⟨e,List.mem_cons_self,hk⟩
         ·exact⟨e',List.mem_cons_of_mem _ he',hx⟩
        ·rintro⟨e',he',hx⟩
         rcases List.mem_cons.mp he' with z | z
         ·subst z
          exact .inl ((intKind X.prog X.w).inj e'.2 x k hx hk)
         ·exact .inr ⟨e',z,hx⟩
     have mem:∀x,x∈ks↔x∈ns:=fun x=>by
      rw[k2,<-q6 x,<-x5c ns x]
      simp
     have hkl:ks.length=es.size:=by rw[<-k1.length,List.length_map,Array.length_toList]
     have hfl:=firstMet_length_le (fun i=>ns.getD i 0) ns.length
     have hnd:ks.Nodup:=by
      have hp:=x0h (y0q (fun i=>ns.getD i 0) ns.length) (b:=ks) (fun x hx=>(mem x).mpr ((x5c ns x).mp hx)) (by lia)
      exact hp.nodup_iff.mp (y0q _ _)
     refine y6j (s:={ s1 with heap:=h',toks:=tk }) hh ⟨o,q2,q3,q4,q8⟩ q9 q10 (by lia) k1 fun l2 out ns' h2 d2 tk2 mm o1 o2 o3 o4 o5 o6 _=>?_
     have enn:ns'=z5k ns:=by
      refine w0d (z9q o3 (o2.nodup_iff.mpr hnd)) (y5i ns) fun x=>?_
      rw[o2.mem_iff,mem,z7c]
     subst enn
     have hsz:s1.heap.objs.size<=l2:=by
      rcases Nat.lt_or_ge h'.objs.size s1.heap.objs.size with z | z
      ·exact absurd (Heap.lt_size q2) (Nat.not_lt.mpr (Nat.le_of_lt z))
      ·exact Nat.le_trans z o4
     have hfr:H1 l2=none:=I1.hok.fresh hsz
     have hol:out.length<=sizeLine:=by
      have:=o1.length
      rw[sizeLine_eq]
      have h3:(z5k ns).length=ks.length:=o2.length_eq
      lia
     have I2:Inv X pins σ (upd H1 l2 (.lst ((z5k ns).map V.int))) { s1 with heap:=h2,drawn:=d2,toks:=tk2 }:=by
      have kp:∀b u,s1.heap.get? b=some u->h2.get? b=some u:=fun b o e=>o6 b o (keep' b o e)
      exact I1.call (g':=s1.gens) (d':=d2) (t':=tk2) (ch:=[]) (Un.laid kp hsz hfr) (I1.hok.laid kp hsz (show z7k X.prog X.w _ _ _ (.lst ((z5k ns).map V.int)) from⟨by
       have:=o1.length
       rw[List.length_map];lia,out,mm,vals_ints o1,o5⟩)) I1.bare (fun b hb=>by simp at hb)
     have S2:=z1r hfr (.lst ((z5k ns).map V.int))
     refine⟨(z5k ns).map D.int,l2,(z5k ns).map V.int,_,(R.step e1 _).trans ?_,I2,rfl,S1.trans S2,S1.free hfr,z0q,?_⟩
     ·show(match ints? (ns.map D.int) with | some ns=>R.guard (ns.length<64) (.ok ((z5k ns).map D.int)) | none=>.no)=_
      rw[hints];exact e5
     ·have hia2:∀(Hx:Hp) (l:List Int),IsAll X.K Hx (l.map D.int) (l.map V.int):=fun Hx l=>by
       induction l with
       | nil=>exact IsAll.nil
       | cons x l ih=>exact IsAll.cons (Is.int_iff.mpr rfl) ih
      exact hia2 _ _
 | _=>exact absurd rfl hg1'
end
section
variable {X:Cx}
theorem w4z(hu:X.A.units+64<cLine):OpD X (compareOp .In) dIn:=by
 refine⟨fun x y H Q=>∃dx ys,(Is X.K H (.lst ys) y/\D.lay 40 (.lst ys)=true∨Is X.K H (.tup ys) y/\D.lay 40 (.tup ys)=true)/\Is X.K H dx x/\D.lay 40 dx=true/\Q (.bl (ys.any fun y=>eqD y dx)) H,?_,fun H x y dx dy ix iy hg=>?_⟩
 ·intro pins s σ H x y v u Q I rx ry h
  obtain⟨dx,ys,hy,ix,l1,q⟩:=h
  obtain⟨as,ra⟩:=z5c I 40 dx x v l1 ix rx
  have p1:=z9r 40 dx l1
  have hu':X.A.units+64<cLine:=hu
  rcases hy with ⟨iy,l2⟩ | ⟨iy,l2⟩
  ·obtain⟨bs,rb⟩:=z5c I 40 (.lst ys) y u l2 iy ry
   have p2:=z9r 40 (.lst ys) l2
   have ey:D.py (.lst ys) = .list (D.pys ys):=by simp[D.py]
   rw[ey] at rb p2
   have c2:PyData.canLayAll0 (D.pys ys)=true:=by simpa [PyData.canLay0] using p2.1
   refine PySem.SeqAt.in_list_reads rb ra c2 p1.1 (show X.A.units+1+min (PyData.depthAll (D.pys ys)) dx.py.depth<cLine by lia) ⟨.bl (ys.any fun y=>eqD y dx),H,I,?_,q⟩
   rw[x7f];rfl
  ·obtain⟨bs,rb⟩:=z5c I 40 (.tup ys) y u l2 iy ry
   have p2:=z9r 40 (.tup ys) l2
   have ey:D.py (.tup ys) = .tuple (D.pys ys):=by simp[D.py]
   rw[ey] at rb p2
   have c2:PyData.canLayAll0 (D.pys ys)=true:=by simpa [PyData.canLay0] using p2.1
   refine PySem.SeqAt.in_tuple_reads rb ra c2 p1.1 (show X.A.units+1+min (PyData.depthAll (D.pys ys)) dx.py.depth<cLine by lia) ⟨.bl (ys.any fun y=>eqD y dx),H,I,?_,q⟩
   rw[x7f];rfl
 ·cases dy with
  | lst ys =>
    obtain⟨⟨l1,l2⟩,e⟩:=R.guard_ne (show R.guard (D.lay 40 dx=true/\D.lay 40 (.lst ys)=true) (R.ok (D.bl (ys.any fun y=>eqD y dx))) ≠ .no from hg)
    exact⟨dx,ys,.inl ⟨iy,l2⟩,ix,l1,.bl (ys.any fun y=>eqD y dx),e,.refl _,Is.bl_iff.mpr rfl⟩
  | tup ys =>
    obtain⟨⟨l1,l2⟩,e⟩:=R.guard_ne (show R.guard (D.lay 40 dx=true/\D.lay 40 (.tup ys)=true) (R.ok (D.bl (ys.any fun y=>eqD y dx))) ≠ .no from hg)
    exact⟨dx,ys,.inr ⟨iy,l2⟩,ix,l1,.bl (ys.any fun y=>eqD y dx),e,.refl _,Is.bl_iff.mpr rfl⟩
  | _=>exact absurd rfl hg
theorem x6g(d:D):∀ys:List D,(D.pys ys).findIdx? (fun y=>y.eqv d.py)=ys.findIdx? fun y=>eqD y d
 | []=>by simp[D.pys]
 | y::ys=>by rw[D.pys,List.findIdx?_cons,List.findIdx?_cons,x6g d ys,y7w]
theorem x0j{e b:Expr}{ge gb:G->R D}{apos cpos:Pos}(hu:X.A.units+64<cLine)(he:PD X e ge)(hb:PD X b gb)
 (hbase:attributeBase e "index" X.env (eval e X.env)=eval e X.env:=by rfl)
 (hfew:((backTo cpos (starEach [b] X.env)).all (fun x=>!x.1)&&(backToKw cpos (keywordEach [] X.env)).all (fun x=>x.1.isSome)
   && decide ([b].length+([]:List Keyword).length+(if ([]:List Keyword).isEmpty then 0 else 1)<30))=true:=by rfl)
 (hline:(apos.endLine==cpos.line)=true:=by rfl) (hs:starEach [b] X.env=(false,eval b X.env)::starEach [] X.env:=by rfl) :
 PD X (.Call (.Attribute e "index" apos) [b] [] cpos) (z9t ge gb):=by
 refine⟨fun pins s σ H F Γ I fo rl hg=>?_⟩
 refine wpAny_Call_method_late hbase hfew hline rfl (wpAny_mono (he.run pins s σ H F Γ I fo rl (R.left hg)) (fun v s1 ⟨dl,vl,H1,e1,I1,r1,S1,i1⟩=>?_) fun _ _ x=>x.bind _)
 have hg1:=R.next hg e1
 cases dl with
 | lst ys =>
   obtain⟨l,xs,rfl,q1,j1⟩:=Is.lst_iff.mp i1
   cases (show v=Value.ref l from r1)
   obtain⟨t1,t2⟩:=x3i (T:="list") I1 (show RelV (.ref l) (.ref l) from rfl) (.inl ⟨rfl,xs,q1⟩)
   refine⟨"list",_,PySem.F.plainAttrs_list,PySem.F.slot_list_index,PySem.F.type_list_index,t1,t2,?_⟩
   rw[hs]
   refine Calls.callWith_builtin rfl (Calls.evalArgs_plain ?_)
   show wpAny _ _ (spliced ((false,eval b X.env)::backTo cpos [])) _ _ s1
   refine Calls.spliced_cons (wpAny_mono (hb.run pins s1 σ H1 F Γ I1 (fo.same S1) (rl.same S1) (R.left hg1)) (fun u s2 ⟨d,y,H2,e2,I2,r2,S2,i2⟩=>Calls.spliced_nil ?_) fun _ _ x=>z1p.later e1 S1 (x.bind _))
   have hg2:=R.next hg1 e2
   cases q:ys.findIdx? (fun y=>eqD y d) with
   | none=>exact absurd (show y3w ys d = .no by unfold y3w;rw[q]) hg2
   | some j =>
     have hg3:R.guard (D.lay 40 d=true/\D.lay 40 (.lst ys)=true/\ys.length<=100000) (R.ok (D.int (j:Int))) ≠ .no:=by
      have h:=hg2
      unfold y3w at h
      rw[q] at h
      exact h
     obtain⟨⟨l1,l2,l3⟩,e3⟩:=R.guard_ne hg3
     have i1':Is X.K H2 (.lst ys) (.ref l):=i1.same S2
     obtain⟨as,ra⟩:=z5c I2 40 d y u l1 i2 r2
     obtain⟨bs,rb⟩:=z5c I2 40 (.lst ys) (.ref l) (.ref l) l2 i1' rfl
     have p1:=z9r 40 d l1
     have p2:=z9r 40 (.lst ys) l2
     have ey:D.py (.lst ys) = .list (D.pys ys):=by simp[D.py]
     rw[ey] at rb p2
     have c2:PyData.canLayAll0 (D.pys ys)=true:=by simpa [PyData.canLay0] using p2.1
     cases rb with
     | @list a0 o vs n x0 as0 b1 b2 b3 b4 =>
       obtain⟨oc,od,odt,osl⟩:=o
       obtain rfl:oc = .type "list":=b2
       obtain rfl:odt = .seq vs n:=b3
       have ea:=PySem.SeqAt.items_eqAt (A:=X.A) b4 ra c2 p1.1 (show X.A.units+1+min (PyData.depthAll (D.pys ys)) d.py.depth<cLine by lia)
       have hm:=PySem.SeqAt.readsAll_map (D.pys ys) _ _ c2 b4
       have hfi:vs.toList.findIdx? (fun y=>(PySem.SeqAt.readOf s2.heap y).eqv d.py)=some j:=by
        have h1:=x6g d ys
        rw[q,<-hm,List.findIdx?_map] at h1
        exact h1
       obtain⟨hj,hjt,hjn⟩:=List.findIdx?_eq_some_iff_getElem.mp hfi
       have hjs:j<vs.size:=by simpa using hj
       refine call_meets PySem.F.slot_list_index ⟨_,b1,rfl⟩ PySem.F.entry_list_index (PySem.F.args_list_index_2 _ _) (PySem.SeqAt.list_indexAt l vs n od osl u (fun y=>(PySem.SeqAt.readOf s2.heap y).eqv d.py) j hjs ?_ ?_ ?_) ⟨b1,?_,?_⟩
       ·have h1:=congrArg List.length hm
        rw[List.length_map] at h1
        have h2:∀l:List D,(D.pys l).length=l.length:=fun l=>by
         induction l with
         | nil=>simp[D.pys]
         | cons x l ih=>rw[D.pys,List.length_cons,ih,List.length_cons]
        rw[h2] at h1
        have h3:vs.toList.length=vs.size:=Array.length_toList
        lia
       ·simpa using hjt
       ·intro m hm' hlt
        have:=hjn m hlt
        simpa using this
       ·exact ea
       ·refine Post.bind e1 S1 (Post.bind e2 S2 ⟨.int (j:Int),.int (j:Int),H2,?_,I2.tok _,⟨s2.toks,rfl⟩,.refl _,Is.int_iff.mpr rfl⟩)
        unfold y3w
        rw[q]
        exact e3
 | _=>exact absurd rfl hg1
end
section
variable {prog:Program}{w:World}{A:Around}{E:Value->Shared->Prop}{s:Shared}
theorem x9i{e it l:Addr}{i:Nat}{z:Int}{items:Array Value}{x old:Value}{Q:Value->Shared->Prop}(he:IsEnum s.heap e it z old)(hit:s.heap.IsListIter it l i)(ht:s.heap.IsList l items)(hx:items[i]? = some x)(hne:e≠it)
 (hQ:∀h',IsEnumOut h' e it (z+1) x s.heap.objs.size->h'.IsListIter it l (i+1)->h'.get? s.heap.objs.size=some { cls:=.type "tuple",data:=.seq #[.int z s.toks,x] }->h'.objs.size=s.heap.objs.size+1->(∀b o,b≠e->b≠it->s.heap.get? b=some o->h'.get? b=some o)->Q (.ref s.heap.objs.size) { s with heap:=h',toks:=s.toks+1 }) :
 wpAny (model prog w) A (Builtin.«enumerate.__next__» ⟨[.ref e],[]⟩) (fun fin s'=>∃v,fin = .done (.ret v)/\Q v s') E s:=by
 refine(show wpAny _ _ (field (.ref e) 2>>=_) _ _ _ from wpAny_bind (wpAny_field he rfl (x:=.ref it) rfl (wpAny_bind (wpAny_nextOf_list_item hit ht hx fun g1 f1 n1=>?_))))
 have he1:IsEnum g1 e it z old:=n1.extBut _ _ hne he
 refine(show wpAny _ _ (field (.ref e) 3>>=_) _ _ _ from wpAny_bind (wpAny_field he1 rfl (x:=.int z 0) rfl (show wpAny _ _ (field (.ref e) 4>>=_) _ _ _ from wpAny_bind (wpAny_field he1 rfl (x:=.none) rfl ?_))))
 refine wpAny_bind (show wpAny _ _ (mkInt z) _ _ _ from wpAny_mkInt ?_)
 refine wpAny_bind (wpAny_setField_rec (s:={ s with heap:=g1,toks:=s.toks+1 }) he1 (by simp) fun g2 (he2:IsEnum g2 e it (z+1) old) n2=>wpAny_bind (wpAny_setField_rec he2 (by simp) fun g3 (he3:IsEnum g3 e it (z+1) old) n3=>wpAny_bind (wpAny_newTuple ?_)))
 have sz3:g3.objs.size=s.heap.objs.size:=by rw[n3.1,n2.1,n1.1]
 have he4:IsEnum (g3.push { cls:=.type "tuple",data:=.seq #[.int z s.toks,x] }) e it (z+1) old:=Heap.get?_push_of_some _ he3
 have elt:e<g3.objs.size:=Heap.lt_size he3
 refine(show wpAny _ _ (Builtin.SmallTypes.ownedTupleIsFree (.ref e)>>=_) _ _ _ from wpAny_bind ?_)
 unfold Builtin.SmallTypes.ownedTupleIsFree
 refine wpAny_bind (wpAny_field he4 rfl (x:=.none) rfl (wpAny_pure ?_));simp only[if_true]
 refine wpAny_bind (wpAny_rule (wpAny_bind (wpAny_field he4 rfl (x:=old) rfl (wpAny_bind (wpAny_setField_rec he4 (by simp) fun g5 (he5:IsEnum g5 e it (z+1) x) n5=>?_)))))
 refine(show wpAny _ _ (Builtin.SmallTypes.ownedTupleHandOut (.ref e) (.ref g3.objs.size)>>=_) _ _ _ from wpAny_bind ?_)
 unfold Builtin.SmallTypes.ownedTupleHandOut
 refine wpAny_bind (wpAny_setField_rec he5 (by simp) fun g7 (he7:IsEnumOut g7 e it (z+1) x g3.objs.size) n7=>wpAny_setField_rec he7 (by simp) fun g8 (he8:IsEnumOut g8 e it (z+1) x g3.objs.size) n8=>?_)
 refine wpAny_bind (wpAny_letGo (wpAny_pure ⟨_,rfl,?_⟩))
 have up:∀c o,c≠e->g3.get? c=some o->g8.get? c=some o:=fun c o c1 q=>n8.extBut _ _ c1 (n7.extBut _ _ c1 (n5.extBut _ _ c1 (Heap.get?_push_of_some _ q)))
 have t8:g8.get? g3.objs.size=some { cls:=.type "tuple",data:=.seq #[.int z s.toks,x] }:=n8.extBut _ _ (Nat.ne_of_gt elt) (n7.extBut _ _ (Nat.ne_of_gt elt) (n5.extBut _ _ (Nat.ne_of_gt elt) (Heap.get?_push_size _ rfl)))
 have s8:g8.objs.size=g3.objs.size+1:=by rw[n8.1,n7.1,n5.1];exact Heap.size_push ..
 rw[sz3] at he8 t8 s8
 show Q (.ref g3.objs.size) _
 rw[sz3]
 have fit:g8.IsListIter it l (i+1):=f1.at fun o q=>up it o hne.symm (n3.extBut _ _ hne.symm (n2.extBut _ _ hne.symm q))
 exact hQ g8 he8 fit t8 s8 fun b o b1 b2 q=>up b o b1 (n3.extBut _ _ b1 (n2.extBut _ _ b1 (n1.extBut _ _ b2 q)))
theorem x9h{e it l:Addr}{i:Nat}{z:Int}{items:Array Value}{x old:Value}{Q:Option Value->Shared->Prop}(he:IsEnum s.heap e it z old)(hit:s.heap.IsListIter it l i)(ht:s.heap.IsList l items)(hx:items[i]? = some x)(hne:e≠it)
 (hQ:∀h',IsEnumOut h' e it (z+1) x s.heap.objs.size->h'.IsListIter it l (i+1)->h'.get? s.heap.objs.size=some { cls:=.type "tuple",data:=.seq #[.int z s.toks,x] }->h'.objs.size=s.heap.objs.size+1->(∀b o,b≠e->b≠it->s.heap.get? b=some o->h'.get? b=some o)->Q (some (.ref s.heap.objs.size)) { s with heap:=h',toks:=s.toks+1 }) :
 wpAny (model prog w) A (pyNext (.ref e)) Q E s:=by
 have hT:s.TypeIs (.ref e) "enumerate":=⟨_,he,rfl⟩
 unfold pyNext
 exact wpAny_bind (wpAny_attempt (wpAny_callSpecial?_slot (name:=Str.ofString "__next__") hT F.slot_enumerate_next (wpAny_call_entry F.slot_enumerate_next hT F.entry_enumerate_next (x9i he hit ht hx hne fun h' a1 a2 a3 a4 a5=>wpAny_pure (hQ h' a1 a2 a3 a4 a5)) (F.args_enumerate_next_1 _))))
theorem x9g{e it l:Addr}{i:Nat}{z:Int}{items:Array Value}{old:Value}{Q:Option Value->Shared->Prop}(hh:A.handled=none)(he:IsEnum s.heap e it z old)(hit:s.heap.IsListIter it l i)(ht:s.heap.IsList l items)(hx:items[i]? = none)(hQ:∀h',(∀b o,b≠it->s.heap.get? b=some o->h'.get? b=some o)->Q none { s with heap:=h' }):wpAny (model prog w) A (pyNext (.ref e)) Q E s:=by
 have hT:s.TypeIs (.ref e) "enumerate":=⟨_,he,rfl⟩
 unfold pyNext
 refine wpAny_bind (wpAny_attempt (wpAny_callSpecial?_slot (name:=Str.ofString "__next__") hT F.slot_enumerate_next (wpAny_call_entry F.slot_enumerate_next hT F.entry_enumerate_next (show wpAny _ _ (field (.ref e) 2>>=_) _ _ _ from wpAny_bind (wpAny_field he rfl (x:=.ref it) rfl (wpAny_bind (wpAny_nextOf_list_end hh hit ht hx fun h' e' hk ⟨o,ho,hc⟩=>?_)))) (F.args_enumerate_next_1 _))))
 exact wpAny_bind (wpAny_isInstance (T:="StopIteration") (b:=true) ⟨o,ho,hc⟩ isSubtype_stop (wpAny_pure (hQ _ fun b o b1 q=>hk b o b1 q)))
end
noncomputable def Iy1(K:PySem.W.Frag)(l:Addr):It :=
 ⟨fun i H=>∃xs x,SqL K H l xs/\xs[i]? = some x,
  fun i H v H'=>∃T x,v = .ref T/\H T=none/\H'=upd H T (.tup [.int ((i:Int)+1),x])/\∀xs,SqL K H l xs->xs[i]? = some x,
  fun i H=>∃xs,SqL K H l xs/\xs.length<=i⟩
theorem x7m{P:Program}{w:World}{K:PySem.W.Frag}{elts:List Expr}{kt}{pt:Pos}{e it l:Addr}(hei:e≠it):Turn P w K (.Tuple elts kt pt) (Iy1 K l) [e,it] e (fun i h=>(∃old,IsEnum h e it ((i:Int)+1) old)/\h.IsListIter it l i) where
 mem:=by simp
 obj:=fun i h ⟨⟨old,q1⟩,q2⟩ c hc=>by
  simp only[List.mem_cons,List.not_mem_nil,or_false] at hc
  rcases hc with rfl | rfl
  ·exact⟨_,q1,fun v z=>nomatch z⟩
  ·obtain⟨o,e,c,d⟩:=q2;exact⟨o,e,fun v z=>by rw[d] at z;cases z⟩
 keep:=fun i h h' ⟨⟨old,q1⟩,q2⟩ k=>⟨⟨old,k e (by simp) _ q1⟩,q2.at fun o z=>k it (by simp) o z⟩
 item:=by
  intro X hP hw hK hc i pins s σ H E I hf ⟨⟨old,q1⟩,q2⟩ ⟨xs,x,s1,ex⟩
  subst hP hw hK
  obtain⟨its,rv,p,hz⟩:=I.list s1
  obtain⟨u,hu,ru⟩:=rv.get ex
  refine x9h q1 q2 p.isList (x:=u) (by simpa using hu) hei fun h' a1 a2 a3 a4 a5=>⟨_,rfl,?_⟩
  refine wpAny_letOwnedTupleGo_enum (s:={ s with heap:=h',toks:=s.toks+1 }) a1 fun h'' c1 c2=>?_
  have Te:s.heap.objs.size≠e:=Nat.ne_of_gt (Heap.lt_size q1)
  have kk:∀c o,c ∉ [e,it]->s.heap.get? c=some o->h''.get? c=some o:=fun c o hc z=>by
   simp only[List.mem_cons,List.not_mem_nil,or_false,not_or] at hc
   exact c2.extBut _ _ hc.1 (a5 c o hc.1 hc.2 z)
  have tT:IsTup h'' s.heap.objs.size [Value.int ((i:Int)+1) s.toks,u].toArray:=⟨_,c2.extBut _ _ Te a3,rfl,_,rfl⟩
  have I1:=w3y (t':=s.toks+1) (xs:=[.int ((i:Int)+1),x]) I hf kk (Nat.le_refl _) (by rw[sizeLine_eq];exact(by decide:(2:Nat)<=16777216)) (.cons ⟨_,rfl⟩ (.cons ru .nil)) tT
  refine⟨.ref s.heap.objs.size,_,I1,rfl,⟨_,x,rfl,I.hok.fresh (Nat.le_refl _),rfl,fun xs' q=>by rw[I.list_inj q s1];exact ex⟩,⟨⟨u,c1⟩,a2.at fun o z=>c2.extBut _ _ (Ne.symm hei) z⟩,fun c hc=>?_⟩
  rw[z0u]
  ·exact(hf c hc).1
  ·intro z
   have ex:∃o,s.heap.get? c=some o:=by
    simp only[List.mem_cons,List.not_mem_nil,or_false] at hc
    rcases hc with rfl | rfl
    ·exact⟨_,q1⟩
    ·obtain⟨o,e,_⟩:=q2;exact⟨o,e⟩
   obtain⟨o,eo⟩:=ex
   exact absurd (Heap.lt_size eo) (by rw[z];exact Nat.lt_irrefl _)
 done:=by
  intro X hP hw hK hc i pins s σ H E I hf ⟨⟨old,q1⟩,q2⟩ ⟨xs,s1,hend⟩
  subst hP hw hK
  obtain⟨its,rv,p,hz⟩:=I.list s1
  have n1:=rv.length
  refine x9g (I.ok.hd hc) q1 q2 p.isList (by simp;lia) fun h' kk=>⟨rfl,w3z (t':=s.toks) I hf fun c o hc z=>?_⟩
  simp only[List.mem_cons,List.not_mem_nil,or_false,not_or] at hc
  exact kk c o hc.2 z
 self:=fun _ _ _ _ _ st h=>by obtain⟨⟨old,q1⟩,_⟩:=st;exact wpAny_pyIter_enum q1 h
theorem w3d{K:PySem.W.Frag}{H:Hp}{F:List Addr}{l:Addr}{xs:List V}{ds:List D}(h1:SqL K (hid F H) l xs)(i1:IsAll K (hid F H) ds xs):JD2 K H F (Iy1 K l) (z4w 1 ds):=fun H1 S=>by
 have q1:SqL K H1 l xs:=(z2j (F:=F)).seq ((x2m S fun b hb=>.inl hb).seq h1)
 have n1:=i1.length
 have nz:=y3t 1 ds
 refine⟨fun i hi=>⟨⟨xs,xs[i]'(by lia),q1,List.getElem?_eq_getElem (by lia)⟩,fun v H2 y=>?_⟩,⟨xs,q1,by lia⟩⟩
 obtain⟨T,x,rfl,hT,rfl,e1⟩:=y
 obtain⟨d,ed,iv⟩:=i1.getX (e1 xs q1)
 have S2:=z1r hT (.tup [.int ((i:Int)+1),x])
 have eg:=y3u (k:=1) ed
 rw[show((1+i:Nat):Int)=(i:Int)+1 by lia] at eg
 exact⟨S2,.int ((i:Int)+1),d,T,.int ((i:Int)+1),x,eg,rfl,SqT.of z0q,fun F' hF=>⟨Is.int_iff.mpr rfl,(iv.same (x2m S hF)).same (z2h S2)⟩⟩
theorem x5d(l:Addr)(xs:Array Value)(t:Tok):Meets (Builtin.«enumerate.__new__» ⟨[.type "enumerate",.ref l],[(Str.ofString "start",.int 1 t)]⟩) (fun _ R s=>s.heap.IsList l xs/\R (.ok (.ret (.ref (s.heap.push { cls:=.type "list_iterator",data:=.fields #[.ref l,.int 0 0] }).objs.size))) { s with heap:=(s.heap.push { cls:=.type "list_iterator",data:=.fields #[.ref l,.int 0 0] }).push { cls:=.type "enumerate",data:=.fields #[.none,.bool false,.ref s.heap.objs.size,rawInt 1,.none,.none] } }) :=
 .of_wp fun prog w A R s h=>by
  obtain⟨hp,g,d,tk,os⟩:=s
  obtain⟨q1,h⟩:=h
  have e1:Heap.IsList (Shared.heap ⟨hp,g,d,tk,os⟩) l xs:=q1
  have hsub:isSubtype (.type "enumerate") (.type "enumerate")=pure true:=by rw[isSubtype_type];rfl
  wp_walk using wpAny_pyIter_list e1
  refine wpAny_stack_any fun st=>wpAny_pure (y6m ?_ ?_)
  ·wp_walk using wpAny_pyIter_list e1
   exact⟨_,rfl,h⟩
  ·wp_walk using wpAny_pyIter_list e1
   exact⟨_,rfl,h⟩
theorem x9k(a v:Value):checkTypeCall "enumerate" ⟨[a],[(Str.ofString "start",v)]⟩=pure ():=by kernel_rfl
theorem w3p(a v:Value):checkBuiltinCall "enumerate.__new__" ⟨[.type "enumerate",a],[(Str.ofString "start",v)]⟩=pure ():=by kernel_rfl
theorem x9m(a b v:Value):argsOk "object.__init__" ⟨[a,b],[(Str.ofString "start",v)]⟩:=by unfold argsOk;rw[signature?_of (id:="object.__init__") (n:=['_','_','t','i','n','i','_','_']) (o:=['t','c','e','j','b','o']) (by kernel_rfl) F.owner_object];kernel_rfl
section
variable {prog:Program}{w:World}{A:Around}{E:Value->Shared->Prop}{s:Shared}
theorem x9l{obj a v:Value}{Q:Value->Shared->Prop}(hT:s.TypeIs obj "enumerate")(q:Q .none s):wpAny (model prog w) A (Builtin.«object.__init__» ⟨[obj,a],[(Str.ofString "start",v)]⟩) (fun fin s'=>∃r,fin = .done (.ret r)/\Q r s') E s:=by
 have hl:=F.called_enumerate.init.lookup
 have hm:=F.called_enumerate.made
 have hne:(some "enumerate.__new__" != some "object.__new__")=true:=by decide
 (repeat (any_goals (first | assumption | wp_step)))
 exact⟨_,rfl,q⟩
theorem x9w{l:Addr}{xs:Array Value}{t:Tok}{Q:Value->Shared->Prop}(q1:s.heap.IsList l xs)(q:∀h',IsEnum h' (s.heap.objs.size+1) s.heap.objs.size 1 .none->h'.IsListIter s.heap.objs.size l 0->h'.objs.size=s.heap.objs.size+2->(∀c o,s.heap.get? c=some o->h'.get? c=some o)->Q (.ref (s.heap.objs.size+1)) { s with heap:=h' }) :
 wpAny (model prog w) A (call (.type "enumerate") [.ref l] [(Str.ofString "start",.int 1 t)]) Q E s:=by
 have ft:=F.called_enumerate
 obtain⟨c,tl,hmro⟩:=ft.mro
 have hmade:=ft.made;have hsub:=ft.sub;have hct:=x9k (.ref l) (.int 1 t)
 refine wpAny_call (codeAny_of_tree (show wpAny _ _ (callAny (.type "enumerate") _) _ _ _ from ?_))
 refine wpAny_pure ⟨Code.quiet_builtin _ (by decide +kernel),codeAny_builtin F.entry_type_call ?_⟩;rw[Around.under_plain (weight_type_call_type "enumerate" [.ref l] [(Str.ofString "start",.int 1 t)]) (units_type_call_type "enumerate" [.ref l] [(Str.ofString "start",.int 1 t)])]
 have h1:=ft.notType;have h2:=ft.canCreate
 (repeat (any_goals (first | assumption | wp_step)))
 have y1:(s.heap.push { cls:=.type "list_iterator",data:=.fields #[.ref l,.int 0 0] }).objs.size=s.heap.objs.size+1:=Heap.size_push ..
 have u2:((s.heap.push { cls:=.type "list_iterator",data:=.fields #[.ref l,.int 0 0] }).push { cls:=.type "enumerate",data:=.fields #[.none,.bool false,.ref s.heap.objs.size,rawInt 1,.none,.none] }).get? (s.heap.objs.size+1)=some { cls:=.type "enumerate",data:=.fields #[.none,.bool false,.ref s.heap.objs.size,rawInt 1,.none,.none] }:=by
  rw[<-y1];exact Heap.get?_push_size _ rfl
 refine codeAny_mono (codeAny_call_builtin (R:=wants (fun obj s1=>obj = .ref (s.heap.objs.size+1)/\s1={ s with heap:=(s.heap.push { cls:=.type "list_iterator",data:=.fields #[.ref l,.int 0 0] }).push { cls:=.type "enumerate",data:=.fields #[.none,.bool false,.ref s.heap.objs.size,rawInt 1,.none,.none] } }) E) ft.plain F.entry_enumerate_new (wpAny_of_eq (w3p (.ref l) (.int 1 t)) (x5d l xs t prog w A.in1 _ s ⟨q1,by rw[y1];exact⟨rfl,rfl⟩⟩))) fun r s1 hr=>?_
 cases r with
 | error e=>exact hr
 | ok fl =>
   cases fl with
   | ret obj =>
     obtain⟨rfl,rfl⟩:=hr
     have hT:Shared.TypeIs { s with heap:=(s.heap.push { cls:=.type "list_iterator",data:=.fields #[.ref l,.int 0 0] }).push { cls:=.type "enumerate",data:=.fields #[.none,.bool false,.ref s.heap.objs.size,rawInt 1,.none,.none] } } (.ref (s.heap.objs.size+1)) "enumerate":=⟨_,u2,rfl⟩
     have hli:=ft.init.lookup;have hbi:=ft.init.bind (.ref (s.heap.objs.size+1))
     (repeat (any_goals (first | assumption | wp_step)))
     refine codeAny_mono (codeAny_call_builtin (R:=wants (fun r s2=>r = .none/\Q (.ref (s.heap.objs.size+1)) s2) E) ft.init.plain F.entry_object_init (ft.init.check _ _ _ _ (.ref (s.heap.objs.size+1)) [.ref l] [(Str.ofString "start",.int 1 t)] _ hT (x9m _ _ _) (wpAny_mono (x9l (Q:=fun r s2=>r = .none/\Q (.ref (s.heap.objs.size+1)) s2) hT ⟨rfl,q _ u2 ⟨_,Heap.get?_push_of_some _ (Heap.get?_push_size _ rfl),rfl,rfl⟩ (by rw[Heap.size_push,y1]) fun c o x=>Heap.get?_push_of_some _ (Heap.get?_push_of_some _ x)⟩) (fun fin s' hf=>by obtain⟨r,rfl,hr⟩:=hf;exact hr) fun _ _ z=>z))) fun r2 s2 hr2=>?_
     cases r2 with
     | error e=>exact hr2
     | ok fl2 =>
       cases fl2 with
       | ret r =>
         obtain⟨rfl,hq⟩:=hr2
         (repeat (any_goals (first | assumption | wp_step)))
       | _=>exact hr2.elim
   | _=>exact hr.elim
end
theorem x9x{M:Model}{A:Around}{E:Value->Shared->Prop}{s:Shared}{env:Env}{pos:Pos}{T:String}{e:Expr}{kws:List Keyword}{Q:Value->Shared->Prop}
 (h:wpAny M A (spliced (backTo pos (starEach [e] env))) (fun vs s1=>wpAny M A (evalAll ((backToKw pos (keywordEach kws env)).map (·.2))) (fun kvs s2=>wpAny M A (call (.type T) vs (((backToKw pos (keywordEach kws env)).filterMap (·.1)).zip kvs)) Q E s2) E s1) E s)
 (he:backTo pos (starEach [e] env)=(false,eval e env)::backTo pos (starEach [] env)) (hplain:(backTo pos (starEach [e] env)).any (·.1)=false) (hall:(backToKw pos (keywordEach kws env)).all (·.1.isSome)=true) (hkw:(backToKw pos (keywordEach kws env)).any (·.1.isNone)=false) :
 wpAny M A (callWith pos (.type T) [] (backTo pos (starEach [e] env)) (backToKw pos (keywordEach kws env))) Q E s:=by
 have h':wpAny M A (evalArgs (.type T) true (backTo pos (starEach [e] env)) (backToKw pos (keywordEach kws env))) (fun a s1=>wpAny M A (call (.type T) ([]++a.pos) a.kw) Q E s1) E s:=by
  rw[he] at h ⊢
  exact evalArgs_kwB hall h
 unfold callWith
 refine wpAny_bind (wpAny_holding (wpAny_mono h' (fun a s1 h1=>wpAny_bind (wpAny_standAt ?_)) fun _ _ z=>z))
 simp only[hplain,hkw,Bool.or_false]
 refine wpAny_bind (wpAny_pure (wpAny_bind (wpAny_mono h1 (fun r s2 hr=>wpAny_bind (wpAny_holding (wpAny_point (wpAny_pure hr)))) fun _ _ z=>z)))
section
variable {X:Cx}{a b:Expr}{ga gb:G->R D}
theorem x8f{elts:List Expr}{kt}{pt p pos kp:Pos}{v:Expr}(ha:PDr X a ga)(hv:PD X v (gC (.int 1)))(hm:X.mg "enumerate"=none)(hg:Gl X "enumerate":=by rfl)(hs:starEach [a] X.env=[(false,eval a X.env)]:=by rfl) :
 PIx JD2 X (.Tuple elts kt pt) (.Call (.Name "enumerate" p) [a] [⟨some "start",v,kp⟩] pos) (x0z ga):=by
 refine⟨fun pins s σ H F Γ I fo rl hgg=>?_⟩
 refine wpAny_Call_Name_kw (z4m I hg hm y8g ?_)
 refine x9x ?_ (by rw[hs];rfl) (by rw[hs];rfl) rfl rfl
 rw[hs]
 show wpAny _ _ (spliced ((false,eval a X.env)::backTo pos [])) _ _ s
 refine Calls.spliced_cons (wpAny_mono (ha.run pins s σ H F Γ I fo rl (R.left hgg)) (fun u s1 ⟨d,y,H1,e1,I1,r1,S1,i1⟩=>Calls.spliced_nil ?_) fun _ _ x=>x.bind _)
 have hg1:=R.next hgg e1
 refine kws_cons (wpAny_mono (hv.run pins s1 σ H1 F Γ I1 (fo.same S1) (rl.same S1) (fun z=>nomatch z)) (fun u2 s2 ⟨d2,y2,H2,e2,I2,r2,S2,i2⟩=>kws_nil ?_) fun _ _ x=>?_)
 ·cases e2
  rw[Is.int_iff.mp i2] at r2
  obtain⟨tk,rfl⟩:=r2
  cases d with
  | lst ds =>
    obtain⟨l,xs,rfl,q1,j1⟩:=Is.lst_iff.mp i1
    cases (show u=Value.ref l from r1)
    have q2:SqL X.K H2 l xs:=S2.seq ((z2j (F:=F)).seq q1)
    obtain⟨its,rv,pl,hz⟩:=I2.list q2
    show wpAny _ _ (call (.type "enumerate") [.ref l] [(Str.ofString "start",.int 1 tk)]) _ _ s2
    refine x9w pl.isList fun h' a1 a2 a3 a4=>?_
    refine wpAny_pyIter_enum (s:={ s2 with heap:=h' }) a1 ?_
    have I3:Inv X pins σ H2 { s2 with heap:=h' }:=I2.kept (t':=s2.toks) a4
    refine⟨z4w 1 ds,s2.heap.objs.size+1,_,_,Iy1 X.K l,H2,R.step e1 _,rfl,I3,S1.trans S2,x7m (it:=s2.heap.objs.size) (by show @Ne Nat _ _;lia),⟨⟨_,a1⟩,a2⟩,fun c hc=>?_,w3d ((z2h S2).seq q1) (j1.same (z2h S2))⟩
    simp only[List.mem_cons,List.not_mem_nil,or_false] at hc
    have hge:s2.heap.objs.size<=c:=by rcases hc with rfl | rfl<;>lia
    exact I2.fpOk hge (I2.hok.fresh hge)
  | _=>exact absurd rfl hg1
 ·obtain⟨c,H',e,_⟩:=x
  cases e
end
section
variable {X:Cx}{e:Expr}{pos p:Pos}{x:Str}{es:List Expr}{gs:G->R (List D)}
end
noncomputable abbrev rowK (X:Cx):HeapKind X.prog X.w (List Int):=tupleKind (intKind X.prog X.w)
noncomputable def DK(X:Cx)(H:Hp)(ob:Obj)(ks:List (List Int)):Prop:=∃(xs:List (List Int×Addr×Value)) (es:Array DictEntry) (ep:Nat),ob.ExactDict/\ob.data = .dict es ep/\es.toList=xs.map (entryOfKey (rowK X))/\(xs.map (·.1)).Nodup /\
 (∀x∈xs,SqT X.K H x.2.1 (x.1.map V.int))/\(∀k,k∈xs.map (·.1)↔k∈ks)/\xs.length<=ks.length
section
variable {X:Cx}{pins:List (Addr×Obj)}{σ:St}{H:Hp}{s:Shared}{a b:Addr}{ob:Obj}{ks:List (List Int)}{k:List Int}
theorem y4v{P:Program}{w:World}:∀{ns:List Int} {its:List Value},Vals (ns.map V.int) its->ItemsAre (intKind P w) ns its
 | [],_,h=>by cases h;exact .nil
 | n::ns,_,h=>by
   cases h with
   | cons h1 h2 =>
     obtain⟨t,rfl⟩:=h1
     exact .cons (by simp[intKind,Value.isInt]) (y4v h2)
theorem y5m(I:Inv X pins σ H s)(h:SqT X.K H b (k.map V.int)):(rowK X).is s.heap k b:=by
 obtain⟨its,r,⟨o,h1,h2,n,h3⟩,_⟩:=I.tuple h
 exact⟨o,its.toArray,n,h1,h2,h3,by simpa using y4v r⟩
theorem DK.dict(I:Inv X pins σ H s)(h:s.heap.get? a=some ob)(dk:DK X H ob ks):∃xs:List (List Int×Addr×Value),s.heap.DictOfH (rowK X) a xs/\(∀x∈xs,SqT X.K H x.2.1 (x.1.map V.int))/\(∀k,k∈xs.map (·.1)↔k∈ks)/\xs.length<=ks.length:=by
 obtain⟨xs,es,ep,h1,h2,h3,h4,h5,h6,h7⟩:=dk
 exact⟨xs,⟨ob,es,ep,h,h1,h2,h3,fun x hx=>y5m I (h5 x hx),h4⟩,h5,h6,h7⟩
theorem x7c(xs:List (List Int×Addr×Value))(k:List Int):(atKey xs k).isSome=decide (k∈xs.map (·.1)):=by
 unfold atKey
 rw[Option.isSome_map,Bool.eq_iff_iff,List.find?_isSome,decide_eq_true_iff]
 constructor
 ·rintro⟨x,hx,e⟩
  exact List.mem_map.mpr ⟨x,hx,of_decide_eq_true e⟩
 ·intro h
  obtain⟨x,hx,e⟩:=List.mem_map.mp h
  exact⟨x,hx,decide_eq_true e⟩
theorem DK.isin{E:Value->Shared->Prop}{Q:Value->Shared->Prop}(I:Inv X pins σ H s)(h:s.heap.get? a=some ob)(dk:DK X H ob ks)(hk:SqT X.K H b (k.map V.int))(hu:X.A.units+64<cLine)(hs:(a==sysModules)=false)(q:∀tk,Q (.bool (decide (k∈ks))) { s with toks:=tk }) :
 wpAny (model X.prog X.w) X.A (compareOp .In (.ref b) (.ref a)) Q E s:=by
 obtain⟨xs,h1,h2,h3,h4⟩:=dk.dict I h
 refine wpAny_in_heap (knd:=rowK X) (show X.A.units+1<cLine by lia) (y5m I hk) hs h1 ?_
 rw[x7c]
 have:decide (k∈xs.map (·.1))=decide (k∈ks):=by rw[Bool.eq_iff_iff,decide_eq_true_iff,decide_eq_true_iff];exact h3 k
 rw[this]
 exact q _
theorem DK.put{H₀:Hp}{E:Value->Shared->Prop}{Q:Unit->Shared->Prop}{v:Value}(I:Inv X pins σ H s)(S:Same H₀ H)(h:s.heap.get? a=some ob)(dk:DK X H₀ ob ks)(hk:SqT X.K H₀ b (k.map V.int))(hu:X.A.units+64<cLine)(hl:ks.length<=20000)
 (q:∀h' ob' tk,h'.get? a=some ob'->DK X H₀ ob' (ks++[k])->Heap.SameBut a s.heap h'->Q () { s with heap:=h',toks:=tk }) :
 wpAny (model X.prog X.w) X.A (setItem (.ref a) (.ref b) v) Q E s:=by
 obtain⟨xs,es0,ep0,z1,z2,z3,z4,h2,h3,h4⟩:=dk
 have h1:s.heap.DictOfH (rowK X) a xs:=⟨ob,es0,ep0,h,z1,z2,z3,fun x hx=>y5m I (z3t S (h2 x hx)),z4⟩
 refine wpAny_setItem_heap (knd:=rowK X) (show X.A.units+1<cLine by lia) (y5m I (z3t S hk)) h1 (fun h' hd hs=>?_) (by rw[sizeLine_eq];lia)
 obtain⟨ob',es,ep,g1,g2,g3,g4,g5,g6⟩:=hd
 refine q h' ob' _ g1 ⟨_,es,ep,g2,g3,g4,g6,?_,?_,?_⟩ hs
 ·intro x hx
  unfold storedH at hx
  split at hx
  ·obtain⟨y,hy,rfl⟩:=List.mem_map.mp hx
   unfold putAt
   split
   ·exact h2 y hy
   ·exact h2 y hy
  ·rcases List.mem_append.mp hx with z | z
   ·exact h2 x z
   ·rw[List.mem_singleton] at z;subst z;exact hk
 ·intro k'
  rw[List.mem_append,List.mem_singleton,<-h3 k']
  unfold storedH
  split
  ·rename_i hz
   rw[x7c,decide_eq_true_iff] at hz
   rw[List.map_map,show((fun x:List Int×Addr×Value=>x.1) ∘ putAt k v)=fun x=>x.1 by funext x;simp only[Function.comp,putAt];split<;>rfl]
   exact⟨.inl,fun z=>z.elim id fun e=>e ▸ hz⟩
  ·rw[List.map_append,List.mem_append]
   simp
 ·unfold storedH
  split
  ·rw[List.length_map,List.length_append];lia
  ·rw[List.length_append,List.length_append];exact Nat.add_le_add_right h4 1
theorem DK.same{H':Hp}(dk:DK X H ob ks)(S:Same H H'):DK X H' ob ks:=by
 obtain⟨xs,es,ep,h1,h2,h3,h4,h5,h6⟩:=dk
 exact⟨xs,es,ep,h1,h2,h3,h4,fun x hx=>z3t S (h5 x hx),h6⟩
noncomputable def dX(a:Addr)(ob:Obj):HO:=.ext fun h=>h.get? a=some ob
theorem w5y{P:Program}{w:World}{H':Hp}{h:Heap}(e:h.get? a=some ob):z7k P w H' h a (dX a ob):=⟨e,⟨ob,e⟩,fun _ _ z k=>k _ z⟩
theorem w7f(I:Inv X pins σ (upd H a (dX a ob)) s):s.heap.get? a=some ob:=(show z7k X.prog X.w _ s.heap a (dX a ob) from I.hok a _ z0q).1
theorem updX{H:Hp}{a:Addr}{o o':HO}:upd (upd H a o) a o'=upd H a o':=by
 funext b
 by_cases q:b=a
 ·rw[q,z0q,z0q]
 ·rw[z0u q,z0u q,z0u q]
theorem x8a(d x:Nat){sn xn:Str}{p p2 spos cp pos:Pos}{j}{E:Value->Shared->Prop}(hN:X.N[d]? = some sn)(hNx:X.N[x]? = some xn)(hv:Vis X.env.scope sn)(hvx:Vis X.env.scope xn)(hd:(sn==("__debug__":Str))=false)(hcd:(sn==("__classdict__":Str))=false)(hdx:(xn==("__debug__":Str))=false)(hcdx:(xn==("__classdict__":Str))=false)
 (ha:∀v,assign (.Subscript (.Name sn p) (.Name xn p2) spos) X.env v=(do
   let ov <-holding [v] (eval (.Name sn p) X.env)
   let iv <-holding [v,ov] (eval (.Name xn p2) X.env)
   standAt spos
   holding [v,ov,iv] (setItem ov iv v)
   release [v,ov,iv] []))
 (hs:swapsWithSole [.Subscript (.Name sn p) (.Name xn p2) spos] (.Constant (.bool true) j cp) pos.line X.env=pure false) (hw:swappedStores [.Subscript (.Name sn p) (.Name xn p2) spos] (.Constant (.bool true) j cp) X.env=pure none)
 (h1':(assignEach [.Subscript (.Name sn p) (.Name xn p2) spos] X.env).map (·.2)=[assign (.Subscript (.Name sn p) (.Name xn p2) spos) X.env])
 (hn:H a=none) (I:Inv X pins σ (upd H a (dX a ob)) s) (dk:DK X H ob ks) (hσ:σ[d]? = some (some (.ref a))) (hσx:σ[x]? = some (some (.ref b))) (hk:SqT X.K H b (k.map V.int)) (hu:X.A.units+64<cLine) (hl:ks.length<=20000)
 {Q:Flow->Shared->Prop} (q:∀s' ob',Inv X pins σ (upd H a (dX a ob')) s'->DK X H ob' (ks++[k])->Q .next s') :
 wpAny (model X.prog X.w) X.A (exec (.Assign [.Subscript (.Name sn p) (.Name xn p2) spos] (.Constant (.bool true) j cp) pos) X.env) Q E s:=by
 have S0:Same H (upd H a (dX a ob)):=z1r hn _
 refine wpAny_Assign_stores (wpAny_mono (w4p (X:=X.nox) pins s σ _ (fun v H'=>v = .bl true/\H'=upd H a (dX a ob)) (I.wish _) ⟨rfl,rfl⟩) (fun u s1 ⟨v1,H1,I1,r1,e1,e2⟩=>?_) fun _ _ z=>False.elim z) hs hw
 subst e1 e2
 rw[h1']
 show wpAny _ _ (assign (.Subscript (.Name sn p) (.Name xn p2) spos) X.env u) _ _ s1
 rw[ha]
 refine wpAny_bind (wpAny_holding (wpAny_mono (z8g (X:=X.nox) hN hv hd hcd pins s1 σ _ (fun v' H'=>v' = .ref a/\H'=upd H a (dX a ob)) I1 ⟨.ref a,hσ,rfl,rfl⟩) (fun v s2 ⟨v',H',I2,r2,e2,e3⟩=>?_) fun _ _ z=>False.elim z))
 subst e2 e3
 cases (show v=Value.ref a from r2)
 refine wpAny_bind (wpAny_holding (wpAny_mono (z8g (X:=X.nox) hNx hvx hdx hcdx pins s2 σ _ (fun v' H'=>v' = .ref b/\H'=upd H a (dX a ob)) I2 ⟨.ref b,hσx,rfl,rfl⟩) (fun w' s3 ⟨v',H',I3,r3,e2,e3⟩=>?_) fun _ _ z=>False.elim z))
 subst e2 e3
 cases (show w'=Value.ref b from r3)
 have I3':=I3.unwish
 refine wpAny_bind (wpAny_standAt (wpAny_bind (wpAny_holding (DK.put I3' S0 (w7f I3') dk hk hu hl fun h' ob' tk g1 g2 g3=>wpAny_release (q _ ob' ?_ ?_)))))
 ·have:=I3'.write (t':=tk) (x:=a) (e:=a) (o:=dX a ob') (by rw[z0q];trivial) (.inl rfl) (fun b u hb e=>(g3.2 b hb).trans e) ⟨ob',g1⟩ (w5y g1)
  rwa [updX] at this
 ·exact g2
theorem Rel.lose{K:PySem.W.Frag}{H:Hp}{F:List Addr}{Γ:G}{σ σ':St}{x:Nat}(r:Rel K H F Γ σ)(hl:σ'.length=σ.length)(h:∀j,j≠x->σ'[j]? = σ[j]?):Rel K H F (Γ.set x .no) σ' where
 len:=by rw[List.length_set,hl,r.len]
 ro:=fun j d hj=>by
  by_cases e:x=j
  ·subst e
   rw[List.getElem?_set] at hj
   simp only[if_true] at hj
   split at hj<;>cases hj
  ·rw[List.getElem?_set_ne e] at hj
   rw[h j (Ne.symm e)]
   exact r.ro j d hj
 own:=fun j ds hj=>by
  by_cases e:x=j
  ·subst e
   rw[List.getElem?_set] at hj
   simp only[if_true] at hj
   split at hj<;>cases hj
  ·rw[List.getElem?_set_ne e] at hj
   rw[h j (Ne.symm e)]
   exact r.own j ds hj
 inj:=fun j l ds es a' hj hk h1 h2=>by
  have n1:x≠j:=fun e=>by
   subst e
   rw[List.getElem?_set] at hj
   simp only[if_true] at hj
   split at hj<;>cases hj
  have n2:x≠l:=fun e=>by
   subst e
   rw[List.getElem?_set] at hk
   simp only[if_true] at hk
   split at hk<;>cases hk
  rw[List.getElem?_set_ne n1] at hj
  rw[List.getElem?_set_ne n2] at hk
  rw[h j (Ne.symm n1)] at h1
  rw[h l (Ne.symm n2)] at h2
  exact r.inj j l ds es a' hj hk h1 h2
noncomputable def z7n(ks:List (List Int)):List D:=ks.map fun k=>.tup (k.map D.int)
theorem y8z{xs:List D}(h:xs.all D.isRow=true):∃ks,xs=z7n ks:=by
 induction xs with
 | nil=>exact⟨[],rfl⟩
 | cons d r ih =>
   rw[List.all_cons,Bool.and_eq_true] at h
   obtain⟨ks,rfl⟩:=ih h.2
   cases d with
   | tup ds =>
     have:∃k:List Int,ds=k.map D.int:=by
      have h1:(ds.all fun d=>match d with | .int _=>true | _=>false)=true:=h.1
      clear h ih
      induction ds with
      | nil=>exact⟨[],rfl⟩
      | cons e r ih =>
        rw[List.all_cons,Bool.and_eq_true] at h1
        obtain⟨k,rfl⟩:=ih h1.2
        cases e with
        | int z=>exact⟨z::k,rfl⟩
        | _=>exact absurd h1.1 (by simp)
     obtain⟨k,rfl⟩:=this
     exact⟨k::ks,rfl⟩
   | _=>exact absurd h.1 (by simp[D.isRow])
theorem w4l{K:PySem.W.Frag}{H:Hp}{ks:List (List Int)}{ys:List V}(h:IsAll K H (z7n ks) ys){j:Nat}{y:V}(hy:ys[j]? = some y):∃k b,ks[j]? = some k/\y = .ref b/\SqT K H b (k.map V.int):=by
 obtain⟨d,ed,iv⟩:=h.getX hy
 unfold z7n at ed
 rw[List.getElem?_map] at ed
 obtain⟨k,ek,rfl⟩:=Option.map_eq_some_iff.mp ed
 obtain⟨b,zs,e,h1,h2⟩:=Is.tup_iff.mp iv
 rw[h2.ints_eq] at h1
 exact⟨k,b,ek,e,h1⟩
theorem x7u(d x i:Nat){sn xn yn:Str}{px py p p2 spos cp spos' pos:Pos}{jc}{F:List Addr}{Γ:G}{E:Value->Shared->Prop}{nk:List (List Int)}(hN:X.N.Nodup)(hcalm:X.calm=true)(hNd:X.N[d]? = some sn)(hNx:X.N[x]? = some xn)(hNi:X.N[i]? = some yn)
 (hv:Vis X.env.scope sn) (hvx:Vis X.env.scope xn) (hvi:Vis X.env.scope yn) (hd:(sn==("__debug__":Str))=false) (hcd:(sn==("__classdict__":Str))=false) (hdx:(xn==("__debug__":Str))=false) (hcdx:(xn==("__classdict__":Str))=false) (hdi:(yn==("__debug__":Str))=false) (hcdi:(yn==("__classdict__":Str))=false)
 (hx:Loc X.env.scope xn) (hf:X.fn xn=true∨X.env.scope.names.lookup xn=some .local)
 (ha:∀v,assign (.Subscript (.Name sn p) (.Name xn p2) spos) X.env v=(do
   let ov <-holding [v] (eval (.Name sn p) X.env)
   let iv <-holding [v,ov] (eval (.Name xn p2) X.env)
   standAt spos
   holding [v,ov,iv] (setItem ov iv v)
   release [v,ov,iv] []))
 (hs:swapsWithSole [.Subscript (.Name sn p) (.Name xn p2) spos] (.Constant (.bool true) jc cp) spos'.line X.env=pure false) (hw:swappedStores [.Subscript (.Name sn p) (.Name xn p2) spos] (.Constant (.bool true) jc cp) X.env=pure none)
 (h1':(assignEach [.Subscript (.Name sn p) (.Name xn p2) spos] X.env).map (·.2)=[assign (.Subscript (.Name sn p) (.Name xn p2) spos) X.env])
 (hsi:∀z,foldedSetIterable (.Name yn py) X.env z=pure z) (hdx':d≠x)
 (hn:H a=none) (I:Inv X pins σ (upd H a (dX a ob)) s) (dk:DK X H ob []) (hσ:σ[d]? = some (some (.ref a))) (rl:Rel X.K H F Γ σ) (hΓ:Γ[i]? = some (.ro (.lst (z7n nk)))) (hu:X.A.units+64<cLine) (hl:nk.length<=20000)
 {Q:Flow->Shared->Prop} (q:∀s' σ' ob',Inv X pins σ' (upd H a (dX a ob')) s'->DK X H ob' nk->σ'[d]? = some (some (.ref a))->Rel X.K H F (Γ.set x .no) σ'->Q .next s') :
 wpAny (model X.prog X.w) X.A (exec (.For (.Name xn px) (.Name yn py) [.Assign [.Subscript (.Name sn p) (.Name xn p2) spos] (.Constant (.bool true) jc cp) spos'] [] pos) X.env) Q E s:=by
 obtain⟨v,hσi,iv⟩:=rl.ro i _ hΓ
 obtain⟨pl,ys,rfl,hq,ha'⟩:=Is.lst_iff.mp iv
 have hq0:SqL X.K H pl ys:=(z2j (F:=F)).seq hq
 have ia:IsAll X.K H (z7n nk) ys:=ha'.same z2j
 have ln:ys.length=nk.length:=by rw[<-ia.length];simp[z7n]
 have S:∀ob,Same H (upd H a (dX a ob)):=fun ob=>z1r hn _
 have hp':PassesOwn (model X.prog X.w) X.A X.env (fun _ _=>False):=fun e s' h=>h.elim
 refine wpAny_mono (E:=fun _ _=>False) ?_ (fun _ _ z=>z) fun _ _ z=>z.elim
 refine wpAny_For (wpAny_mono (z8g (X:=X.nox) hNi hvi hdi hcdi pins s σ _ (fun v' H'=>v' = .ref pl/\H'=upd H a (dX a ob)) (I.wish _) ⟨.ref pl,hσi,rfl,rfl⟩) (fun v s1 ⟨v',H',I1,r1,e2,e3⟩=>?_) fun _ _ z=>False.elim z) hsi
 subst e2 e3
 cases (show v=Value.ref pl from r1)
 refine y9k (tg:=.Name xn px) I1.unwish ((S ob).seq hq0) fun it s2 I2 T t0 fk=>?_
 have stat:∀{H':Hp},(∀b∈[it],H' b=none)->∀b∈[it],FpOk X pins H' b:=fun hn b hb=>⟨hn b hb,(fk b hb).2⟩
 refine codeAny_forLoop_any (fun n s'=>∃(j:Nat) (σ':St) (ob':Obj),n=ys.length-j/\j<=ys.length/\Inv X pins σ' (upd H a (dX a ob')) s'/\s'.heap.IsListIter it pl j/\(∀b∈[it],(upd H a (dX a ob')) b=none)/\DK X H ob' (nk.take j)/\σ'[d]? = some (some (.ref a))/\Rel X.K H F (Γ.set x .no) σ') ?_ ys.length
  ⟨0,σ,ob,by lia,Nat.zero_le _,I2,t0,fun b hb=>(fk b hb).1,by rw[List.take_zero];exact dk,hσ,rl.lose rfl fun _ _=>rfl⟩
 rintro n s3 ⟨j,σ3,ob3,en,hj,I3,t3,fr3,dk3,hσ3,rl3⟩
 have sq3:=(S ob3).seq hq0
 by_cases hlt:j<ys.length
 ·have hy:ys[j]? = some (ys[j]'hlt):=List.getElem?_eq_getElem hlt
  refine wpAny_passesOwn hp' (thn (T.item X rfl rfl rfl hcalm j pins s3 σ3 _ _ I3 (stat fr3) t3 ⟨ys,_,sq3,hy⟩) fun r s4 q4=>?_)
  obtain⟨u,hr,h4⟩:=q4
  subst hr
  refine wpAny_passesOwn hp' (thn h4 fun _ s5 q5=>?_)
  obtain⟨y,H5,I5,r5,y5,st5,fr5⟩:=q5
  obtain⟨e5,hy5⟩:=y5
  subst e5
  obtain⟨k,b,ek,rfl,hb⟩:=w4l ia (hy5 ys sq3)
  have I5':=I5.pinned (stat fr5) (T.obj _ _ st5)
  have hpg:PG X.nox (.Name xn px) (y7t x):=z6u (X:=X.nox) hN hNx hx hf
  refine wpAny_passesOwn hp' (wpAny_mono (hpg _ s5 σ3 _ (.ref b) u (fun σ' H'=>σ'=σ3.set x (some (.ref b))/\H'=upd H a (dX a ob3)) (I5'.wish _) r5 ⟨rfl,rfl⟩) (fun _ s6 q6=>?_) fun _ _ z=>False.elim z)
  obtain⟨σ6,H6,I6,e6,e6'⟩:=q6
  subst e6 e6'
  have I6':=I6.unwish
  have lx:x<σ3.length:=by
   have:=(List.getElem?_eq_some_iff.mp hNx).1
   rw[I3.len];exact this
  have sx:(σ3.set x (some (.ref b)))[x]? = some (some (.ref b)):=by rw[List.getElem?_set];simp[lx]
  have sd:(σ3.set x (some (.ref b)))[d]? = some (some (.ref a)):=by rw[List.getElem?_set_ne (Ne.symm hdx')];exact hσ3
  refine wpAny_passesOwn hp' (wpAny_execs_cons (x8a d x hNd hNx hv hvx hd hcd hdx hcdx ha hs hw h1' hn I6' dk3 sd sx hb hu (by rw[List.length_take];lia) fun s7 ob7 I7 dk7=>wpAny_execs_nil ?_))
  have b1:Inv X pins (σ3.set x (some (.ref b))) (upd H a (dX a ob7)) s7:=I7.unpinned
  have b2:s7.heap.IsListIter it pl (j+1):=T.keep _ _ _ st5 fun b' hb' o e=>(I7.pin (b',o) (List.mem_append_right _ (List.mem_append_right _ (z2x hb' e)))).1
  have b3:∀b'∈[it],(upd H a (dX a ob7)) b'=none:=fun b' hb'=>by
   obtain⟨o,e,dd⟩:=T.obj _ _ st5 b' hb'
   exact(I7.pin (b',o) (List.mem_append_right _ (List.mem_append_right _ (z2x hb' e)))).2.1
  refine⟨ys.length-(j+1),by lia,j+1,_,ob7,rfl,hlt,b1,b2,b3,?_,sd,?_⟩
  ·rw[List.take_add_one,ek];exact dk7
  ·have:=rl3.lose (x:=x) (σ':=σ3.set x (some (.ref b))) (by rw[List.length_set]) fun l hl=>List.getElem?_set_ne (Ne.symm hl)
   rwa [List.set_set] at this
 ·have ej:j=ys.length:=by lia
  subst ej
  refine wpAny_passesOwn hp' (thn (T.done X rfl rfl rfl hcalm _ pins s3 σ3 _ _ I3 (stat fr3) t3 ⟨ys,sq3,Nat.le_refl _⟩) fun r s4 q4=>?_)
  obtain⟨hr,I4⟩:=q4
  subst hr
  rw[ln,List.take_length] at dk3
  exact wpAny_execs_nil (q _ _ _ I4 dk3 hσ3 rl3)
theorem x2n(k:List Int):D.isRow (.tup (k.map D.int))=true:=by
 show(k.map D.int).all _=true
 rw[List.all_map,List.all_eq_true]
 intro y _
 rfl
theorem w4k{d:D}(h:D.isRow d=true):∃k:List Int,d = .tup (k.map D.int):=by
 obtain⟨ks,e⟩:=y8z (xs:=[d]) (by rw[List.all_cons,h];rfl)
 cases ks with
 | nil=>cases e
 | cons k r=>unfold z7n at e;rw[List.map_cons] at e;injection e with e _;exact⟨k,e⟩
theorem y4u:∀{a b:List Int},a.map D.int=b.map D.int->a=b
 | [],[],_=>rfl
 | [],_::_,h=>by cases h
 | _::_,[],h=>by cases h
 | x::a,y::b,h=>by
   rw[List.map_cons,List.map_cons] at h
   injection h with h1 h2
   injection h1 with h1
   rw[h1,y4u h2]
theorem x6m(a b:List Int):eqD (.tup (a.map D.int)) (.tup (b.map D.int))=decide (a=b):=by
 have pl:∀l:List Int,D.pl (.tup (l.map D.int))=true:=fun l=>by rw[x0g,List.all_map,List.all_eq_true];intro x _;exact w0m x
 rw[Bool.eq_iff_iff,y3r _ _ (pl a) (pl b),decide_eq_true_iff]
 constructor
 ·intro e
  injection e with e
  exact y4u e
 ·intro e;rw[e]
theorem y9v(nk:List (List Int))(k:List Int):(nk.any fun k'=>eqD (.tup (k'.map D.int)) (.tup (k.map D.int)))=decide (k∈nk):=by
 rw[Bool.eq_iff_iff,List.any_eq_true,decide_eq_true_iff]
 constructor
 ·rintro⟨x,hx,e⟩
  rw[x6m,decide_eq_true_iff] at e
  exact e ▸ hx
 ·intro h
  exact⟨k,h,by rw[x6m,decide_eq_true_iff]⟩
theorem x3y(d:Nat){y sn:Str}{iter:Expr}{px p1 p2 ep pos:Pos}{scope:Scope}{F:List Addr}{Γ:G}{E:Value->Shared->Prop}{nk fk:List (List Int)}{gi:G->R (List D)}(hN:X.N.Nodup)(hcalm:X.calm=true)(hi:PIC X (.Name y px) iter gi)(hgi:gi Γ = .ok (z7n fk))
 (ho:∀C s₂ H₂ fp pn,PE (z1l X y scope C s₂ H₂ fp pn).nox (.Name y p1) (tVar 0)) (hse:∀C s₂ H₂ fp pn,PE (z1l X y scope C s₂ H₂ fp pn).nox (.Name sn p2) (tVar (d+1)))
 (chk:y1m X.N X.env y scope=true) (hclos:closureFor scope X.env=pure (capt X.env scope.names [])) (hs:∀x,foldedSetIterable iter X.env x=pure x) (hm:behindInMarks .In (.Name sn p2)=false)
 (I:Inv X pins σ H s) (fo:FOk H F) (rl:Rel X.K H F Γ σ) (hd:H a=some (dX a ob)) (dk:DK X H ob nk) (hσ:σ[d]? = some (some (.ref a))) (hsy:(a==sysModules)=false) (hu:X.A.units+64<cLine) (hl:fk.length<=20000)
 {Q:Value->Shared->Prop} (q:∀ad H' s',Inv X pins σ H' s'->Same H H'->H' ad=some (.lst ((fk.map fun k=>decide (k∈nk)).map V.bl))->Q (.ref ad) s') :
 wpAny (model X.prog X.w) X.A (eval (.ListComp (.Compare (.Name y p1) [.In] [.Name sn p2] ep) [⟨.Name y px,iter,[],0⟩] scope pos) X.env) Q E s:=by
 have c:=y4b chk
 rw[eval_ListComp]
 have hg:gi Γ ≠ .no:=by rw[hgi];exact fun z=>nomatch z
 have nx:∀{x:Value} {s':Shared},z1p X pins σ H (gi Γ) x s'->False:=fun {x s'} ⟨c7,H',e,_⟩=>by rw[hgi] at e;cases e
 refine wpAny_mono (E:=fun _ _=>False) ?_ (fun _ _ z=>z) fun _ _ z=>z.elim
 refine wpAny_comprehension_free (use:=none) rfl hs hclos c.kind c.names (wpAny_mono (hi.run pins s σ H F Γ I fo rl hg) (fun xv s₁ h₁=>wpAny_mono h₁ (fun itv s₂ h₂=>?_) fun _ _ x=>nx x) fun _ _ x=>nx x)
 obtain⟨items,it,fp,tn,J,H₂,e1,rfl,I2,S2,T,t0,fk',jc⟩:=h₂
 rw[hgi] at e1
 cases e1
 have tot:z0y (fun dd=>(fun(dd:D) (_:G)=>if D.isRow dd=true then R.ok (some (D.bl (nk.any fun k=>eqD (.tup (k.map D.int)) dd))) else .no) dd Γ) (z7n fk) [] = .ok (fk.map fun k=>D.bl (decide (k∈nk))):=by
  unfold z7n
  refine z1w fun k _=>?_
  show(if D.isRow (.tup (k.map D.int))=true then _ else _)=_
  rw[if_pos (x2n k),y9v]
 refine y4a (f:=fun dd _=>if D.isRow dd=true then .ok (some (.bl (nk.any fun k=>eqD (.tup (k.map D.int)) dd))) else .no) (Γ:=Γ) (F:=F) (RR:=fun acc C=>compPost (model X.prog X.w) X.A _ none _ acc C) (fun C ps s x H' dd J' S' fo' rl' eo=>?_) c hN hcalm I2 (fo.same S2) (rl.same S2) T t0 fk' jc tot (by unfold z7n;rw[List.length_map];lia) ?_
 ·have hr:D.isRow dd=true:=by
   obtain⟨o,eo⟩:=eo
   by_cases z:D.isRow dd=true
   ·exact z
   ·simp only[if_neg z] at eo;cases eo
  obtain⟨k,rfl⟩:=w4k hr
  obtain⟨v0,e0,iv0⟩:=rl'.ro 0 _ rfl
  cases e0
  obtain⟨b,zs,e,h1,h2⟩:=Is.tup_iff.mp iv0
  rw[h2.ints_eq] at h1
  cases e
  have hb:SqT X.K H' b (k.map V.int):=z3t z2j h1
  have S02:=S2.trans S'
  refine wpAny_tests_nil ?_
  rw[if_pos rfl]
  refine wpAny_Compare1 (wpAny_mono (ho C s₂ H₂ fp (X.pn++pins) ps s _ H' (fun v' H''=>v' = .ref b/\H''=H') (J'.wish _) ⟨.ref b,rfl,rfl,rfl⟩) (fun u s3 ⟨v',H'',J3,r3,e3,e4⟩=>?_) fun _ _ z=>False.elim z) hm
  subst e3 e4
  cases (show u=Value.ref b from r3)
  refine wpAny_mono (hse C s₂ H₂ fp (X.pn++pins) ps s3 _ H'' (fun v' H3=>v' = .ref a/\H3=H'') J3 ⟨.ref a,by rw[List.getElem?_cons_succ];exact hσ,rfl,rfl⟩) (fun u s4 ⟨v',H3,J4,r4,e3,e4⟩=>?_) fun _ _ z=>False.elim z
  subst e3 e4
  cases (show u=Value.ref a from r4)
  have J4':=J4.unwish
  have hda:=S02 _ _ hd
  have at4:s4.heap.get? a=some ob:=(show z7k X.prog X.w _ s4.heap a (dX a ob) from J4'.hok a _ hda).1
  refine DK.isin (X:=z1l X y scope C s₂ H₂ fp (X.pn++pins)) J4' at4 (dk.same S02) hb hu hsy fun tk=>?_
  refine⟨.bl (decide (k∈nk)),.bl (decide (k∈nk)),H3,?_,J4'.tok _,rfl,.refl _,Is.bl_iff.mpr rfl⟩
  rw[if_pos hr,y9v]
 ·intro Dd C xs H' m s' hC hDC hn hn' hnC hD S' ia I' hnsC
  refine⟨m,hnsC,fun h'' hs''=>?_⟩
  have nlt:∀{b:Addr} {o:Obj},s₂.heap.get? b=some o->b≠C:=fun e=>Nat.ne_of_lt (Nat.lt_of_lt_of_le (Heap.lt_size e) hC)
  have I'':Inv X pins σ (upd H' Dd (.lst xs)) { s' with heap:=h'' }:=I'.turned (t':=s'.toks) (it:=C) (fun b o hb e=>hs''.extBut b o hb e) (by rw[z0u (Ne.symm hDC)];exact hnC) (Nat.ne_of_gt (Nat.lt_of_lt_of_le I2.lt hC)) (.inr (Nat.le_trans I2.sz hC))
   (fun x k e=>by obtain⟨v,o,ho,_⟩:=I2.cell x k e;exact nlt ho) (fun p hp'=>nlt (I2.pin p hp').1)
  have S3:=z1r hn' (.lst xs)
  have ex:xs=(fk.map fun k=>decide (k∈nk)).map V.bl:=IsAll.bools_eq (by rw[List.map_map];exact ia)
  exact q Dd _ _ I'' ((S2.trans S').trans S3) (by rw[z0q,ex])
theorem w4g{Γ:G}{j:Nat}{ys:List D}(h:Γ[j]? = some (.ro (.lst ys))):gSeq (gVr j) Γ = .ok ys:=by
 unfold gSeq gVr lkr
 rw[h]
 rfl
theorem x8c(d x i j:Nat){sn xn yn zn:Str}{pa pdd pos1 px py p p2 spos cp spos' pos2 pn p1 p3 ep pxc pz cpos callpos upos rpos:Pos}{jc}{scope:Scope}(hma:X.mg "any"=none)(nd:X.N.Nodup)(hu:X.A.units+64<cLine)(hcalm:X.calm=true)
 (hNd:X.N[d]? = some sn:=by rfl) (hNx:X.N[x]? = some xn:=by rfl) (hNi:X.N[i]? = some yn:=by rfl) (hNj:X.N[j]? = some zn:=by rfl)
 (hv:Vis X.env.scope sn:=by first | exact Or.inl rfl | exact Or.inr (Or.inl rfl) | exact Or.inr (Or.inr rfl)) (hvx:Vis X.env.scope xn:=by first | exact Or.inl rfl | exact Or.inr (Or.inl rfl) | exact Or.inr (Or.inr rfl)) (hvi:Vis X.env.scope yn:=by first | exact Or.inl rfl | exact Or.inr (Or.inl rfl) | exact Or.inr (Or.inr rfl)) (hvj:Vis X.env.scope zn:=by first | exact Or.inl rfl | exact Or.inr (Or.inl rfl) | exact Or.inr (Or.inr rfl))
 (hd:(sn==("__debug__":Str))=false:=by decide) (hcd:(sn==("__classdict__":Str))=false:=by decide) (hdx:(xn==("__debug__":Str))=false:=by decide) (hcdx:(xn==("__classdict__":Str))=false:=by decide) (hdi:(yn==("__debug__":Str))=false:=by decide) (hcdi:(yn==("__classdict__":Str))=false:=by decide) (hdj:(zn==("__debug__":Str))=false:=by decide) (hcdj:(zn==("__classdict__":Str))=false:=by decide)
 (hld:Loc X.env.scope sn:=by first | exact Or.inl rfl | exact Or.inr rfl) (hfd:X.fn sn=true∨X.env.scope.names.lookup sn=some .local:=by first | exact .inl rfl | exact .inr rfl | assumption) (hlx:Loc X.env.scope xn:=by first | exact Or.inl rfl | exact Or.inr rfl) (hfx:X.fn xn=true∨X.env.scope.names.lookup xn=some .local:=by first | exact .inl rfl | exact .inr rfl | assumption)
 (hsw:swapsWith (.Dict [] [] pdd) (some (.Name sn pa)) pos1.line X.env=pure false:=by rfl)
 (ha:∀v,assign (.Subscript (.Name sn p) (.Name xn p2) spos) X.env v=(do
   let ov <-holding [v] (eval (.Name sn p) X.env)
   let iv <-holding [v,ov] (eval (.Name xn p2) X.env)
   standAt spos
   holding [v,ov,iv] (setItem ov iv v)
   release [v,ov,iv] []):=by intro _;rfl)
 (hs:swapsWithSole [.Subscript (.Name sn p) (.Name xn p2) spos] (.Constant (.bool true) jc cp) spos'.line X.env=pure false:=by rfl) (hw:swappedStores [.Subscript (.Name sn p) (.Name xn p2) spos] (.Constant (.bool true) jc cp) X.env=pure none:=by rfl)
 (h1':(assignEach [.Subscript (.Name sn p) (.Name xn p2) spos] X.env).map (·.2)=[assign (.Subscript (.Name sn p) (.Name xn p2) spos) X.env]:=by rfl)
 (hsi:∀z,foldedSetIterable (.Name yn py) X.env z=pure z:=by intro _;rfl) (hsj:∀z,foldedSetIterable (.Name zn pz) X.env z=pure z:=by intro _;rfl)
 (hne:d≠x/\i≠d/\i≠x/\j≠d/\j≠x:=by decide)
 (ho:∀C s₂ H₂ fp pn,PE (z1l X xn scope C s₂ H₂ fp pn).nox (.Name xn p1) (tVar 0):=by intro _ _ _ _ _;exact z8g rfl (by first | exact Or.inl rfl | exact Or.inr (Or.inl rfl) | exact Or.inr (Or.inr rfl)) (by decide) (by decide))
 (hse:∀C s₂ H₂ fp pn,PE (z1l X xn scope C s₂ H₂ fp pn).nox (.Name sn p3) (tVar (d+1)):=by intro _ _ _ _ _;exact z8g rfl (by first | exact Or.inl rfl | exact Or.inr (Or.inl rfl) | exact Or.inr (Or.inr rfl)) (by decide) (by decide))
 (chk:y1m X.N X.env xn scope=true:=by rfl) (hclos:closureFor scope X.env=pure (capt X.env scope.names []):=by rfl) (hm:behindInMarks .In (.Name sn p3)=false:=by rfl)
 (hga:Gl X "any":=by rfl) (he:starEach [Expr.ListComp (.Compare (.Name xn p1) [.In] [.Name sn p3] ep) [⟨.Name xn pxc,.Name zn pz,[],0⟩] scope cpos] X.env=[(false,eval (.ListComp (.Compare (.Name xn p1) [.In] [.Name sn p3] ep) [⟨.Name xn pxc,.Name zn pz,[],0⟩] scope cpos) X.env)]:=by rfl) :
 PQs X [.Assign [.Name sn pa] (.Dict [] [] pdd) pos1,.For (.Name xn px) (.Name yn py) [.Assign [.Subscript (.Name sn p) (.Name xn p2) spos] (.Constant (.bool true) jc cp) spos'] [] pos2,
  .Return (some (.UnaryOp .Not (.Call (.Name "any" pn) [.ListComp (.Compare (.Name xn p1) [.In] [.Name sn p3] ep) [⟨.Name xn pxc,.Name zn pz,[],0⟩] scope cpos] [] callpos) upos)) rpos] (x6b i j):=by
 refine⟨fun pins s σ H F Γ I fo rl hg=>?_⟩
 obtain⟨n1,n2,n3,n4,n5⟩:=hne
 obtain⟨nk,fk,gi,gj,hl1,hl2,ev⟩:∃nk fk,Γ[i]? = some (.ro (.lst (z7n nk)))/\Γ[j]? = some (.ro (.lst (z7n fk)))/\nk.length<=20000/\fk.length<=20000/\x6b i j Γ = .ok (.rt (.bl (!((fk.map fun k=>decide (k∈nk)).any fun b=>b)))):=by
  unfold x6b at hg ⊢
  split at hg
  ·rename_i xs ys e1 e2
   obtain⟨⟨g1,g2,g3,g4⟩,g5⟩:=R.guard_ne hg
   obtain⟨nk,rfl⟩:=y8z g1
   obtain⟨fk,rfl⟩:=y8z g2
   refine⟨nk,fk,e1,e2,by simpa [z7n] using g3,by simpa [z7n] using g4,?_⟩
   refine g5.trans ?_
   have:((z7n fk).any fun y=>(z7n nk).any fun x=>eqD x y)=((fk.map fun k=>decide (k∈nk)).any fun b=>b):=by
    unfold z7n
    rw[List.any_map,List.any_map]
    congr 1
    funext k
    simp only[Function.comp]
    rw[List.any_map]
    exact y9v nk k
   rw[this]
  ·exact absurd rfl hg
 have hbig:sysModules<s.heap.objs.size:=Nat.lt_trans (by decide) (show mainGlobals<s.heap.objs.size from(I.mod.glob.keeps I.bk).lt)
 have hn:H s.heap.objs.size=none:=I.hok.fresh (Nat.le_refl _)
 have hsy:(s.heap.objs.size==sysModules)=false:=beq_eq_false_iff_ne.mpr (Nat.ne_of_gt hbig)
 have S:∀ob,Same H (upd H s.heap.objs.size (dX s.heap.objs.size ob)):=fun ob=>z1r hn _
 have I1:=I.laid (t':=s.toks) (o:=dX s.heap.objs.size { cls:=.type "dict",data:=.dict #[] }) (h':=s.heap.push { cls:=.type "dict",data:=.dict #[] }) (fun b u e=>Heap.get?_push_of_some _ e) (Nat.le_refl _) (w5y (Heap.get?_push_size _ rfl))
 refine wpAny_execs_cons (wpAny_Assign_Name (wpAny_Dict_empty (y2g (v:=.ref s.heap.objs.size) I1 nd hNd hld rfl (fun s2 I2=>?_) hfd)) hsw)
 have ld:d<σ.length:=by
  have:=(List.getElem?_eq_some_iff.mp hNd).1
  rw[I.len];exact this
 have sd:(σ.set d (some (.ref s.heap.objs.size)))[d]? = some (some (.ref s.heap.objs.size)):=by rw[List.getElem?_set];simp[ld]
 have rl1:=rl.lose (x:=d) (σ':=σ.set d (some (.ref s.heap.objs.size))) (by rw[List.length_set]) fun l hl=>List.getElem?_set_ne (Ne.symm hl)
 have dk0:DK X H { cls:=.type "dict",data:=.dict #[] } []:=⟨[],#[],0,⟨rfl,rfl,rfl⟩,rfl,rfl,List.nodup_nil,(by intro x hx;cases hx),(by intro k;simp),Nat.le_refl _⟩
 generalize hA:s.heap.objs.size=a at *
 refine wpAny_execs_cons (x7u d x i nd hcalm hNd hNx hNi hv hvx hvi hd hcd hdx hcdx hdi hcdi hlx hfx ha hs hw h1' hsi n1 hn I2 dk0 sd rl1 (by rw[List.getElem?_set_ne (Ne.symm n2)];exact gi) hu hl1 fun s3 σ3 ob3 I3 dk3 hσ3 rl3=>?_)
 have gj3:((Γ.set d .no).set x .no)[j]? = some (.ro (.lst (z7n fk))):=by rw[List.getElem?_set_ne (Ne.symm n5),List.getElem?_set_ne (Ne.symm n4)];exact gj
 refine wpAny_execs_cons (wpAny_Return_some (UnaryOp_ ?_))
 refine wpAny_Call_Name_kw (z4m I3 hga hma (by decide +kernel:bootBuiltins "any"=some (.builtin "any")) ?_ (by decide) (by decide))
 refine PyProof.Rows.callWith_builtin1 ?_ he rfl
 rw[he]
 show wpAny _ _ (spliced ((false,eval (.ListComp (.Compare (.Name xn p1) [.In] [.Name sn p3] ep) [⟨.Name xn pxc,.Name zn pz,[],0⟩] scope cpos) X.env)::backTo callpos [])) _ _ s3
 refine Calls.spliced_cons (x3y d nd hcalm (PIx.pic (z8f (z1m j hNj hvj hdj hcdj))) (w4g gj3) ho hse chk hclos hsj hm I3 (fo.same (S ob3)) (rl3.same (S ob3)) z0q (dk3.same (S ob3)) hσ3 hsy hu hl2 fun ad H4 s4 I4 S4 e4=>Calls.spliced_nil ?_)
 refine wpAny_mono (y8m (X:=X.nox) hcalm pins s4 σ3 H4 [.ref ad] [Value.ref ad] (fun v H''=>v = .bl ((fk.map fun k=>decide (k∈nk)).any fun b=>b)/\H''=H4) (I4.wish _) (.cons rfl .nil) ⟨ad,_,rfl,SqL.of e4,rfl,rfl⟩) (fun u s5 ⟨v',H5,I5,r5,e5,e6⟩=>?_) fun _ _ z=>False.elim z
 subst e5 e6
 cases r5
 refine not_of (wpAny_truthy_bool ?_)
 exact⟨.bl _,σ3,H5,F,I5.unwish,rfl,.of_same ((S ob3).trans S4),.inl ⟨.bl _,ev,Is.bl_iff.mpr rfl⟩⟩
end
end L3
namespace HQ
open PySem PySem.W PySem.Calls PyProof.Rows L2
noncomputable def runT(tb:String->Option Builtin)(p:Program)(w:World)(n₀:Nat)(ann:Option Value)(n:Nat):SharedT->Thread->Option SharedT :=
 Nat.rec (fun _ _=>none) (fun _ ih s t=>match through t with
  | true=>some s
  | false=>match stepOk n₀ ann t with
    | false=>none
    | true=>match stepT (denote tb) p w s t with
      | some (s',t')=>ih s' t'
      | none=>none) n
theorem x4h{tb:String->Option Builtin}{p:Program}{w:World}{n₀:Nat}{ann:Option Value}:∀{n:Nat} {s r:SharedT} {t:Thread},runT tb p w n₀ ann n s t=some r->topRun tb p w n₀ ann n s.abs t=some r.abs
 | 0,_,_,_,h=>by cases h
 | n+1,s,r,t,h=>by
   have h':(match through t with
    | true=>some s
    | false=>match stepOk n₀ ann t with
      | false=>none
      | true=>match stepT (denote tb) p w s t with
        | some (s',t')=>runT tb p w n₀ ann n s' t'
        | none=>none)=some r:=h
   unfold topRun
   cases ht:through t with
   | true=>rw[ht] at h';cases h';rfl
   | false =>
     rw[ht] at h'
     cases hk:stepOk n₀ ann t with
     | false=>rw[hk] at h';cases h'
     | true =>
       rw[hk] at h'
       cases hs:stepT (denote tb) p w s t with
       | none=>rw[hs] at h';cases h'
       | some x=>obtain⟨s₂,t₂⟩:=x;rw[hs] at h';rw[stepT_spec hs];exact x4h h'
noncomputable def see(p q:Program)(loose:List Str)(Xt:Shared->Bool){α:Type}(Yf:Shared->α)(w:World)(s:Shared) :=
 (staticsOk (importedModules p.main.body) (boot_heap w.params) s.heap&&namesBound p s.heap&&gensDone s&&laidKept (boot_heap w.params) s.heap,openSeen q loose (importedModules p.main.body) Xt true s,Yf s)
theorem w2w{p q:Program}{loose:List Str}{Xt:Shared->Bool}{α:Type}{Yf:Shared->α}{Ya:World->α}{N n₀:Nat}{B:Params->BT}{life:Life}{ann:Option Value}
 (hB:∀P,absHeap (B P) n₀ life=boot_heap P) (e:opening p=plainProg p.main.scope.names) (hN:Nat.ble 600 N=true) (f:∀s,fenceModules? p s=some s)
 (size:∀P,((boot_heap P).isNs mainGlobals,(boot_heap P).nsMap mainGlobals "__annotations__")=(true,ann))
 (big:∀(w:World) (os:OsState),(runT treeTable p w n₀ ann N ⟨B w.params,n₀,life,#[],boot_drawn,boot_toks,os⟩ (topStub p)).map (fun s=>see p q loose Xt Yf w s.abs)=some (true,openGood q loose,Ya w)):LeftO p q loose Xt Yf Ya N:=fun w=>by
 obtain⟨⟨h,gs,d,k,os⟩,e1,e2⟩:=Option.map_eq_some_iff.mp (boot_open (p:=p) (N:=N) e hN f w)
 obtain⟨rfl,rfl,rfl,rfl⟩:h=boot_heap w.params/\gs=#[]/\d=boot_drawn/\k=boot_toks:=by simpa using e2
 obtain⟨z1,z2⟩:_/\_:=by simpa only[Prod.mk.injEq] using size w.params
 obtain⟨r,hr,hs⟩:=Option.map_eq_some_iff.mp (big w os)
 have t:=x4h hr
 have ab:(SharedT.abs ⟨B w.params,n₀,life,#[],boot_drawn,boot_toks,os⟩)=⟨boot_heap w.params,#[],boot_drawn,boot_toks,os⟩:=by
  unfold SharedT.abs
  rw[hB]
 rw[ab] at t
 have sz:(boot_heap w.params).objs.size=n₀:=by rw[<-hB w.params];exact absHeap_size _ _ _
 unfold see at hs
 obtain⟨l1,l2⟩:_/\_:=by simpa only[Prod.mk.injEq] using hs
 have T:topFrom treeTable p w N ⟨boot_heap w.params,#[],boot_drawn,boot_toks,os⟩=some r.abs:=by
  unfold topFrom
  dsimp only
  rw[z1,z2,sz,t]
  show(match staticsOk (importedModules p.main.body) (boot_heap w.params) r.abs.heap&&namesBound p r.abs.heap&&gensDone r.abs&&laidKept (boot_heap w.params) r.abs.heap with | true=>_ | false=>_)=_
  rw[l1]
 unfold openEnds
 rw[e1]
 show(topFrom treeTable p w N _).map _=_
 rw[T]
 exact congrArg some (Prod.ext l2.1 l2.2)
noncomputable def w6p(l:List Obj):BT:=(l.foldl (fun x o=>(x.1.ins x.2 o,x.2+1)) (BT.nil,0)).1
noncomputable def B(P:Params):BT:=w6p (boot_heap P).objs.toList
theorem hB(P:Params):absHeap (B P) 11 {}=boot_heap P:=by kernel_rfl
theorem hS(P:Params):((boot_heap P).isNs mainGlobals,(boot_heap P).nsMap mainGlobals "__annotations__")=(true,some (.ref 6)):=by kernel_rfl
noncomputable def runQ(p:Program)(w:World)(n₀:Nat)(ann:Option Value)(n:Nat):SharedT->Thread->Option SharedT :=
 Nat.rec (fun _ _=>none) (fun _ ih s t=>match through t with
  | true=>some s
  | false=>match PySem.W.Fast.tw6613529449190102663 n₀ ann t with
    | false=>none
    | true=>match PySem.W.Fast.tw10156331382660048174 (PySem.W.Fast.tw11892475500146522536 treeTable) p w s t with
      | some (s',t')=>ih s' t'
      | none=>none) n
theorem w2a:runT treeTable=runQ:=by
 unfold runT runQ
 simp only[<-PySem.W.Fast.te6613529449190102663,<-PySem.W.Fast.te10156331382660048174,<-PySem.W.Fast.te11892475500146522536]
 try rfl
noncomputable def looseOf(p:Program):List Str:=(p.main.scope.names.map (·.1)).filter fun x=>!(startupNames.contains x||x=="law")
noncomputable def seeQ(p q:Program)(loose:List Str)(Xt:Shared->Bool){α:Type}(Yf:Shared->α)(w:World)(s:Shared) :=
 (staticsOk (importedModules p.main.body) (boot_heap w.params) s.heap&&namesBound p s.heap&&gensDone s&&laidKept (boot_heap w.params) s.heap,PySem.W.Fast.tw4187177175401517315 q loose (importedModules p.main.body) Xt true s,Yf s)
theorem w1s:@see=@seeQ:=by
 unfold see seeQ
 rw[PySem.W.Fast.te4187177175401517315]
noncomputable def s0(w:World)(os:OsState):SharedT:=⟨B w.params,11,{},#[],boot_drawn,boot_toks,os⟩
theorem left_q{p q:Program}{loose:List Str}{Xt:Shared->Bool}{α:Type}{Yf:Shared->α}{Ya:World->α}{N:Nat}(e:opening p=plainProg p.main.scope.names)(hN:Nat.ble 600 N=true)(f:∀s,fenceModules? p s=some s)
 (big:∀(w:World) (os:OsState),(runQ p w 11 (some (.ref 6)) N (s0 w os) (topStub p)).map (fun s=>seeQ p q loose Xt Yf w s.abs)=some (true,openGood q loose,Ya w)):LeftO p q loose Xt Yf Ya N :=
 w2w hB e hN f hS (by rw[w2a,w1s];exact big)
noncomputable def fO(x:Str)(st:Stmt)(pm cd:Value):Obj:=⟨.type "function",none,.func (fnOf x x (y3v st) (z6y st) (z0h st) .none .none .none pm none cd .none),#[]⟩
theorem fun_at{K:Frag}{x:Str}{st:Stmt}{a c:Addr}{pm:Value}(l:K.lookup a=some (fO x st pm (.ref c)))(e:codeIn K (.ref c) x=true):Fun K x x st a (fnOf x x (y3v st) (z6y st) (z0h st) .none .none .none pm none (.ref c) .none) :=
 ⟨⟨_,_,_,_,_,_,_,_,_,rfl,l,e⟩,by unfold keepIn;dsimp only;rw[l];rfl⟩
noncomputable def en(P:Params)(x:Str)(t:Tok)(v:Value):DictEntry:=⟨PyData.keyHash P x,.str x t,v⟩
noncomputable def cO(x:Str)(t:Nat)(line argc:Int)(a b c d e:Value)(u:Nat):Obj:=⟨.type "code",none,.fields [.str x t,.str x (t+1),.str "/claim/cut.py" (t+2),.int line 0,.int argc 0,.int 0 0,.int 0 0,.int 3 0,a,.bool true,.int 181 0,b,.none,c,d,e,.int u 0,.int line 0,.str "/claim/cut.py" (u+1)].toArray,#[]⟩
end HQ
namespace L3
open PySem PySem.Spec PyProof.Rows L2
structure Ev where
 P:Program
 w:World
 K:PySem.W.Frag
 mg:Str->Option Value
 base:Heap
noncomputable def Own(E:Ev)(x:Str)(st:Stmt)(ps:List Str):Prop:=∃(a:Addr) (d:FuncData),Fun E.K x x st a d/\y4l E.K d ps []/\E.mg x=some (.ref a)
noncomputable def HasD(E:Ev)(k:Nat)(x:Str)(ps:List Str)(φ:List D->R D):Prop:=∃(a:Addr) (d:FuncData),FnD E.P E.w E.K E.mg E.base k a d ps φ/\E.mg x=some (.ref a)
noncomputable def HasF(E:Ev)(k:Nat)(x:Str)(ps:List Str)(φ:List D->R (List D)):Prop:=∃(a:Addr) (d:FuncData),FnF E.P E.w E.K E.mg E.base k a d ps φ/\E.mg x=some (.ref a)
section
variable {E:Ev}{k k':Nat}{x:Str}{st:Stmt}{N ps:List Str}
theorem HasD.up{φ:List D->R D}(h:HasD E k x ps φ)(hk:k<=k'):∃(a:Addr) (d:FuncData),FnD E.P E.w E.K E.mg E.base k' a d ps φ/\E.mg x=some (.ref a):=let ⟨a,d,f,m⟩:=h;⟨a,d,f.mono hk,m⟩
theorem HasF.up{φ:List D->R (List D)}(h:HasF E k x ps φ)(hk:k<=k'):∃(a:Addr) (d:FuncData),FnF E.P E.w E.K E.mg E.base k' a d ps φ/\E.mg x=some (.ref a):=let ⟨a,d,f,m⟩:=h;⟨a,d,f.mono hk,m⟩
theorem mkD{n m:Nat}{g:G->R Fl}(u:Own E x st ps)(S:FnScope N ps (z0h st))(hn:ps.length=n)(hm:N.length=m)
 (hbody:∀(f:Addr) (cdv:Value) (A:Around) (outer:List Env) (s:Shared) (H:Hp) (Ex:XK),Room k (z7j E.P E.w E.K E.mg E.base N x st f cdv A outer s H Ex).A->(z7j E.P E.w E.K E.mg E.base N x st f cdv A outer s H Ex).A.units+64<cLine->N.Nodup->PQs (z7j E.P E.w E.K E.mg E.base N x st f cdv A outer s H Ex) (z6y st) g):HasD E (k+1) x ps (fnC n m g):=by
 subst hn hm
 obtain⟨a,d,Fu,hb,mm⟩:=u
 exact⟨a,d,x1a Fu S hb (fun ds h=>z8u h) fun cdv A outer s H Ex hr=>⟨g,hbody a cdv A outer s H Ex hr hr.units S.nd,fun ds hne=>(y4y (z8u hne)).symm⟩,mm⟩
theorem mkF{n m:Nat}{g:G->R Fl}(u:Own E x st ps)(S:FnScope N ps (z0h st))(hn:ps.length=n)(hm:N.length=m)
 (hbody:∀(f:Addr) (cdv:Value) (A:Around) (outer:List Env) (s:Shared) (H:Hp) (Ex:XK),Room k (z7j E.P E.w E.K E.mg E.base N x st f cdv A outer s H Ex).A->(z7j E.P E.w E.K E.mg E.base N x st f cdv A outer s H Ex).A.units+64<cLine->N.Nodup->PQs (z7j E.P E.w E.K E.mg E.base N x st f cdv A outer s H Ex) (z6y st) g):HasF E (k+1) x ps (fnF n m g):=by
 subst hn hm
 obtain⟨a,d,Fu,hb,mm⟩:=u
 exact⟨a,d,w5v Fu S hb (fun ds h=>x6e h) fun cdv A outer s H Ex hr=>⟨g,hbody a cdv A outer s H Ex hr hr.units S.nd,fun ds hne=>(w1b (x6e hne)).symm⟩,mm⟩
end
theorem scm{N P:List Str}{sc:Scope}(h:sc.kind = .function/\sc.isCoroutine=false/\sc.isGenerator=false/\N.Nodup/\N.take P.length=P/\(∀x∈P,sc.names.lookup x=some .local∨sc.names.lookup x=some .cell)/\∀y∈sc.names,y.2 ≠ .free):FnScope N P sc:=⟨h.1,h.2.1,h.2.2.1,h.2.2.2.1,h.2.2.2.2.1,h.2.2.2.2.2.1,h.2.2.2.2.2.2⟩
theorem iss{α:Type}{o:Option α}{c:α}(h:o=some c):o.isSome=true:=by rw[h];rfl
theorem lawD{P:Program}{w:World}{K:PySem.W.Frag}{mg:Str->Option Value}{k:Nat}{a:Addr}{d:FuncData}{φ:List D->R D}{st:Stmt}(_U:Fun K "law" "law" st a d)(hB:∀(s:Shared) (v:Value),BindsTo s d ⟨[v],[]⟩ [("script",v)])(F:∀base:Heap,K.In base->base.Ns mainGlobals mg->FnD P w K mg base k a d ["script"] φ) :
 ∃fd:FuncData,(∀(s:Shared) (v:Value),BindsTo s fd ⟨[v],[]⟩ [("script",v)])/\∀base:Heap,K.In base->base.Ns mainGlobals mg->FnOk P w K mg base (CXE P w) k a fd ["script"] (spN φ K):=⟨d,hB,fun base h1 h2=>(F base h1 h2).okN⟩
end L3
namespace Row
open PySem PySem.Spec PyProof.Rows L2 L3
noncomputable def top(i:Nat):Stmt:=PySem.Challenge.pw_longrounds_k72_never_come_to.main.body.getD i (.Pass ⟨0,0,0,0⟩)
noncomputable abbrev s_on:Stmt:=top 5
theorem w6f:FnScope ["P","n"] ["P","n"] (z0h s_on):=scm (by decide +kernel)
noncomputable abbrev s_H:Stmt:=top 7
theorem sc_H:FnScope ["P","form","stand","many"] ["P","form","stand"] (z0h s_H):=scm (by decide +kernel)
noncomputable abbrev s_F:Stmt:=top 8
theorem sc_F:FnScope ["P","table","stand"] ["P","table","stand"] (z0h s_F):=scm (by decide +kernel)
noncomputable abbrev s_x:Stmt:=top 48
theorem sc_x:FnScope ["P","table","stand","size","found","one"] ["P","table","stand","size","found"] (z0h s_x):=scm (by decide +kernel)
noncomputable abbrev s_G:Stmt:=top 9
theorem sc_G:FnScope ["width","place"] ["width","place"] (z0h s_G):=scm (by decide +kernel)
noncomputable abbrev s_J:Stmt:=top 10
theorem sc_J:FnScope ["many"] ["many"] (z0h s_J):=scm (by decide +kernel)
noncomputable abbrev s_q:Stmt:=top 11
theorem sc_q:FnScope ["form","table","place"] ["form","table","place"] (z0h s_q):=scm (by decide +kernel)
noncomputable abbrev s_p:Stmt:=top 12
theorem sc_p:FnScope ["P","table","form","many","numbers"] ["P","table","form"] (z0h s_p):=scm (by decide +kernel)
noncomputable abbrev s_M:Stmt:=top 13
theorem sc_M:FnScope ["P","one","other"] ["P","one","other"] (z0h s_M):=scm (by decide +kernel)
noncomputable abbrev s_D:Stmt:=top 16
theorem sc_D:FnScope ["P","table","n","rungs","rung","figure"] ["P","table","n"] (z0h s_D):=scm (by decide +kernel)
noncomputable abbrev s_t:Stmt:=top 17
theorem sc_t:FnScope ["rungs","n"] ["rungs","n"] (z0h s_t):=scm (by decide +kernel)
noncomputable abbrev s_E:Stmt:=top 18
theorem sc_E:FnScope ["P","table","n","whole","rung"] ["P","table","n"] (z0h s_E):=scm (by decide +kernel)
noncomputable abbrev s_k:Stmt:=top 49
theorem sc_k:FnScope ["P","there","r","base","goal","near","far","m","leap","seen","one"] ["P","there","r","base","goal","near","far"] (z0h s_k):=scm (by decide +kernel)
noncomputable abbrev s_s:Stmt:=top 40
theorem sc_s:FnScope ["script","k"] ["script","k"] (z0h s_s):=scm (by decide +kernel)
noncomputable abbrev s_h:Stmt:=top 42
theorem sc_h:FnScope ["cell","P","size","out","k"] ["cell","P","size"] (z0h s_h):=scm (by decide +kernel)
noncomputable abbrev s_m:Stmt:=top 41
theorem sc_m:FnScope ["cell","n"] ["cell"] (z0h s_m):=scm (by decide +kernel)
noncomputable abbrev s_j:Stmt:=top 44
theorem sc_j:FnScope ["cell"] ["cell"] (z0h s_j):=scm (by decide +kernel)
noncomputable abbrev s_w:Stmt:=top 45
theorem sc_w:FnScope ["cell","more","P","many","x","form"] ["cell","more","P","many"] (z0h s_w):=scm (by decide +kernel)
noncomputable abbrev s_n:Stmt:=top 46
theorem sc_n:FnScope ["cells","P","many","agains","items","deep","k","few","level"] ["cells","P","many","agains"] (z0h s_n):=scm (by decide +kernel)
noncomputable abbrev s_g:Stmt:=top 47
theorem sc_g:FnScope ["script","P","many","items"] ["script","P","many"] (z0h s_g):=scm (by decide +kernel)
noncomputable abbrev s_r:Stmt:=top 43
theorem sc_r:FnScope ["found"] ["found"] (z0h s_r):=scm (by decide +kernel)
noncomputable abbrev s_C:Stmt:=top 34
theorem sc_C:FnScope ["P","table","stand","count","stands","turn"] ["P","table","stand","count"] (z0h s_C):=scm (by decide +kernel)
noncomputable abbrev s_l:Stmt:=top 36
theorem sc_l:FnScope ["P","table","m","r","stand","leap"] ["P","table","m","r","stand"] (z0h s_l):=scm (by decide +kernel)
noncomputable abbrev s_o:Stmt:=top 35
theorem sc_o:FnScope ["r","m"] ["r"] (z0h s_o):=scm (by decide +kernel)
noncomputable abbrev s_i:Stmt:=top 37
theorem sc_i:FnScope ["P","table","t","r","entry","goal","m","near","far","leap","stand"] ["P","table","t","r","entry","goal"] (z0h s_i):=scm (by decide +kernel)
noncomputable abbrev s_A:Stmt:=top 27
theorem sc_A:FnScope ["P","rungs","n","stand","rung"] ["P","rungs","n","stand"] (z0h s_A):=scm (by decide +kernel)
noncomputable abbrev s_b:Stmt:=top 24
theorem sc_b:FnScope ["P","many","parts","powers","k","longer"] ["P","many"] (z0h s_b):=scm (by decide +kernel)
noncomputable abbrev s_f:Stmt:=top 4
theorem sc_f:FnScope ["n","divisor"] ["n"] (z0h s_f):=scm (by decide +kernel)
noncomputable abbrev s_d:Stmt:=top 22
theorem sc_d:FnScope ["n","divisor"] ["n","divisor"] (z0h s_d):=scm (by decide +kernel)
noncomputable abbrev s_u:Stmt:=top 23
theorem sc_u:FnScope ["n","primes"] ["n"] (z0h s_u):=scm (by decide +kernel)
noncomputable abbrev s_a:Stmt:=top 26
theorem sc_a:FnScope ["parts","found","part"] ["parts"] (z0h s_a):=scm (by decide +kernel)
noncomputable abbrev s_B:Stmt:=top 25
theorem sc_B:FnScope ["parts","whole","part"] ["parts"] (z0h s_B):=scm (by decide +kernel)
noncomputable abbrev s_v:Stmt:=top 28
theorem sc_v:FnScope ["P","rungs","n","primes","stand","prime"] ["P","rungs","n","primes","stand"] (z0h s_v):=scm (by decide +kernel)
noncomputable abbrev s_L:Stmt:=top 29
theorem sc_L:FnScope ["P","rungs","r","stand","t"] ["P","rungs","r","stand"] (z0h s_L):=scm (by decide +kernel)
noncomputable abbrev s_c:Stmt:=top 30
theorem sc_c:FnScope ["P","table","stand","many","parts","whole","primes","rungs","r"] ["P","table","stand"] (z0h s_c):=scm (by decide +kernel)
noncomputable abbrev s_z:Stmt:=top 14
theorem sc_z:FnScope ["many","x","form","forms"] ["many","x","form"] (z0h s_z):=scm (by decide +kernel)
noncomputable abbrev s_y:Stmt:=top 20
theorem sc_y:FnScope ["P","many","items","whole","item"] ["P","many","items"] (z0h s_y):=scm (by decide +kernel)
noncomputable abbrev s_e:Stmt:=top 19
theorem sc_e:FnScope ["P","many","item"] ["P","many","item"] (z0h s_e):=scm (by decide +kernel)
noncomputable abbrev s_I:Stmt:=top 38
theorem sc_I:FnScope ["P","many","items","stand","goal","table","told","t","r","ahead"] ["P","many","items","stand","goal"] (z0h s_I):=scm (by decide +kernel)
noncomputable abbrev s_K:Stmt:=top 31
theorem sc_K:FnScope ["P","many","items","stand"] ["P","many","items","stand"] (z0h s_K):=scm (by decide +kernel)
noncomputable abbrev w1x:Stmt:=top 50
theorem w0g:FnScope ["script","P","many","items","stand","goal","t","r","some","there","found","good","base","turn","led"] ["script"] (z0h w1x):=scm (by decide +kernel)
noncomputable def KK(P:Params):PySem.W.Frag :=
 (nat_lit 3,⟨(.type "dict"),none,.dict (HQ.en P "__name__" 165 (.str "law_longrounds_k72_never_come_to" 513)::HQ.en P "__doc__" 166 .none::HQ.en P "__package__" 167 .none::HQ.en P "__loader__" 168 (.builtin "__main__.__loader__#opaque")::HQ.en P "__spec__" 169 .none::HQ.en P "__annotations__" 170 (.ref 6)::HQ.en P "__builtins__" 171 (.ref 4)::HQ.en P "__file__" 173 (.str "/claim/cut.py" 172)::HQ.en P "__cached__" 174 .none::HQ.en P "LongError" 206 (.ref 24)::HQ.en P "TooLong" 222 (.ref 37)::HQ.en P "least_divisor" 232 (.ref 46)::HQ.en P "on" 240 (.ref 53)::HQ.en P "worth" 248 (.ref 58)::HQ.en P "turned" 254 (.ref 63)::HQ.en P "one_at" 260 (.ref 68)::HQ.en P "idle" 266 (.ref 73)::HQ.en P "column_sum" 272 (.ref 78)::HQ.en P "form_ahead" 278 (.ref 83)::HQ.en P "then" 284 (.ref 88)::HQ.en P "setting" 294 (.ref 95)::HQ.en P "ladder" 308 (.ref 102)::HQ.en P "rungs_for" 314 (.ref 107)::HQ.en P "rounds" 325 (.ref 114)::HQ.en P "table_of_item" 334 (.ref 121)::HQ.en P "table_of" 345 (.ref 128)::HQ.en P "without_prime" 355 (.ref 135)::HQ.en P "primes_of" 363 (.ref 142)::HQ.en P "parts_of_rings" 375 (.ref 149)::HQ.en P "product" 384 (.ref 156)::HQ.en P "primes_of_parts" 393 (.ref 163)::HQ.en P "climbed" 404 (.ref 170)::HQ.en P "shortest" 416 (.ref 177)::HQ.en P "tail" 427 (.ref 184)::HQ.en P "ring_of_table" 433 (.ref 189)::HQ.en P "ring" 443 (.ref 196)::HQ.en P "LONGEST_RING" 447 (.int 10000 446)::HQ.en P "walked" 459 (.ref 203)::HQ.en P "root_above" 467 (.ref 210)::HQ.en P "far_stands" 479 (.ref 217)::HQ.en P "on_or_apart" 496 (.ref 224)::HQ.en P "reach" 512 (.ref 231)::HQ.en P "_law_cell" 522 (.ref 238)::HQ.en P "_law_prime" 528 (.ref 243)::HQ.en P "_law_digits" 539 (.ref 250)::HQ.en P "_law_whole" 546 (.ref 257)::HQ.en P "_law_count" 553 (.ref 264)::HQ.en P "_law_set" 565 (.ref 271)::HQ.en P "_law_items" 580 (.ref 278)::HQ.en P "_law_program" 590 (.ref 285)::HQ.en P "_law_row" 602 (.ref 292)::HQ.en P "_law_apart" 608 (.ref 297)::HQ.en P "law" 614 (.ref 302)::[]).toArray 53,#[]⟩) ::
 (nat_lit 23,⟨(.type "dict"),none,.dict (HQ.en P "__module__" 196 (.str "longrounds.errors" 187)::HQ.en P "__firstlineno__" 200 (.int 2 199)::HQ.en P "__static_attributes__" 201 (.ref 22)::HQ.en P "__weakref__" 203 (.ref 25)::HQ.en P "__doc__" 204 .none::[]).toArray 3,#[]⟩) ::
 (nat_lit 24,⟨(.type "type"),none,.cls { name:="LongError",bases:=[(.type "ValueError")],mro:=[(.ref 24),(.type "ValueError"),(.type "Exception"),(.type "BaseException"),(.type "object")],ns:=23,qualname:="LongError",hasDict:=true,slotNames:=[],subclasses:=[(.ref 37)],abstract:=false,collection:=none,hasDel:=false },([some (.ref 15),none,some (.str "LongError" 189),some (.str "LongError" 197),some (.builtin "ValueError.__new__"),some (.bool true)]).toArray⟩) ::
 (nat_lit 36,⟨(.type "dict"),none,.dict (HQ.en P "__module__" 214 (.str "longrounds.errors" 187)::HQ.en P "__firstlineno__" 218 (.int 4 217)::HQ.en P "__static_attributes__" 219 (.ref 35)::HQ.en P "__doc__" 220 .none::[]).toArray 2,#[]⟩) ::
 (nat_lit 37,⟨(.type "type"),none,.cls { name:="TooLong",bases:=[(.ref 24)],mro:=[(.ref 37),(.ref 24),(.type "ValueError"),(.type "Exception"),(.type "BaseException"),(.type "object")],ns:=36,qualname:="TooLong",hasDict:=true,slotNames:=[],subclasses:=[],abstract:=false,collection:=none,hasDel:=false },([some (.ref 28),none,some (.str "TooLong" 207),some (.str "TooLong" 215),some (.builtin "ValueError.__new__"),some (.bool true)]).toArray⟩) ::
 (nat_lit 45,HQ.cO "least_divisor" 225 7 1 (.ref 40) (.ref 41) (.ref 42) (.ref 43) (.ref 44) 230) ::
 (nat_lit 46,HQ.fO "least_divisor" (top 4) (.str "longrounds.numbers" 223) (.ref 45)) ::
 (nat_lit 52,HQ.cO "on" 233 14 2 (.ref 47) (.ref 48) (.ref 49) (.ref 50) (.ref 51) 238) ::
 (nat_lit 53,HQ.fO "on" (top 5) (.str "longrounds.numbers" 223) (.ref 52)) ::
 (nat_lit 57,HQ.cO "worth" 243 17 3 (.ref 54) (.ref 55) .none .none (.ref 56) 246) ::
 (nat_lit 58,HQ.fO "worth" (top 7) (.str "longrounds.tables" 241) (.ref 57)) ::
 (nat_lit 62,HQ.cO "turned" 249 20 3 (.ref 59) (.ref 60) .none .none (.ref 61) 252) ::
 (nat_lit 63,HQ.fO "turned" (top 8) (.str "longrounds.tables" 241) (.ref 62)) ::
 (nat_lit 67,HQ.cO "one_at" 255 22 2 (.ref 64) (.ref 65) .none .none (.ref 66) 258) ::
 (nat_lit 68,HQ.fO "one_at" (top 9) (.str "longrounds.tables" 241) (.ref 67)) ::
 (nat_lit 72,HQ.cO "idle" 261 24 1 (.ref 69) (.ref 70) .none .none (.ref 71) 264) ::
 (nat_lit 73,HQ.fO "idle" (top 10) (.str "longrounds.tables" 241) (.ref 72)) ::
 (nat_lit 77,HQ.cO "column_sum" 267 26 3 (.ref 74) (.ref 75) .none .none (.ref 76) 270) ::
 (nat_lit 78,HQ.fO "column_sum" (top 11) (.str "longrounds.tables" 241) (.ref 77)) ::
 (nat_lit 82,HQ.cO "form_ahead" 273 28 3 (.ref 79) (.ref 80) .none .none (.ref 81) 276) ::
 (nat_lit 83,HQ.fO "form_ahead" (top 12) (.str "longrounds.tables" 241) (.ref 82)) ::
 (nat_lit 87,HQ.cO "then" 279 33 3 (.ref 84) (.ref 85) .none .none (.ref 86) 282) ::
 (nat_lit 88,HQ.fO "then" (top 13) (.str "longrounds.tables" 241) (.ref 87)) ::
 (nat_lit 94,HQ.cO "setting" 285 35 3 (.ref 89) (.ref 90) (.ref 91) (.ref 92) (.ref 93) 292) ::
 (nat_lit 95,HQ.fO "setting" (top 14) (.str "longrounds.tables" 241) (.ref 94)) ::
 (nat_lit 101,HQ.cO "ladder" 297 40 3 (.ref 96) (.ref 97) (.ref 98) (.ref 99) (.ref 100) 306) ::
 (nat_lit 102,HQ.fO "ladder" (top 16) (.str "longrounds.making" 295) (.ref 101)) ::
 (nat_lit 106,HQ.cO "rungs_for" 309 47 2 (.ref 103) (.ref 104) .none .none (.ref 105) 312) ::
 (nat_lit 107,HQ.fO "rungs_for" (top 17) (.str "longrounds.making" 295) (.ref 106)) ::
 (nat_lit 113,HQ.cO "rounds" 315 49 3 (.ref 108) (.ref 109) (.ref 110) (.ref 111) (.ref 112) 323) ::
 (nat_lit 114,HQ.fO "rounds" (top 18) (.str "longrounds.making" 295) (.ref 113)) ::
 (nat_lit 120,HQ.cO "table_of_item" 326 54 3 (.ref 115) (.ref 116) (.ref 117) (.ref 118) (.ref 119) 332) ::
 (nat_lit 121,HQ.fO "table_of_item" (top 19) (.str "longrounds.making" 295) (.ref 120)) ::
 (nat_lit 127,HQ.cO "table_of" 335 58 3 (.ref 122) (.ref 123) (.ref 124) (.ref 125) (.ref 126) 343) ::
 (nat_lit 128,HQ.fO "table_of" (top 20) (.str "longrounds.making" 295) (.ref 127)) ::
 (nat_lit 134,HQ.cO "without_prime" 348 64 2 (.ref 129) (.ref 130) (.ref 131) (.ref 132) (.ref 133) 353) ::
 (nat_lit 135,HQ.fO "without_prime" (top 22) (.str "longrounds.rings" 346) (.ref 134)) ::
 (nat_lit 141,HQ.cO "primes_of" 356 68 1 (.ref 136) (.ref 137) (.ref 138) (.ref 139) (.ref 140) 361) ::
 (nat_lit 142,HQ.fO "primes_of" (top 23) (.str "longrounds.rings" 346) (.ref 141)) ::
 (nat_lit 148,HQ.cO "parts_of_rings" 364 74 2 (.ref 143) (.ref 144) (.ref 145) (.ref 146) (.ref 147) 373) ::
 (nat_lit 149,HQ.fO "parts_of_rings" (top 24) (.str "longrounds.rings" 346) (.ref 148)) ::
 (nat_lit 155,HQ.cO "product" 376 85 1 (.ref 150) (.ref 151) (.ref 152) (.ref 153) (.ref 154) 382) ::
 (nat_lit 156,HQ.fO "product" (top 25) (.str "longrounds.rings" 346) (.ref 155)) ::
 (nat_lit 162,HQ.cO "primes_of_parts" 385 90 1 (.ref 157) (.ref 158) (.ref 159) (.ref 160) (.ref 161) 391) ::
 (nat_lit 163,HQ.fO "primes_of_parts" (top 26) (.str "longrounds.rings" 346) (.ref 162)) ::
 (nat_lit 169,HQ.cO "climbed" 394 95 4 (.ref 164) (.ref 165) (.ref 166) (.ref 167) (.ref 168) 402) ::
 (nat_lit 170,HQ.fO "climbed" (top 27) (.str "longrounds.rings" 346) (.ref 169)) ::
 (nat_lit 176,HQ.cO "shortest" 405 99 5 (.ref 171) (.ref 172) (.ref 173) (.ref 174) (.ref 175) 414) ::
 (nat_lit 177,HQ.fO "shortest" (top 28) (.str "longrounds.rings" 346) (.ref 176)) ::
 (nat_lit 183,HQ.cO "tail" 417 104 4 (.ref 178) (.ref 179) (.ref 180) (.ref 181) (.ref 182) 425) ::
 (nat_lit 184,HQ.fO "tail" (top 29) (.str "longrounds.rings" 346) (.ref 183)) ::
 (nat_lit 188,HQ.cO "ring_of_table" 428 110 3 (.ref 185) (.ref 186) .none .none (.ref 187) 431) ::
 (nat_lit 189,HQ.fO "ring_of_table" (top 30) (.str "longrounds.rings" 346) (.ref 188)) ::
 (nat_lit 195,HQ.cO "ring" 434 118 4 (.ref 190) (.ref 191) (.ref 192) (.ref 193) (.ref 194) 441) ::
 (nat_lit 196,HQ.fO "ring" (top 31) (.str "longrounds.rings" 346) (.ref 195)) ::
 (nat_lit 202,HQ.cO "walked" 448 122 4 (.ref 197) (.ref 198) (.ref 199) (.ref 200) (.ref 201) 457) ::
 (nat_lit 203,HQ.fO "walked" (top 34) (.str "longrounds.reaching" 444) (.ref 202)) ::
 (nat_lit 209,HQ.cO "root_above" 460 128 1 (.ref 204) (.ref 205) (.ref 206) (.ref 207) (.ref 208) 465) ::
 (nat_lit 210,HQ.fO "root_above" (top 35) (.str "longrounds.reaching" 444) (.ref 209)) ::
 (nat_lit 216,HQ.cO "far_stands" 468 133 5 (.ref 211) (.ref 212) (.ref 213) (.ref 214) (.ref 215) 477) ::
 (nat_lit 217,HQ.fO "far_stands" (top 36) (.str "longrounds.reaching" 444) (.ref 216)) ::
 (nat_lit 223,HQ.cO "on_or_apart" 480 136 6 (.ref 218) (.ref 219) (.ref 220) (.ref 221) (.ref 222) 494) ::
 (nat_lit 224,HQ.fO "on_or_apart" (top 37) (.str "longrounds.reaching" 444) (.ref 223)) ::
 (nat_lit 230,HQ.cO "reach" 497 144 5 (.ref 225) (.ref 226) (.ref 227) (.ref 228) (.ref 229) 510) ::
 (nat_lit 231,HQ.fO "reach" (top 38) (.str "longrounds.reaching" 444) (.ref 230)) ::
 (nat_lit 237,HQ.cO "_law_cell" 515 158 2 (.ref 232) (.ref 233) (.ref 234) (.ref 235) (.ref 236) 520) ::
 (nat_lit 238,HQ.fO "_law_cell" (top 40) (.str "law_longrounds_k72_never_come_to" 513) (.ref 237)) ::
 (nat_lit 242,HQ.cO "_law_prime" 523 162 1 (.ref 239) (.ref 240) .none .none (.ref 241) 526) ::
 (nat_lit 243,HQ.fO "_law_prime" (top 41) (.str "law_longrounds_k72_never_come_to" 513) (.ref 242)) ::
 (nat_lit 249,HQ.cO "_law_digits" 529 169 3 (.ref 244) (.ref 245) (.ref 246) (.ref 247) (.ref 248) 537) ::
 (nat_lit 250,HQ.fO "_law_digits" (top 42) (.str "law_longrounds_k72_never_come_to" 513) (.ref 249)) ::
 (nat_lit 256,HQ.cO "_law_whole" 540 175 1 (.ref 251) (.ref 252) (.ref 253) (.ref 254) (.ref 255) 544) ::
 (nat_lit 257,HQ.fO "_law_whole" (top 43) (.str "law_longrounds_k72_never_come_to" 513) (.ref 256)) ::
 (nat_lit 263,HQ.cO "_law_count" 547 177 1 (.ref 258) (.ref 259) (.ref 260) (.ref 261) (.ref 262) 551) ::
 (nat_lit 264,HQ.fO "_law_count" (top 44) (.str "law_longrounds_k72_never_come_to" 513) (.ref 263)) ::
 (nat_lit 270,HQ.cO "_law_set" 554 179 4 (.ref 265) (.ref 266) (.ref 267) (.ref 268) (.ref 269) 563) ::
 (nat_lit 271,HQ.fO "_law_set" (top 45) (.str "law_longrounds_k72_never_come_to" 513) (.ref 270)) ::
 (nat_lit 277,HQ.cO "_law_items" 566 185 4 (.ref 272) (.ref 273) (.ref 274) (.ref 275) (.ref 276) 578) ::
 (nat_lit 278,HQ.fO "_law_items" (top 46) (.str "law_longrounds_k72_never_come_to" 513) (.ref 277)) ::
 (nat_lit 284,HQ.cO "_law_program" 581 199 3 (.ref 279) (.ref 280) (.ref 281) (.ref 282) (.ref 283) 588) ::
 (nat_lit 285,HQ.fO "_law_program" (top 47) (.str "law_longrounds_k72_never_come_to" 513) (.ref 284)) ::
 (nat_lit 291,HQ.cO "_law_row" 591 204 5 (.ref 286) (.ref 287) (.ref 288) (.ref 289) (.ref 290) 600) ::
 (nat_lit 292,HQ.fO "_law_row" (top 48) (.str "law_longrounds_k72_never_come_to" 513) (.ref 291)) ::
 (nat_lit 296,HQ.cO "_law_apart" 603 212 7 (.ref 293) (.ref 294) .none .none (.ref 295) 606) ::
 (nat_lit 297,HQ.fO "_law_apart" (top 49) (.str "law_longrounds_k72_never_come_to" 513) (.ref 296)) ::
 (nat_lit 301,HQ.cO "law" 609 225 1 (.ref 298) (.ref 299) .none .none (.ref 300) 612) ::
 (nat_lit 302,HQ.fO "law" (top 50) (.str "law_longrounds_k72_never_come_to" 513) (.ref 301))::[]
noncomputable def ks:List Addr:=[3,23,24,36,37,45,46,52,53,57,58,62,63,67,68,72,73,77,78,82,83,87,88,94,95,101,102,106,107,113,114,120,121,127,128,134,135,141,142,148,149,155,156,162,163,169,170,176,177,183,184,188,189,195,196,202,203,209,210,216,217,223,224,230,231,237,238,242,243,249,250,256,257,263,264,270,271,277,278,284,285,291,292,296,297,301,302]
structure Bi (E:Ev):Prop where
 ba:E.mg "all"=none
 bb:E.mg "any"=none
 bc:E.mg "bool"=none
 bd:E.mg "enumerate"=none
 be:E.mg "int"=none
 bf:E.mg "isinstance"=none
 bg:E.mg "len"=none
 bh:E.mg "list"=none
 bi:E.mg "max"=none
 bj:E.mg "min"=none
 bk:E.mg "range"=none
 bl:E.mg "set"=none
 bm:E.mg "sorted"=none
 bn:E.mg "sum"=none
 bo:E.mg "tuple"=none
 bp:E.mg "LONGEST_RING"=some (.int 10000 446)
 bq:E.mg "TooLong"=some (.ref 37)
 br:E.mg "LongError"=some (.ref 24)
 bs:XOk E.K E.mg .tooLong 37
section
variable {E:Ev}(B:Bi E)
noncomputable abbrev h_on (E:Ev):Prop:=HasD E 1 "on" ["P","n"] c_on
noncomputable abbrev h_H (E:Ev):Prop:=HasD E 2 "worth" ["P","form","stand"] c_H
noncomputable abbrev h_F (E:Ev):Prop:=HasD E 3 "turned" ["P","table","stand"] c_F
noncomputable abbrev h_x (E:Ev):Prop:=HasD E 4 "_law_row" ["P","table","stand","size","found"] c_x
noncomputable abbrev h_G (E:Ev):Prop:=HasD E 1 "one_at" ["width","place"] c_G
noncomputable abbrev h_J (E:Ev):Prop:=HasD E 2 "idle" ["many"] c_J
noncomputable abbrev h_q (E:Ev):Prop:=HasD E 1 "column_sum" ["form","table","place"] c_q
noncomputable abbrev h_p (E:Ev):Prop:=HasD E 2 "form_ahead" ["P","table","form"] c_p
noncomputable abbrev h_M (E:Ev):Prop:=HasD E 3 "then" ["P","one","other"] c_M
noncomputable abbrev h_D (E:Ev):Prop:=HasF E 4 "ladder" ["P","table","n"] c_D
noncomputable abbrev h_t (E:Ev):Prop:=HasF E 1 "rungs_for" ["rungs","n"] c_t
noncomputable abbrev h_E (E:Ev):Prop:=HasD E 5 "rounds" ["P","table","n"] c_E
noncomputable abbrev h_k (E:Ev):Prop:=HasD E 6 "_law_apart" ["P","there","r","base","goal","near","far"] c_k
noncomputable abbrev h_s (E:Ev):Prop:=HasD E 1 "_law_cell" ["script","k"] c_s
noncomputable abbrev h_h (E:Ev):Prop:=HasD E 1 "_law_digits" ["cell","P","size"] c_h
noncomputable abbrev h_m (E:Ev):Prop:=HasD E 1 "_law_prime" ["cell"] c_m
noncomputable abbrev h_j (E:Ev):Prop:=HasD E 1 "_law_count" ["cell"] c_j
noncomputable abbrev h_w (E:Ev):Prop:=HasD E 2 "_law_set" ["cell","more","P","many"] c_w
noncomputable abbrev h_n (E:Ev):Prop:=HasD E 3 "_law_items" ["cells","P","many","agains"] c_n
noncomputable abbrev h_g (E:Ev):Prop:=HasD E 4 "_law_program" ["script","P","many"] c_g
noncomputable abbrev h_r (E:Ev):Prop:=HasD E 1 "_law_whole" ["found"] c_r
noncomputable abbrev h_C (E:Ev):Prop:=HasF E 4 "walked" ["P","table","stand","count"] c_C
noncomputable abbrev h_l (E:Ev):Prop:=HasF E 6 "far_stands" ["P","table","m","r","stand"] c_l
noncomputable abbrev h_o (E:Ev):Prop:=HasD E 1 "root_above" ["r"] c_o
noncomputable abbrev h_i (E:Ev):Prop:=HasD E 7 "on_or_apart" ["P","table","t","r","entry","goal"] c_i
noncomputable abbrev h_A (E:Ev):Prop:=HasD E 4 "climbed" ["P","rungs","n","stand"] c_A
noncomputable abbrev h_b (E:Ev):Prop:=HasF E 1 "parts_of_rings" ["P","many"] c_b
noncomputable abbrev h_f (E:Ev):Prop:=HasD E 1 "least_divisor" ["n"] c_f
noncomputable abbrev h_d (E:Ev):Prop:=HasD E 1 "without_prime" ["n","divisor"] c_d
noncomputable abbrev h_u (E:Ev):Prop:=HasF E 2 "primes_of" ["n"] c_u
noncomputable abbrev h_a (E:Ev):Prop:=HasF E 3 "primes_of_parts" ["parts"] c_a
noncomputable abbrev h_B (E:Ev):Prop:=HasD E 1 "product" ["parts"] c_B
noncomputable abbrev h_v (E:Ev):Prop:=HasD E 5 "shortest" ["P","rungs","n","primes","stand"] c_v
noncomputable abbrev h_L (E:Ev):Prop:=HasD E 5 "tail" ["P","rungs","r","stand"] c_L
noncomputable abbrev h_c (E:Ev):Prop:=HasD E 6 "ring_of_table" ["P","table","stand"] c_c
noncomputable abbrev h_z (E:Ev):Prop:=HasD E 3 "setting" ["many","x","form"] c_z
noncomputable abbrev h_y (E:Ev):Prop:=HasD E 17 "table_of" ["P","many","items"] (c_y 12)
noncomputable abbrev h_I (E:Ev):Prop:=HasD E 18 "reach" ["P","many","items","stand","goal"] c_I
noncomputable abbrev h_K (E:Ev):Prop:=HasD E 18 "ring" ["P","many","items","stand"] c_K
theorem f_on{E:Ev}(u_on:Own E "on" s_on ["P","n"]):h_on E:=by
 exact mkD u_on w6f rfl rfl fun _ _ _ _ _ _ _ hr hu nd=>(z0f (z0v (z0p z3i (z0b 1) (z0b 0))))
theorem f_H{E:Ev}(B:Bi E)(u_H:Own E "worth" s_H ["P","form","stand"])(p_on:h_on E):h_H E:=by
 obtain⟨_,_,F_on,m_on⟩:=p_on.up (k':=1) (by lia)
 exact mkD u_H sc_H rfl rfl fun _ _ _ _ _ _ _ hr hu nd=>(z0c (z0n 3 (PD.ro (z1j z6k B.bg (by decide +kernel) (z0a (z0b 2) z0d))) nd)
  (z0f (z0v (z0i F_on hr m_on (z0a (z0b 0) (z0a (z0p z2m (z1j (w1g rfl) B.bn (by decide +kernel) (z0a (PF.pd (z6v (PIx.pic (z2w (z0b 3) B.bk)) (y0l (fun _ _ _ _ _=>(PD.ro (z0p y0n (z3h (z0b 2) (z0b 0)) (z3h (z0b 3) (z0b 0)))))) nd rfl)) z0d)) (z3h (z0b 1) (z0b 3))) z0d))))))
theorem f_F{E:Ev}(B:Bi E)(u_F:Own E "turned" s_F ["P","table","stand"])(p_H:h_H E):h_F E:=by
 obtain⟨_,_,F_H,m_H⟩:=p_H.up (k':=2) (by lia)
 exact mkD u_F sc_F rfl rfl fun _ _ _ _ _ _ _ hr hu nd=>(z0f (z0v (z3u z5e B.bo (by decide +kernel) (z0a (PF.pd (z6v (y2u (z0b 1)) (y0l (fun _ _ _ _ _=>(PD.ro (z9g F_H hr m_H (z0a (z0b 1) (z0a (z0b 0) (z0a (z0b 3) z0d))))))) nd rfl)) z0d))))
theorem f_x{E:Ev}(B:Bi E)(u_x:Own E "_law_row" s_x ["P","table","stand","size","found"])(p_F:h_F E):h_x E:=by
 obtain⟨_,_,F_F,m_F⟩:=p_F.up (k':=3) (by lia)
 exact mkD u_x sc_x rfl rfl fun _ _ _ _ _ _ _ hr hu nd=>(z0c (z5g (PWD.pt (y0j (z8e (z7q (y2y z3a (z0b 4) B.bf (fun I q=>z4m I rfl B.bh (by decide +kernel) q) x5q))) (z9v (z0r (y5u hu) (z1j z6k B.bg (by decide +kernel) (z0a (z0b 4) z0d)) (z0b 3) (z0x _))))) (z0f (z0v y2z)) z1n)
  (z0c (z6z 5 z1y rfl (z8f (z1m 4))
  (z0c (z5g (PWD.pt (y0j (z8e (z7q (y2y z2k (z0b 5) B.bf (fun I q=>z4m I rfl B.bo (by decide +kernel) q) x5p))) (z9v (z0r (y5u hu) (z0b 5) (z0b 2) (z0x _))))) (z0f (z0v y2z)) z1n)
  (z0f (z0n 2 (PD.ro (z0i F_F hr m_F (z0a (z0b 0) (z0a (z0b 1) (z0a (z0b 2) z0d))))) nd))) nd)
  (z0f (z0v y2z))))
theorem f_G{E:Ev}(B:Bi E)(u_G:Own E "one_at" s_G ["width","place"]):h_G E:=by
 exact mkD u_G sc_G rfl rfl fun _ _ _ _ _ _ _ hr hu nd=>(z0f (z0v (z3u z5e B.bo (by decide +kernel) (z0a (PF.pd (z6v (PIx.pic (z2w (z0b 0) B.bk)) (y0l (fun _ _ _ _ _=>(PD.ro (w6q (z0r (z6w hu) (z0b 0) (z0b 2) (z0x _)) z0e z0e)))) nd rfl)) z0d))))
theorem f_J{E:Ev}(B:Bi E)(u_J:Own E "idle" s_J ["many"])(p_G:h_G E):h_J E:=by
 obtain⟨_,_,F_G,m_G⟩:=p_G.up (k':=1) (by lia)
 exact mkD u_J sc_J rfl rfl fun _ _ _ _ _ _ _ hr hu nd=>(z0f (z0v (z3u z5e B.bo (by decide +kernel) (z0a (PF.pd (z6v (PIx.pic (z2w (z0b 0) B.bk)) (y0l (fun _ _ _ _ _=>(PD.ro (z9g F_G hr m_G (z0a (z0p z2m (z0b 1) z0e) (z0a (z0b 0) z0d)))))) nd rfl)) z0d))))
theorem f_q{E:Ev}(B:Bi E)(u_q:Own E "column_sum" s_q ["form","table","place"]):h_q E:=by
 exact mkD u_q sc_q rfl rfl fun _ _ _ _ _ _ _ hr hu nd=>(z0f (z0v (z1j (w1g rfl) B.bn (by decide +kernel) (z0a (PF.pd (z6v (PIx.pic (z2w (z1j z6k B.bg (by decide +kernel) (z0a (z0b 1) z0d)) B.bk)) (y0l (fun _ _ _ _ _=>(PD.ro (z0p y0n (z3h (z0b 1) (z0b 0)) (z3h (z3h (z0b 2) (z0b 0)) (z0b 3)))))) nd rfl)) z0d))))
theorem f_p{E:Ev}(B:Bi E)(u_p:Own E "form_ahead" s_p ["P","table","form"])(p_q:h_q E)(p_on:h_on E):h_p E:=by
 obtain⟨_,_,F_q,m_q⟩:=p_q.up (k':=1) (by lia)
 obtain⟨_,_,F_on,m_on⟩:=p_on.up (k':=1) (by lia)
 exact mkD u_p sc_p rfl rfl fun _ _ _ _ _ _ _ hr hu nd=>(z0c (z0n 3 (PD.ro (z1j z6k B.bg (by decide +kernel) (z0a (z0b 1) z0d))) nd)
  (z0c (x2a 4 (PIx.pic (z2w (z0p z2m (z0b 3) z0e) B.bk)) (y0l (fun _ _ _ _ _=>(PD.ro (z9g F_q hr m_q (z0a (z0b 3) (z0a (z0b 2) (z0a (z0b 0) z0d))))))) nd rfl)
  (z0c (w0j 4 (z0b 3) (PD.ro (z0p z2m (z3h (z0b 4) (z0b 3)) (z3h (z0b 2) (z0b 3)))))
  (z0f (z0v (z3u z5e B.bo (by decide +kernel) (z0a (PF.pd (z6v (y2u (z0b 4)) (y0l (fun _ _ _ _ _=>(PD.ro (z9g F_on hr m_on (z0a (z0b 1) (z0a (z0b 0) z0d)))))) nd rfl)) z0d)))))))
theorem f_M{E:Ev}(B:Bi E)(u_M:Own E "then" s_M ["P","one","other"])(p_p:h_p E):h_M E:=by
 obtain⟨_,_,F_p,m_p⟩:=p_p.up (k':=2) (by lia)
 exact mkD u_M sc_M rfl rfl fun _ _ _ _ _ _ _ hr hu nd=>(z0f (z0v (z3u z5e B.bo (by decide +kernel) (z0a (PF.pd (z6v (y2u (z0b 2)) (y0l (fun _ _ _ _ _=>(PD.ro (z9g F_p hr m_p (z0a (z0b 1) (z0a (z0b 2) (z0a (z0b 0) z0d))))))) nd rfl)) z0d))))
theorem f_D{E:Ev}(B:Bi E)(u_D:Own E "ladder" s_D ["P","table","n"])(p_M:h_M E):h_D E:=by
 obtain⟨_,_,F_M,m_M⟩:=p_M.up (k':=3) (by lia)
 exact mkF u_D sc_D rfl rfl fun _ _ _ _ _ _ _ hr hu nd=>(z0c (z3g 3 (z7y z0d) nd)
  (z0c (z0n 4 (PD.ro (z0b 1)) nd)
  (z0c (z6z 5 z1y rfl (z2w (w2k (z0b 2)) B.bk)
  (z0c (z5h 3 (PD.ro (z0b 4)))
  (z0f (z0n 4 (PD.ro (z0i F_M hr m_M (z0a (z0b 0) (z0a (z0b 4) (z0a (z0b 4) z0d))))) nd))) nd)
  (z0f (y5r 3)))))
theorem f_t{E:Ev}(B:Bi E)(u_t:Own E "rungs_for" s_t ["rungs","n"]):h_t E:=by
 exact mkF u_t sc_t rfl rfl fun _ _ _ _ _ _ _ hr hu nd=>(z0f (y9b (x8h (x4n (z0b 0) B.bd) (x8i (fun _ _ _ _ _=>(z0r (z6w hu) (z0p z3i (z0p w4x (z0b 3) (z0b 0)) z0e) z0e (z0x _))) (fun _ _ _ _ _=>(PD.ro (z0b 1)))) nd rfl)))
theorem f_E{E:Ev}(B:Bi E)(u_E:Own E "rounds" s_E ["P","table","n"])(p_J:h_J E)(p_D:h_D E)(p_t:h_t E)(p_M:h_M E):h_E E:=by
 obtain⟨_,_,F_J,m_J⟩:=p_J.up (k':=4) (by lia)
 obtain⟨_,_,F_D,m_D⟩:=p_D.up (k':=4) (by lia)
 obtain⟨_,_,F_t,m_t⟩:=p_t.up (k':=4) (by lia)
 obtain⟨_,_,F_M,m_M⟩:=p_M.up (k':=4) (by lia)
 exact mkD u_E sc_E rfl rfl fun _ _ _ _ _ _ _ hr hu nd=>(z0c (z0n 3 (PD.ro (z0i F_J hr m_J (z0a (z1j z6k B.bg (by decide +kernel) (z0a (z0b 1) z0d)) z0d))) nd)
  (z0c (z6z 4 z1y rfl (z8f (PF.ro (z6b F_t hr m_t (z0a (PF.pd (z6b F_D hr m_D (z0a (z0b 0) (z0a (z0b 1) (z0a (z0b 2) z0d))))) (z0a (z0b 2) z0d)))))
  (z0f (z0n 3 (PD.ro (z0i F_M hr m_M (z0a (z0b 0) (z0a (z0b 3) (z0a (z0b 4) z0d))))) nd)) nd)
  (z0f (z0v (z0b 3)))))
theorem f_k{E:Ev}(B:Bi E)(u_k:Own E "_law_apart" s_k ["P","there","r","base","goal","near","far"])(p_x:h_x E)(p_E:h_E E)(p_F:h_F E):h_k E:=by
 obtain⟨_,_,F_x,m_x⟩:=p_x.up (k':=5) (by lia)
 obtain⟨_,_,F_E,m_E⟩:=p_E.up (k':=5) (by lia)
 obtain⟨_,_,F_F,m_F⟩:=p_F.up (k':=5) (by lia)
 exact mkD u_k sc_k rfl rfl fun _ _ _ _ _ _ _ hr hu nd=>(z0c (z5g (PWD.pt (y0j (z8e (z7q (y2y z3a (z0b 5) B.bf (fun I q=>z4m I rfl B.bh (by decide +kernel) q) x5q))) (z9v (z8e (z7q (y2y z3a (z0b 6) B.bf (fun I q=>z4m I rfl B.bh (by decide +kernel) q) x5q)))))) (z0f (z0v y2z)) z1n)
  (z0c (z0n 7 (PD.ro (z1j z6k B.bg (by decide +kernel) (z0a (z0b 5) z0d))) nd)
  (z0c (z5g (PWD.pt (y0j (z0r y7n (z0p y0n (z0b 7) (z0b 7)) (z0b 2) (z0x _)) (y0j (z0r w5a (z0p y0n (z0p z9p (z0b 7) z0e) (z0p z9p (z0b 7) z0e)) (z0b 2) (z0x _)) (z9v (z8e (z7q (z0i F_x hr m_x (z0a (z0b 0) (z0a (z0b 1) (z0a (z0b 4) (z0a (z0b 7) (z0a (z0b 5) z0d)))))))))))) (z0f (z0v y2z)) z1n)
  (z0c (z0n 8 (PD.ro (z0i F_E hr m_E (z0a (z0b 0) (z0a (z0b 1) (z0a (z0b 7) z0d))))) nd)
  (z0c (z5g (z8e (z7q (z0i F_x hr m_x (z0a (z0b 0) (z0a (z0b 8) (z0a (z0i F_F hr m_F (z0a (z0b 0) (z0a (z0b 8) (z0a (z0b 3) z0d)))) (z0a (z0p z5p (z0p z9p (z0p z2m (z0b 2) (z0b 7)) z0e) (z0b 7)) (z0a (z0b 6) z0d)))))))) (z0f (z0v y2z)) z1n)
  (x8c 9 10 5 6 B.bb nd hu rfl))))))
theorem f_s{E:Ev}(B:Bi E)(u_s:Own E "_law_cell" s_s ["script","k"]):h_s E:=by
 exact mkD u_s sc_s rfl rfl fun _ _ _ _ _ _ _ hr hu nd=>(z0c (z5g (z0r y7n (z0b 1) (z1j z6k B.bg (by decide +kernel) (z0a (z0b 0) z0d)) (z0x _)) (z0f (z0v (z3h (z0b 0) (z0b 1)))) z1n)
  (z0f (z0v z0e)))
theorem f_h{E:Ev}(B:Bi E)(u_h:Own E "_law_digits" s_h ["cell","P","size"]):h_h E:=by
 exact mkD u_h sc_h rfl rfl fun _ _ _ _ _ _ _ hr hu nd=>(z0c (z3g 3 (z7y z0d) nd)
  (z0c (z6z 4 z1y rfl (z2w (z0b 2) B.bk)
  (z0c (z5h 3 (PD.ro (z0p z3i (z0b 0) (z0b 1))))
  (z0f (z0n 0 (PD.ro (z0p z5p (z0b 0) (z0b 1))) nd))) nd)
  (z0f (z0v (z3u z5e B.bo (by decide +kernel) (z0a (z0b 3) z0d))))))
theorem f_m{E:Ev}(B:Bi E)(u_m:Own E "_law_prime" s_m ["cell"]):h_m E:=by
 exact mkD u_m sc_m rfl rfl fun _ _ _ _ _ _ _ hr hu nd=>(z0c (z5g (z0r (z6w hu) (z0p z3i (z0b 0) z0e) z0e (z0x _)) (z0f (z0v (z3h (z7a x2f) (z0p z3i (z0p z5p (z0b 0) z0e) z0e)))) z1n)
  (z0c (z0n 1 (PD.ro (z0p z2m z0e (z0p z3i (z0p z5p (z0b 0) z0e) z0e))) nd)
  (z0c (z6p 10000 z1y (z7q (z1j (w5z rfl) B.bb (by decide +kernel) (z0a (PF.pd (z6v (PIx.pic (x2e z0e z0e B.bk)) (x4p (fun _ _ _ _ _=>(z0r y7n (z0b 0) (z0b 2) (z0x _))) (fun _ _ _ _ _=>(PD.ro (y4s (z6w hu) (z0p z3i (z0b 2) (z0b 0)) z0e (z0x _))))) nd rfl)) z0d))) (z0f (z0n 1 (PD.ro (z0p z2m (z0b 1) z0e)) nd)))
  (z0f (z0v (z0b 1))))))
theorem f_j{E:Ev}(u_j:Own E "_law_count" s_j ["cell"]):h_j E:=by
 exact mkD u_j sc_j rfl rfl fun _ _ _ _ _ _ _ hr hu nd=>(z0f (z0v (z3h (PF.pd (z7y (z0a (z0p z3i (z0p z5p (z0b 0) z0e) z0e) (z0a (z0p z3i (z0p z5p (z0b 0) z0e) z0e) (z0a (z0p z3i (z0p z5p (z0b 0) z0e) (z0p z2m (z0p w4y z0e z0e) z0e)) z0d))))) (z0p z3i (z0b 0) z0e))))
theorem f_w{E:Ev}(u_w:Own E "_law_set" s_w ["cell","more","P","many"])(p_h:h_h E):h_w E:=by
 obtain⟨_,_,F_h,m_h⟩:=p_h.up (k':=1) (by lia)
 exact mkD u_w sc_w rfl rfl fun _ _ _ _ _ _ _ hr hu nd=>(z0c (z0n 4 (PD.ro (z0p z3i (z0b 0) (z0b 3))) nd)
  (z0c (z0n 5 (PD.ro (z0i F_h hr m_h (z0a (z0b 1) (z0a (z0b 2) (z0a (z0p z2m (z0b 3) z0e) z0d))))) nd)
  (z0c (z5g (PWD.pt (y5q (z0r (z6w hu) (z3h (z0b 5) (z0b 4)) z0e (z0x _)) (y5p (z0r x4s (z0p z3i (z0p z5p (z0b 0) z0e) z0e) z0e (z0x _))))) (z0f (z0n 5 (PD.ro (z0p z2m (z0p z2m (y2x (z0b 5) podN (podS (z0b 4))) (z7a (z0a (z0p z2m z0e (z0p z3i (z0p z5p (z0b 0) z0e) (z0p z9p (z0b 2) z0e))) z0d))) (y2x (z0b 5) (podS (z0p z2m (z0b 4) z0e)) podN))) nd)) z1n)
  (z0f (z0v (z7a (z0a z8i (z0a (z0b 4) (z0a (z0b 5) z0d)))))))))
theorem f_n{E:Ev}(B:Bi E)(u_n:Own E "_law_items" s_n ["cells","P","many","agains"])(p_j:h_j E)(p_w:h_w E):h_n E:=by
 obtain⟨_,_,F_j,m_j⟩:=p_j.up (k':=2) (by lia)
 obtain⟨_,_,F_w,m_w⟩:=p_w.up (k':=2) (by lia)
 exact mkD u_n sc_n rfl rfl fun _ _ _ _ _ _ _ hr hu nd=>(z0c (z3g 4 (z7y z0d) nd)
  (z0c (z3g 5 (z7y z0d) nd)
  (z0c (z6z 6 z1y rfl (x2d z0e (z0p z9p (z1j (w1h rfl) B.bj (by decide +kernel) (z0a (z1j z6k B.bg (by decide +kernel) (z0a (z0b 0) z0d)) (z0a z0e z0d))) z0e) z0e B.bk)
  (z0c (z0n 7 (PD.ro (z0p z9p (z1j z6k B.bg (by decide +kernel) (z0a (z0b 4) z0d)) (z1j (w1h rfl) B.bj (by decide +kernel) (z0a (z0p z3i (z0p z5p (z3h (z0b 0) (z0b 6)) z0e) z0e) (z0a (z1j z6k B.bg (by decide +kernel) (z0a (z0b 4) z0d)) z0d))))) nd)
  (z0c (z0n 8 (PD.ro (z0p z2m z0e (z1j (w3t rfl) B.bi (by decide +kernel) (z0a (PF.pd (y9e (PF.pd (z7y (z0a z0e z0d))) (y2x (z0b 5) (podS (z0b 7)) podN))) z0d)))) nd)
  (z0f (z5g (PWD.pt (y5q (z0r (z6w hu) (z0p z3i (z3h (z0b 0) (z0b 6)) z0e) z0e (z0x _)) (y5q (z0r y7n (z0b 8) z0e (z0x _)) (y5p (z0r x4s (z0b 3) z0e (z0x _)))))) (z0c (z3g 4 (y9e (y2x (z0b 4) podN (podS (z0b 7))) (PF.pd (z7y (z0a (z7a (z0a z8i (z0a (z0i F_j hr m_j (z0a (z3h (z0b 0) (z0p z2m (z0b 6) z0e)) z0d)) (z0a (z3u z5e B.bo (by decide +kernel) (z0a (y2x (z0b 4) (podS (z0b 7)) podN) z0d)) z0d)))) z0d)))) nd)
  (z0c (z3g 5 (y9e (y2x (z0b 5) podN (podS (z0b 7))) (PF.pd (z7y (z0a (z0b 8) z0d)))) nd)
  (z0f (z0n 3 (PD.ro (z0p z9p (z0b 3) z0e)) nd)))) (z0c (z5h 4 (PD.ro (z0i F_w hr m_w (z0a (z0p z5p (z3h (z0b 0) (z0b 6)) z0e) (z0a (z3h (z0b 0) (z0p z2m (z0b 6) z0e)) (z0a (z0b 1) (z0a (z0b 2) z0d)))))))
  (z0f (z5h 5 (PD.ro z0e)))))))) nd)
  (z0f (z0v (z3u z5e B.bo (by decide +kernel) (z0a (z0b 4) z0d)))))))
theorem f_g{E:Ev}(u_g:Own E "_law_program" s_g ["script","P","many"])(p_s:h_s E)(p_n:h_n E)(p_w:h_w E):h_g E:=by
 obtain⟨_,_,F_s,m_s⟩:=p_s.up (k':=3) (by lia)
 obtain⟨_,_,F_n,m_n⟩:=p_n.up (k':=3) (by lia)
 obtain⟨_,_,F_w,m_w⟩:=p_w.up (k':=3) (by lia)
 exact mkD u_g sc_g rfl rfl fun _ _ _ _ _ _ _ hr hu nd=>(z0c (z0n 3 (PD.ro (z0i F_n hr m_n (z0a (y2x (z0b 0) (podS z0e) (podS z0e)) (z0a (z0b 1) (z0a (z0b 2) (z0a z0e z0d)))))) nd)
  (z0c (z5g (z0r (z6w hu) (z0b 3) (z7a z0d) (z0x _)) (z0f (z0v (z7a (z0a (z0i F_w hr m_w (z0a (z0i F_s hr m_s (z0a (z0b 0) (z0a z0e z0d))) (z0a (z0i F_s hr m_s (z0a (z0b 0) (z0a z0e z0d))) (z0a (z0b 1) (z0a (z0b 2) z0d))))) z0d)))) z1n)
  (z0f (z0v (z0b 3)))))
theorem f_r{E:Ev}(B:Bi E)(u_r:Own E "_law_whole" s_r ["found"]):h_r E:=by
 exact mkD u_r sc_r rfl rfl fun _ _ _ _ _ _ _ hr hu nd=>(z0f (z0v (y7m (y2y z6s (z0b 0) B.bf (fun I q=>z4m I rfl B.be (by decide +kernel) q) w7b) (x0i (w4q (y2y z4o (z0b 0) B.bf (fun I q=>z4m I rfl B.bc (by decide +kernel) q) w5o))))))
theorem f_C{E:Ev}(B:Bi E)(u_C:Own E "walked" s_C ["P","table","stand","count"])(p_F:h_F E):h_C E:=by
 obtain⟨_,_,F_F,m_F⟩:=p_F.up (k':=3) (by lia)
 exact mkF u_C sc_C rfl rfl fun _ _ _ _ _ _ _ hr hu nd=>(z0c (z3g 4 (z7y z0d) nd)
  (z0c (z6z 5 z1y rfl (z2w (z0b 3) B.bk)
  (z0c (z5h 4 (PD.ro (z0b 2)))
  (z0f (z0n 2 (PD.ro (z0i F_F hr m_F (z0a (z0b 0) (z0a (z0b 1) (z0a (z0b 2) z0d))))) nd))) nd)
  (z0f (y5r 4))))
theorem f_l{E:Ev}(u_l:Own E "far_stands" s_l ["P","table","m","r","stand"])(p_E:h_E E)(p_F:h_F E)(p_C:h_C E):h_l E:=by
 obtain⟨_,_,F_E,m_E⟩:=p_E.up (k':=5) (by lia)
 obtain⟨_,_,F_F,m_F⟩:=p_F.up (k':=5) (by lia)
 obtain⟨_,_,F_C,m_C⟩:=p_C.up (k':=5) (by lia)
 exact mkF u_l sc_l rfl rfl fun _ _ _ _ _ _ _ hr hu nd=>(z0c (z0n 5 (PD.ro (z0i F_E hr m_E (z0a (z0b 0) (z0a (z0b 1) (z0a (z0b 2) z0d))))) nd)
  (z0f (y9b (z6b F_C hr m_C (z0a (z0b 0) (z0a (z0b 5) (z0a (z0i F_F hr m_F (z0a (z0b 0) (z0a (z0b 5) (z0a (z0b 4) z0d)))) (z0a (z0p z5p (z0p z9p (z0p z2m (z0b 3) (z0b 2)) z0e) (z0b 2)) z0d))))))))
theorem f_o{E:Ev}(u_o:Own E "root_above" s_o ["r"]):h_o E:=by
 exact mkD u_o sc_o rfl rfl fun _ _ _ _ _ _ _ hr hu nd=>(z0c (z0n 1 (PD.ro z0e) nd)
  (z0c (z6p 200 z1y (z0r y7n (z0p y0n (z0b 1) (z0b 1)) (z0b 0) (z0x _)) (z0f (z0n 1 (PD.ro (z0p z2m (z0b 1) z0e)) nd)))
  (z0f (z0v (z0b 1)))))
theorem f_i{E:Ev}(B:Bi E)(u_i:Own E "on_or_apart" s_i ["P","table","t","r","entry","goal"])(p_l:h_l E)(p_o:h_o E)(p_C:h_C E):h_i E:=by
 obtain⟨_,_,F_l,m_l⟩:=p_l.up (k':=6) (by lia)
 obtain⟨_,_,F_o,m_o⟩:=p_o.up (k':=6) (by lia)
 obtain⟨_,_,F_C,m_C⟩:=p_C.up (k':=6) (by lia)
 exact mkD u_i sc_i rfl rfl fun _ _ _ _ _ _ _ hr hu nd=>(z0c (z0n 6 (PD.ro (z0i F_o hr m_o (z0a (z0b 3) z0d))) nd)
  (z0c (z3g 7 (z6b F_C hr m_C (z0a (z0b 0) (z0a (z0b 1) (z0a (z0b 5) (z0a (z0b 6) z0d))))) nd)
  (z0c (z3g 8 (z6b F_l hr m_l (z0a (z0b 0) (z0a (z0b 1) (z0a (z0b 6) (z0a (z0b 3) (z0a (z0b 4) z0d)))))) nd)
  (z0c (w4m 8 (w2e 9 10 z1y rfl (x8f (z1m 8) z0e B.bd)
  (z0f (z5g (z0r (w4z hu) (z0b 10) (z0b 7) rfl) (z0f (z0v (z7a (z0a z8i (z0a (z0p z9p (z0p z2m (z0b 2) (z0p y0n (z0b 9) (z0b 6))) (x0j hu (z0b 7) (z0b 10))) z0d))))) z1n)) nd))
  (z0f (z0v (z7a (z0a z8i (z0a (z0b 2) (z0a (z0b 3) (z0a (z0b 7) (z0a (z0b 8) z0d))))))))))))
theorem f_A{E:Ev}(u_A:Own E "climbed" s_A ["P","rungs","n","stand"])(p_t:h_t E)(p_F:h_F E):h_A E:=by
 obtain⟨_,_,F_t,m_t⟩:=p_t.up (k':=3) (by lia)
 obtain⟨_,_,F_F,m_F⟩:=p_F.up (k':=3) (by lia)
 exact mkD u_A sc_A rfl rfl fun _ _ _ _ _ _ _ hr hu nd=>(z0c (z6z 4 z1y rfl (z8f (PF.ro (z6b F_t hr m_t (z0a (z0b 1) (z0a (z0b 2) z0d)))))
  (z0f (z0n 3 (PD.ro (z0i F_F hr m_F (z0a (z0b 0) (z0a (z0b 4) (z0a (z0b 3) z0d))))) nd)) nd)
  (z0f (z0v (z0b 3))))
theorem f_b{E:Ev}(B:Bi E)(u_b:Own E "parts_of_rings" s_b ["P","many"]):h_b E:=by
 exact mkF u_b sc_b rfl rfl fun _ _ _ _ _ _ _ hr hu nd=>(z0c (z3g 2 (z7y (z0a (z0p z9p (z0b 0) z0e) z0d)) nd)
  (z0c (z0n 3 (PD.ro z0e) nd)
  (z0c (z6z 4 z1y rfl (z2w (z0b 1) B.bk)
  (z0c (z5h 2 (PD.ro (z0b 3)))
  (z0f (z0n 3 (PD.ro (z0p z2m (z0p y0n (z0b 3) (z0b 0)) z0e)) nd))) nd)
  (z0c (z0n 5 (PD.ro z0e) nd)
  (z0c (z6p 10 z1y (z0r y7n (z0b 5) (z0p z2m (z0b 1) z0e) (z0x _)) (z0c (z5h 2 (PD.ro (z0b 0)))
  (z0f (z0n 5 (PD.ro (z0p y0n (z0b 5) (z0b 0))) nd))))
  (z0f (y5r 2)))))))
theorem f_f{E:Ev}(u_f:Own E "least_divisor" s_f ["n"]):h_f E:=by
 exact mkD u_f sc_f rfl rfl fun _ _ _ _ _ _ _ hr hu nd=>(z0c (z0n 1 (PD.ro z0e) nd)
  (z0c (z6p 10000 z1y (z0r w6v (z0p y0n (z0b 1) (z0b 1)) (z0b 0) (z0x _)) (z0c (z5g (z0r (z6w hu) (z0p z3i (z0b 0) (z0b 1)) z0e (z0x _)) (z0f (z0v (z0b 1))) z1n)
  (z0f (z0n 1 (PD.ro (z0p z2m (z0b 1) z0e)) nd))))
  (z0f (z0v (z0b 0)))))
theorem f_d{E:Ev}(u_d:Own E "without_prime" s_d ["n","divisor"]):h_d E:=by
 exact mkD u_d sc_d rfl rfl fun _ _ _ _ _ _ _ hr hu nd=>(z0c (z6p 100 z1y (z0r (z6w hu) (z0p z3i (z0b 0) (z0b 1)) z0e (z0x _)) (z0f (z0n 0 (PD.ro (z0p z5p (z0b 0) (z0b 1))) nd)))
  (z0f (z0v (z0b 0))))
theorem f_u{E:Ev}(u_u:Own E "primes_of" s_u ["n"])(p_f:h_f E)(p_d:h_d E):h_u E:=by
 obtain⟨_,_,F_f,m_f⟩:=p_f.up (k':=1) (by lia)
 obtain⟨_,_,F_d,m_d⟩:=p_d.up (k':=1) (by lia)
 exact mkF u_u sc_u rfl rfl fun _ _ _ _ _ _ _ hr hu nd=>(z0c (z3g 1 (z7y z0d) nd)
  (z0c (z6p 100 z1y (z0r x4s (z0b 0) z0e (z0x _)) (z0c (z5h 1 (PD.ro (z0i F_f hr m_f (z0a (z0b 0) z0d))))
  (z0f (z0n 0 (PD.ro (z0i F_d hr m_d (z0a (z0b 0) (z0a (z3h (z0b 1) (w4r z0e)) z0d)))) nd))))
  (z0f (y5r 1))))
theorem f_a{E:Ev}(B:Bi E)(u_a:Own E "primes_of_parts" s_a ["parts"])(p_u:h_u E):h_a E:=by
 obtain⟨_,_,F_u,m_u⟩:=p_u.up (k':=2) (by lia)
 exact mkF u_a sc_a rfl rfl fun _ _ _ _ _ _ _ hr hu nd=>(z0c (z3g 1 (z7y z0d) nd)
  (z0c (z6z 2 z1y rfl (z8f (z1m 0))
  (z0f (x4j 1 (z6b F_u hr m_u (z0a (z0b 2) z0d)))) nd)
  (z0f (y9b (w2f (z0b 1) B.bm B.bl rfl)))))
theorem f_B{E:Ev}(u_B:Own E "product" s_B ["parts"]):h_B E:=by
 exact mkD u_B sc_B rfl rfl fun _ _ _ _ _ _ _ hr hu nd=>(z0c (z0n 1 (PD.ro z0e) nd)
  (z0c (z6z 2 z1y rfl (z8f (z1m 0))
  (z0f (z0n 1 (PD.ro (z0p w2r (z0b 1) (z0b 2))) nd)) nd)
  (z0f (z0v (z0b 1)))))
theorem f_v{E:Ev}(u_v:Own E "shortest" s_v ["P","rungs","n","primes","stand"])(p_A:h_A E):h_v E:=by
 obtain⟨_,_,F_A,m_A⟩:=p_A.up (k':=4) (by lia)
 exact mkD u_v sc_v rfl rfl fun _ _ _ _ _ _ _ hr hu nd=>(z0c (z6z 5 z1y rfl (z8f (z1m 3))
  (z0f (z6p 200 z1y (PWD.pt (y5q (z0r (z6w hu) (z0p z3i (z0b 2) (z0b 5)) z0e (z0x _)) (y5p (z0r (z6w hu) (z0i F_A hr m_A (z0a (z0b 0) (z0a (z0b 1) (z0a (z0p z5p (z0b 2) (z0b 5)) (z0a (z0b 4) z0d))))) (z0b 4) (z0x _))))) (z0f (z0n 2 (PD.ro (z0p z5p (z0b 2) (z0b 5))) nd)))) nd)
  (z0f (z0v (z0b 2))))
theorem f_L{E:Ev}(u_L:Own E "tail" s_L ["P","rungs","r","stand"])(p_A:h_A E)(p_F:h_F E):h_L E:=by
 obtain⟨_,_,F_A,m_A⟩:=p_A.up (k':=4) (by lia)
 obtain⟨_,_,F_F,m_F⟩:=p_F.up (k':=4) (by lia)
 exact mkD u_L sc_L rfl rfl fun _ _ _ _ _ _ _ hr hu nd=>(z0c (z0n 4 (PD.ro z0e) nd)
  (z0c (z6p 10 z1y (z0r (y5u hu) (z0i F_A hr m_A (z0a (z0b 0) (z0a (z0b 1) (z0a (z0b 2) (z0a (z0b 3) z0d))))) (z0b 3) (z0x _)) (z0c (z0n 3 (PD.ro (z0i F_F hr m_F (z0a (z0b 0) (z0a (z3h (z0b 1) z0e) (z0a (z0b 3) z0d))))) nd)
  (z0f (z0n 4 (PD.ro (z0p z2m (z0b 4) z0e)) nd))))
  (z0f (z0v (z0b 4)))))
theorem f_c{E:Ev}(B:Bi E)(u_c:Own E "ring_of_table" s_c ["P","table","stand"])(p_A:h_A E)(p_D:h_D E)(p_b:h_b E)(p_a:h_a E)(p_B:h_B E)(p_v:h_v E)(p_L:h_L E):h_c E:=by
 obtain⟨_,_,F_A,m_A⟩:=p_A.up (k':=5) (by lia)
 obtain⟨_,_,F_D,m_D⟩:=p_D.up (k':=5) (by lia)
 obtain⟨_,_,F_b,m_b⟩:=p_b.up (k':=5) (by lia)
 obtain⟨_,_,F_a,m_a⟩:=p_a.up (k':=5) (by lia)
 obtain⟨_,_,F_B,m_B⟩:=p_B.up (k':=5) (by lia)
 obtain⟨_,_,F_v,m_v⟩:=p_v.up (k':=5) (by lia)
 obtain⟨_,_,F_L,m_L⟩:=p_L.up (k':=5) (by lia)
 exact mkD u_c sc_c rfl rfl fun _ _ _ _ _ _ _ hr hu nd=>(z0c (z0n 3 (PD.ro (z1j z6k B.bg (by decide +kernel) (z0a (z0b 1) z0d))) nd)
  (z0c (z3g 4 (z6b F_b hr m_b (z0a (z0b 0) (z0a (z0b 3) z0d))) nd)
  (z0c (z0n 5 (PD.ro (z0i F_B hr m_B (z0a (z0b 4) z0d))) nd)
  (z0c (z3g 6 (z6b F_a hr m_a (z0a (z0b 4) z0d)) nd)
  (z0c (z3g 7 (z6b F_D hr m_D (z0a (z0b 0) (z0a (z0b 1) (z0a (z0b 5) z0d)))) nd)
  (z0c (z0n 8 (PD.ro (z0i F_v hr m_v (z0a (z0b 0) (z0a (z0b 7) (z0a (z0b 5) (z0a (z0b 6) (z0a (z0i F_A hr m_A (z0a (z0b 0) (z0a (z0b 7) (z0a (z0b 3) (z0a (z0b 2) z0d))))) z0d))))))) nd)
  (z0f (z0v (z7a (z0a (z0i F_L hr m_L (z0a (z0b 0) (z0a (z0b 7) (z0a (z0b 8) (z0a (z0b 2) z0d))))) (z0a (z0b 8) (z0a (PF.pd (z6v (y2u (z0b 6)) (x4p (fun _ _ _ _ _=>(z0r (z6w hu) (z0p z3i (z0b 9) (z0b 0)) z0e (z0x _))) (fun _ _ _ _ _=>(PD.ro (z0b 0)))) nd rfl)) z0d))))))))))))
theorem f_z{E:Ev}(B:Bi E)(u_z:Own E "setting" s_z ["many","x","form"])(p_J:h_J E):h_z E:=by
 obtain⟨_,_,F_J,m_J⟩:=p_J.up (k':=2) (by lia)
 exact mkD u_z sc_z rfl rfl fun _ _ _ _ _ _ _ hr hu nd=>(z0c (z3g 3 (w2g (z0i F_J hr m_J (z0a (z0b 0) z0d)) B.bh (by decide +kernel)) nd)
  (z0c (w0j 3 (z0b 1) (PD.ro (z3u z5e B.bo (by decide +kernel) (z0a (z0b 2) z0d))))
  (z0f (z0v (z3u z5e B.bo (by decide +kernel) (z0a (z0b 3) z0d))))))
theorem f_y{E:Ev}(u_y:Own E "table_of" s_y ["P","many","items"])(u_e:Own E "table_of_item" s_e ["P","many","item"])(p_J:h_J E)(p_M:h_M E)(p_E:h_E E)(p_z:h_z E):∀n:Nat,HasD E (5+n) "table_of" ["P","many","items"] (c_y n)/\HasD E (5+n) "table_of_item" ["P","many","item"] (c_e n):=by
 obtain⟨a_y,d_y,Fu_y,hb_y,m_y⟩:=u_y
 obtain⟨a_e,d_e,Fu_e,hb_e,m_e⟩:=u_e
 have A:∀n:Nat,FnD E.P E.w E.K E.mg E.base (5+n) a_y d_y ["P","many","items"] (c_y n)/\FnD E.P E.w E.K E.mg E.base (5+n) a_e d_e ["P","many","item"] (c_e n):=by
  intro n
  induction n with
  | zero=>exact⟨w1c (k:=4) Fu_y sc_y hb_y,w1c (k:=4) Fu_e sc_e hb_e⟩
  | succ n ih =>
    obtain⟨F_y,F_e⟩:=ih
    obtain⟨_,_,F_J,m_J⟩:=p_J.up (k':=5+n) (by lia)
    obtain⟨_,_,F_M,m_M⟩:=p_M.up (k':=5+n) (by lia)
    obtain⟨_,_,F_E,m_E⟩:=p_E.up (k':=5+n) (by lia)
    obtain⟨_,_,F_z,m_z⟩:=p_z.up (k':=5+n) (by lia)
    refine⟨?_,?_⟩
    ·refine x1a (k:=5+n) Fu_y sc_y hb_y (fun ds h=>z8u h) fun cdv A outer s H E hr=>?_
     have nd:=sc_y.nd
     have hu:=hr.units
     refine⟨g_y (c_y n) (c_e n),?_,fun ds hne=>(y4y (z8u hne)).symm⟩
     exact(z0c (z0n 3 (PD.ro (z0i F_J hr m_J (z0a (z0b 1) z0d))) nd)
     (z0c (z6z 4 z1y rfl (z8f (z1m 2))
     (z0f (z0n 3 (PD.ro (z0i F_M hr m_M (z0a (z0b 0) (z0a (z0b 3) (z0a (z0i F_e hr m_e (z0a (z0b 0) (z0a (z0b 1) (z0a (z0b 4) z0d)))) z0d))))) nd)) nd)
     (z0f (z0v (z0b 3)))))
    ·refine x1a (k:=5+n) Fu_e sc_e hb_e (fun ds h=>z8u h) fun cdv A outer s H E hr=>?_
     have nd:=sc_e.nd
     have hu:=hr.units
     refine⟨g_e (c_y n) (c_e n),?_,fun ds hne=>(y4y (z8u hne)).symm⟩
     exact(z0c (z5g (z0r (z6w hu) (z3h (z0b 2) z0e) z8i (z0x _)) (z0f (z0v (z0i F_z hr m_z (z0a (z0b 1) (z0a (z3h (z0b 2) z0e) (z0a (z3h (z0b 2) z0e) z0d)))))) z1n)
     (z0f (z0v (z0i F_E hr m_E (z0a (z0b 0) (z0a (z0i F_y hr m_y (z0a (z0b 0) (z0a (z0b 1) (z0a (z3h (z0b 2) z0e) z0d)))) (z0a (z3h (z0b 2) z0e) z0d)))))))
 exact fun n=>⟨⟨_,_,(A n).1,m_y⟩,⟨_,_,(A n).2,m_e⟩⟩
theorem f_I{E:Ev}(B:Bi E)(u_I:Own E "reach" s_I ["P","many","items","stand","goal"])(p_i:h_i E)(p_c:h_c E)(p_E:h_E E)(p_y:h_y E)(p_F:h_F E)(p_C:h_C E):h_I E:=by
 obtain⟨_,_,F_i,m_i⟩:=p_i.up (k':=17) (by lia)
 obtain⟨_,_,F_c,m_c⟩:=p_c.up (k':=17) (by lia)
 obtain⟨_,_,F_E,m_E⟩:=p_E.up (k':=17) (by lia)
 obtain⟨_,_,F_y,m_y⟩:=p_y.up (k':=17) (by lia)
 obtain⟨_,_,F_F,m_F⟩:=p_F.up (k':=17) (by lia)
 obtain⟨_,_,F_C,m_C⟩:=p_C.up (k':=17) (by lia)
 exact mkD u_I sc_I rfl rfl fun _ _ _ _ _ _ _ hr hu nd=>(z0c (z0n 5 (PD.ro (z0i F_y hr m_y (z0a (z0b 0) (z0a (z0b 1) (z0a (z0b 2) z0d))))) nd)
  (z0c (z0n 6 (z8h F_c hr m_c (z1a (z1m 0) (z1a (z1m 5) (z1a (z1m 3) y0m)))) nd)
  (z0c (z0n 7 (PD.ro (z3h (z0b 6) z0e)) nd)
  (z0c (z0n 8 (PD.ro (z3h (z0b 6) z0e)) nd)
  (z0c (z5g (z0r x4s (z0b 8) (w2j B.bp ⟨_,rfl⟩) (z0x _)) (z0f (x8d B.bs z8i rfl)) z1n)
  (z0c (z3g 9 (z6b F_C hr m_C (z0a (z0b 0) (z0a (z0b 5) (z0a (z0b 3) (z0a (z0p z2m (z0b 7) z0e) z0d))))) nd)
  (z0c (z5g (z0r (w4z hu) (z0b 4) (z0b 9) rfl) (z0f (z0v (z7a (z0a z8i (z0a (x0j hu (z0b 9) (z0b 4)) z0d))))) z1n)
  (z0c (z5g (z0r (y5u hu) (z0i F_F hr m_F (z0a (z0b 0) (z0a (z0i F_E hr m_E (z0a (z0b 0) (z0a (z0b 5) (z0a (z0b 8) z0d)))) (z0a (z0b 4) z0d)))) (z0b 4) (z0x _)) (z0f (z0v (z7a (z0a z8i (z0a (z0b 7) (z0a (z0b 8) z0d)))))) z1n)
  (z0f (z0v (PDr.pd (z8h F_i hr m_i (z1a (z1m 0) (z1a (z1m 5) (z1a (z1m 7) (z1a (z1m 8) (z1a (PD.ro (z3h (z0b 9) (z0b 7))) (z1a (z1m 4) y0m))))))))))))))))))
theorem f_K{E:Ev}(u_K:Own E "ring" s_K ["P","many","items","stand"])(p_c:h_c E)(p_y:h_y E):h_K E:=by
 obtain⟨_,_,F_c,m_c⟩:=p_c.up (k':=17) (by lia)
 obtain⟨_,_,F_y,m_y⟩:=p_y.up (k':=17) (by lia)
 exact mkD u_K sc_K rfl rfl fun _ _ _ _ _ _ _ hr hu nd=>(z0f (z0v (PDr.pd (z8h F_c hr m_c (z1a (z1m 0) (z1a (PD.ro (z0i F_y hr m_y (z0a (z0b 0) (z0a (z0b 1) (z0a (z0b 2) z0d))))) (z1a (z1m 3) y0m)))))))
theorem w7e{E:Ev}{a:Addr}{d:FuncData}(B:Bi E)(U:Fun E.K "law" "law" w1x a d)(hb:y4l E.K d ["script"] [])(p_k:h_k E)(p_s:h_s E)(p_h:h_h E)(p_m:h_m E)(p_g:h_g E)(p_r:h_r E)(p_I:h_I E)(p_K:h_K E)(p_E:h_E E)(p_y:h_y E)(p_F:h_F E):FnD E.P E.w E.K E.mg E.base 19 a d ["script"] c_law:=by
 obtain⟨_,_,F_k,m_k⟩:=p_k.up (k':=18) (by lia)
 obtain⟨_,_,F_s,m_s⟩:=p_s.up (k':=18) (by lia)
 obtain⟨_,_,F_h,m_h⟩:=p_h.up (k':=18) (by lia)
 obtain⟨_,_,F_m,m_m⟩:=p_m.up (k':=18) (by lia)
 obtain⟨_,_,F_g,m_g⟩:=p_g.up (k':=18) (by lia)
 obtain⟨_,_,F_r,m_r⟩:=p_r.up (k':=18) (by lia)
 obtain⟨_,_,F_I,m_I⟩:=p_I.up (k':=18) (by lia)
 obtain⟨_,_,F_K,m_K⟩:=p_K.up (k':=18) (by lia)
 obtain⟨_,_,F_E,m_E⟩:=p_E.up (k':=18) (by lia)
 obtain⟨_,_,F_y,m_y⟩:=p_y.up (k':=18) (by lia)
 obtain⟨_,_,F_F,m_F⟩:=p_F.up (k':=18) (by lia)
 refine x1a U w0g hb (fun ds h=>z8u h) fun cdv A outer s H E hr=>?_
 have nd:=w0g.nd
 have hu:=hr.units
 exact⟨w3m,(z0c (z0n 1 (PD.ro (z0i F_m hr m_m (z0a (z0i F_s hr m_s (z0a (z0b 0) (z0a z0e z0d))) z0d))) nd)
  (z0c (z0n 2 (PD.ro (z0p z2m z0e (z0p z3i (z0i F_s hr m_s (z0a (z0b 0) (z0a z0e z0d))) z0e))) nd)
  (z0c (z0n 3 (PD.ro (z0i F_g hr m_g (z0a (z0b 0) (z0a (z0b 1) (z0a (z0b 2) z0d))))) nd)
  (z0c (z5g (z0r (z6w hu) (z0p z3i (z0p z5p (z0i F_s hr m_s (z0a (z0b 0) (z0a z0e z0d))) z0e) z0e) z0e (z0x _)) (z0f (z0n 3 (PD.ro (z7a z0d)) nd)) z1n)
  (z0c (z0n 4 (PD.ro (z0i F_h hr m_h (z0a (z0i F_s hr m_s (z0a (z0b 0) (z0a z0e z0d))) (z0a (z0b 1) (z0a (z0b 2) z0d))))) nd)
  (z0c (z0n 5 (PD.ro (z0i F_h hr m_h (z0a (z0i F_s hr m_s (z0a (z0b 0) (z0a z0e z0d))) (z0a (z0b 1) (z0a (z0b 2) z0d))))) nd)
  (z0c (z5g (z0r (z6w hu) (z0p z3i (z0i F_s hr m_s (z0a (z0b 0) (z0a z0e z0d))) z0e) z0e (z0x _)) (z0f (z0n 5 (PD.ro (z0p z2m (y2x (z0b 4) podN (podS z0e)) (y2x (z0b 5) (podS z0e) podN))) nd)) z1n)
  (z0c (y9a 6 7 8 (z8h F_K hr m_K (z1a (z1m 1) (z1a (z1m 2) (z1a (z1m 3) (z1a (z1m 4) y0m))))) nd rfl)
  (z0c (z5g (z0r x4s (z0b 7) z0e (z0x _)) (z0f (z0v y2z)) z1n)
  (z0c (z0n 9 (PD.ro (z0i F_y hr m_y (z0a (z0b 1) (z0a (z0b 2) (z0a (z0b 3) z0d))))) nd)
  (z0c (z0n 10 (z8h F_I hr m_I (z1a (z1m 1) (z1a (z1m 2) (z1a (z1m 3) (z1a (z1m 4) (z1a (z1m 5) y0m)))))) nd)
  (z0c (z5g (PWD.pt (y0j (z8e (z7q (y2y z2k (z0b 10) B.bf (fun I q=>z4m I rfl B.bo (by decide +kernel) q) x5p))) (z9v (z0r y7n (z1j z6k B.bg (by decide +kernel) (z0a (z0b 10) z0d)) z0e (z0x _))))) (z0f (z0v y2z)) z1n)
  (z0c (z5g (z0r (z6w hu) (z3h (z0b 10) z0e) z8i (z0x _)) (z0c (z0n 11 (PD.ro (y7m (y4s (z6w hu) (z1j z6k B.bg (by decide +kernel) (z0a (z0b 10) z0d)) z0e (z0x _)) (y7m (z0i F_r hr m_r (z0a (z3h (z0b 10) z0e) z0d)) (x0i (y4s w5a (z3h (z0b 10) z0e) z0e (z0x _)))))) nd)
  (z0f (z0v (y7m (z0b 11) (x0i (y4s (z6w hu) (z0i F_F hr m_F (z0a (z0b 1) (z0a (z0i F_E hr m_E (z0a (z0b 1) (z0a (z0b 9) (z0a (z3h (z0b 10) z0e) z0d)))) (z0a (z0b 4) z0d)))) (z0b 5) (z0x _))))))) z1n)
  (z0c (z5g (PWD.pt (y0j (z8e (z7q (z1j (w6a rfl) B.ba (by decide +kernel) (z0a (PF.pd (z6v (y2u (y2x (z0b 10) (podS z0e) (podS z0e))) (y0l (fun _ _ _ _ _=>(PD.ro (z9g F_r hr m_r (z0a (z0b 0) z0d))))) nd rfl)) z0d)))) (z9v (z0r (y5u hu) (y2x (z0b 10) (podS z0e) (podS z0e)) (z7a (z0a (z0b 6) (z0a (z0b 7) z0d))) (z0x _))))) (z0f (z0v y2z)) z1n)
  (z0c (z0n 12 (PD.ro (z0b 4)) nd)
  (z0c (z6z 13 z1y rfl (z2w (z0p z2m (z0b 6) z0e) B.bk)
  (z0c (z5g (z0r (z6w hu) (z0b 12) (z0b 5) (z0x _)) (z0f (z0v y2z)) z1n)
  (z0f (z5g (z0r y7n (z0b 13) (z0b 6) (z0x _)) (z0f (z0n 12 (PD.ro (z0i F_F hr m_F (z0a (z0b 1) (z0a (z0b 9) (z0a (z0b 12) z0d))))) nd)) z1n))) nd)
  (z0c (z0n 14 (PD.ro (z0i F_F hr m_F (z0a (z0b 1) (z0a (z0i F_E hr m_E (z0a (z0b 1) (z0a (z0b 9) (z0a (z0b 7) z0d)))) (z0a (z0b 5) z0d))))) nd)
  (z0c (z5g (z0r (z6w hu) (z3h (z0b 10) z0e) z8i (z0x _)) (z0f (z0v (y7m (y4s (z6w hu) (z1j z6k B.bg (by decide +kernel) (z0a (z0b 10) z0d)) z0e (z0x _)) (x0i (y4s (y5u hu) (z0b 14) (z0b 5) (z0x _)))))) z1n)
  (z0c (z5g (PWD.pt (y0j (z0r (y5u hu) (z3h (z0b 10) z0e) z8i (z0x _)) (y0j (z0r (y5u hu) (z1j z6k B.bg (by decide +kernel) (z0a (z0b 10) z0d)) z0e (z0x _)) (z9v (z0r (y5u hu) (z0b 14) (z0b 5) (z0x _)))))) (z0f (z0v y2z)) z1n)
  (z0f (z0v (z0i F_k hr m_k (z0a (z0b 1) (z0a (z0b 9) (z0a (z0b 7) (z0a (z0b 12) (z0a (z0b 5) (z0a (z3h (z0b 10) z0e) (z0a (z3h (z0b 10) z0e) z0d))))))))))))))))))))))))))))),fun ds hne=>(y4y (z8u hne)).symm⟩
end
theorem y4k{α:Type}{p:List α->Prop}(h:∀a,p [a])(us:List α)(hl:us.length=1):p us:=by
 obtain⟨a,rfl⟩:∃a,us=[a]:=by
  match us,hl with
  | [a],_=>exact⟨a,rfl⟩
 exact h a
theorem x2k{α:Type}{p:List α->Prop}(h:∀a b,p [a,b])(us:List α)(hl:us.length=2):p us:=by
 obtain⟨a,b,rfl⟩:∃a b,us=[a,b]:=by
  match us,hl with
  | [a,b],_=>exact⟨a,b,rfl⟩
 exact h a b
theorem y1d{α:Type}{p:List α->Prop}(h:∀a b c,p [a,b,c])(us:List α)(hl:us.length=3):p us:=by
 obtain⟨a,b,c,rfl⟩:∃a b c,us=[a,b,c]:=by
  match us,hl with
  | [a,b,c],_=>exact⟨a,b,c,rfl⟩
 exact h a b c
theorem x2j{α:Type}{p:List α->Prop}(h:∀a b c d,p [a,b,c,d])(us:List α)(hl:us.length=4):p us:=by
 obtain⟨a,b,c,d,rfl⟩:∃a b c d,us=[a,b,c,d]:=by
  match us,hl with
  | [a,b,c,d],_=>exact⟨a,b,c,d,rfl⟩
 exact h a b c d
theorem x8r{α:Type}{p:List α->Prop}(h:∀a b c d e,p [a,b,c,d,e])(us:List α)(hl:us.length=5):p us:=by
 obtain⟨a,b,c,d,e,rfl⟩:∃a b c d e,us=[a,b,c,d,e]:=by
  match us,hl with
  | [a,b,c,d,e],_=>exact⟨a,b,c,d,e,rfl⟩
 exact h a b c d e
theorem w6y{α:Type}{p:List α->Prop}(h:∀a b c d e f,p [a,b,c,d,e,f])(us:List α)(hl:us.length=6):p us:=by
 obtain⟨a,b,c,d,e,f,rfl⟩:∃a b c d e f,us=[a,b,c,d,e,f]:=by
  match us,hl with
  | [a,b,c,d,e,f],_=>exact⟨a,b,c,d,e,f,rfl⟩
 exact h a b c d e f
theorem w6x{α:Type}{p:List α->Prop}(h:∀a b c d e f g,p [a,b,c,d,e,f,g])(us:List α)(hl:us.length=7):p us:=by
 obtain⟨a,b,c,d,e,f,g,rfl⟩:∃a b c d e f g,us=[a,b,c,d,e,f,g]:=by
  match us,hl with
  | [a,b,c,d,e,f,g],_=>exact⟨a,b,c,d,e,f,g,rfl⟩
 exact h a b c d e f g
section
variable {w:World}{h:Heap}{mg:Str->Option Value}(X:(KK w.params).In h)(G:h.Ns mainGlobals mg)
include X G in
theorem ma{x:Str}{v:Value}(e:PySem.W.nsIn (KK w.params) mainGlobals x=some (some v)):mg x=some v:=PySem.W.mg_of X G e
include X G in
theorem mn{x:Str}(e:PySem.W.nsIn (KK w.params) mainGlobals x=some none):mg x=none:=PySem.W.mg_none_of X G e
include X G in
theorem ow(base:Heap){x:Str}{st:Stmt}{ps:List Str}{c:Addr}{pm:Value}(a:Addr)(n:PySem.W.nsIn (KK w.params) mainGlobals x=some (some (.ref a)))(l:(KK w.params).lookup a=some (HQ.fO x st pm (.ref c)))(e:PySem.W.codeIn (KK w.params) (.ref c) x=true)(b:∀(kV doc pm:Value) (an:Option Addr) (cdv ct:Value) (us:List Value),us.length=ps.length->bindArgs (PySem.W.fnOf x x (y3v st) (z6y st) (z0h st) .none kV doc pm an cdv ct) ⟨us,[]⟩=pure (ps.zip us)):Own ⟨PySem.Challenge.rw_longrounds_k72_never_come_to.prog,w,(KK w.params),mg,base⟩ x st ps:=⟨a,_,HQ.fun_at l e,(HQ.fun_at l e).binds b,PySem.W.mg_of X G n⟩
include X G in
set_option maxHeartbeats 0 in
theorem all{fa:Addr}(hfa:mg "law"=some (.ref fa)):∃fd:FuncData,(∀(s:Shared) (v:Value),BindsTo s fd ⟨[v],[]⟩ [("script",v)])/\∀base:Heap,(KK w.params).In base->base.Ns mainGlobals mg->FnOk PySem.Challenge.rw_longrounds_k72_never_come_to.prog w (KK w.params) mg base (CXE PySem.Challenge.rw_longrounds_k72_never_come_to.prog w) 19 fa fd ["script"] (spN c_law (KK w.params)):=by
 k_fill
 have a1_TooLong:PySem.W.nsIn (KK w.params) mainGlobals "TooLong"=some (some (.ref 37)):=by k_is
 have m_TooLong:=PySem.W.mg_of X G a1_TooLong
 have cl_TooLong:XCls (KK w.params) 37:=⟨by k_is,by k_is,by k_is,by k_is,by k_is,by k_is,iss (by k_is)⟩
 have a1_LongError:PySem.W.nsIn (KK w.params) mainGlobals "LongError"=some (some (.ref 24)):=by k_is
 have m_LongError:=PySem.W.mg_of X G a1_LongError
 have cl_LongError:XCls (KK w.params) 24:=⟨by k_is,by k_is,by k_is,by k_is,by k_is,by k_is,iss (by k_is)⟩
 have X_TooLong:XOk (KK w.params) mg .tooLong 37:=⟨a1_TooLong,m_TooLong,by k_exc⟩
 have zg_NoPrime:PySem.W.nsIn (KK w.params) mainGlobals "NoPrime"=some none:=by k_is
 have zg_NoNumber:PySem.W.nsIn (KK w.params) mainGlobals "NoNumber"=some none:=by k_is
 have zg_NoProgram:PySem.W.nsIn (KK w.params) mainGlobals "NoProgram"=some none:=by k_is
 have zg_Lossy:PySem.W.nsIn (KK w.params) mainGlobals "Lossy"=some none:=by k_is
 have zg_NoText:PySem.W.nsIn (KK w.params) mainGlobals "NoText"=some none:=by k_is
 have lL:(KK w.params).lookup 302=some (HQ.fO "law" w1x (.str "law_longrounds_k72_never_come_to" 513) (.ref 301)):=by k_is
 have lC:PySem.W.codeIn (KK w.params) (.ref 301) "law"=true:=by k_is
 have m_law:=ma X G (x:="law") (v:=.ref 302) (by k_is)
 have e:=hfa.symm.trans m_law
 cases e
 have UL:=HQ.fun_at lL lC
 refine lawD UL (fun s v=>.of_eq rfl) fun base _ _=>?_
 have B:Bi ⟨PySem.Challenge.rw_longrounds_k72_never_come_to.prog,w,(KK w.params),mg,base⟩:=⟨mn X G (by k_is),mn X G (by k_is),mn X G (by k_is),mn X G (by k_is),mn X G (by k_is),mn X G (by k_is),mn X G (by k_is),mn X G (by k_is),mn X G (by k_is),mn X G (by k_is),mn X G (by k_is),mn X G (by k_is),mn X G (by k_is),mn X G (by k_is),mn X G (by k_is),ma X G (by k_is),m_TooLong,m_LongError,X_TooLong⟩
 have o_on:=ow X G base (x:="on") (st:=s_on) (ps:=["P","n"]) 53 (by k_is) (by k_is) (by k_is) fun _ _ _ _ _ _=>x2k fun _ _=>rfl
 have p_on:=f_on o_on
 have o_worth:=ow X G base (x:="worth") (st:=s_H) (ps:=["P","form","stand"]) 58 (by k_is) (by k_is) (by k_is) fun _ _ _ _ _ _=>y1d fun _ _ _=>rfl
 have p_H:=f_H B o_worth p_on
 have o_turned:=ow X G base (x:="turned") (st:=s_F) (ps:=["P","table","stand"]) 63 (by k_is) (by k_is) (by k_is) fun _ _ _ _ _ _=>y1d fun _ _ _=>rfl
 have p_F:=f_F B o_turned p_H
 have o__law_row:=ow X G base (x:="_law_row") (st:=s_x) (ps:=["P","table","stand","size","found"]) 292 (by k_is) (by k_is) (by k_is) fun _ _ _ _ _ _=>x8r fun _ _ _ _ _=>rfl
 have p_x:=f_x B o__law_row p_F
 have o_one_at:=ow X G base (x:="one_at") (st:=s_G) (ps:=["width","place"]) 68 (by k_is) (by k_is) (by k_is) fun _ _ _ _ _ _=>x2k fun _ _=>rfl
 have p_G:=f_G B o_one_at
 have o_idle:=ow X G base (x:="idle") (st:=s_J) (ps:=["many"]) 73 (by k_is) (by k_is) (by k_is) fun _ _ _ _ _ _=>y4k fun _=>rfl
 have p_J:=f_J B o_idle p_G
 have o_column_sum:=ow X G base (x:="column_sum") (st:=s_q) (ps:=["form","table","place"]) 78 (by k_is) (by k_is) (by k_is) fun _ _ _ _ _ _=>y1d fun _ _ _=>rfl
 have p_q:=f_q B o_column_sum
 have o_form_ahead:=ow X G base (x:="form_ahead") (st:=s_p) (ps:=["P","table","form"]) 83 (by k_is) (by k_is) (by k_is) fun _ _ _ _ _ _=>y1d fun _ _ _=>rfl
 have p_p:=f_p B o_form_ahead p_q p_on
 have o_then:=ow X G base (x:="then") (st:=s_M) (ps:=["P","one","other"]) 88 (by k_is) (by k_is) (by k_is) fun _ _ _ _ _ _=>y1d fun _ _ _=>rfl
 have p_M:=f_M B o_then p_p
 have o_ladder:=ow X G base (x:="ladder") (st:=s_D) (ps:=["P","table","n"]) 102 (by k_is) (by k_is) (by k_is) fun _ _ _ _ _ _=>y1d fun _ _ _=>rfl
 have p_D:=f_D B o_ladder p_M
 have o_rungs_for:=ow X G base (x:="rungs_for") (st:=s_t) (ps:=["rungs","n"]) 107 (by k_is) (by k_is) (by k_is) fun _ _ _ _ _ _=>x2k fun _ _=>rfl
 have p_t:=f_t B o_rungs_for
 have o_rounds:=ow X G base (x:="rounds") (st:=s_E) (ps:=["P","table","n"]) 114 (by k_is) (by k_is) (by k_is) fun _ _ _ _ _ _=>y1d fun _ _ _=>rfl
 have p_E:=f_E B o_rounds p_J p_D p_t p_M
 have o__law_apart:=ow X G base (x:="_law_apart") (st:=s_k) (ps:=["P","there","r","base","goal","near","far"]) 297 (by k_is) (by k_is) (by k_is) fun _ _ _ _ _ _=>w6x fun _ _ _ _ _ _ _=>rfl
 have p_k:=f_k B o__law_apart p_x p_E p_F
 have o__law_cell:=ow X G base (x:="_law_cell") (st:=s_s) (ps:=["script","k"]) 238 (by k_is) (by k_is) (by k_is) fun _ _ _ _ _ _=>x2k fun _ _=>rfl
 have p_s:=f_s B o__law_cell
 have o__law_digits:=ow X G base (x:="_law_digits") (st:=s_h) (ps:=["cell","P","size"]) 250 (by k_is) (by k_is) (by k_is) fun _ _ _ _ _ _=>y1d fun _ _ _=>rfl
 have p_h:=f_h B o__law_digits
 have o__law_prime:=ow X G base (x:="_law_prime") (st:=s_m) (ps:=["cell"]) 243 (by k_is) (by k_is) (by k_is) fun _ _ _ _ _ _=>y4k fun _=>rfl
 have p_m:=f_m B o__law_prime
 have o__law_count:=ow X G base (x:="_law_count") (st:=s_j) (ps:=["cell"]) 264 (by k_is) (by k_is) (by k_is) fun _ _ _ _ _ _=>y4k fun _=>rfl
 have p_j:=f_j o__law_count
 have o__law_set:=ow X G base (x:="_law_set") (st:=s_w) (ps:=["cell","more","P","many"]) 271 (by k_is) (by k_is) (by k_is) fun _ _ _ _ _ _=>x2j fun _ _ _ _=>rfl
 have p_w:=f_w o__law_set p_h
 have o__law_items:=ow X G base (x:="_law_items") (st:=s_n) (ps:=["cells","P","many","agains"]) 278 (by k_is) (by k_is) (by k_is) fun _ _ _ _ _ _=>x2j fun _ _ _ _=>rfl
 have p_n:=f_n B o__law_items p_j p_w
 have o__law_program:=ow X G base (x:="_law_program") (st:=s_g) (ps:=["script","P","many"]) 285 (by k_is) (by k_is) (by k_is) fun _ _ _ _ _ _=>y1d fun _ _ _=>rfl
 have p_g:=f_g o__law_program p_s p_n p_w
 have o__law_whole:=ow X G base (x:="_law_whole") (st:=s_r) (ps:=["found"]) 257 (by k_is) (by k_is) (by k_is) fun _ _ _ _ _ _=>y4k fun _=>rfl
 have p_r:=f_r B o__law_whole
 have o_walked:=ow X G base (x:="walked") (st:=s_C) (ps:=["P","table","stand","count"]) 203 (by k_is) (by k_is) (by k_is) fun _ _ _ _ _ _=>x2j fun _ _ _ _=>rfl
 have p_C:=f_C B o_walked p_F
 have o_far_stands:=ow X G base (x:="far_stands") (st:=s_l) (ps:=["P","table","m","r","stand"]) 217 (by k_is) (by k_is) (by k_is) fun _ _ _ _ _ _=>x8r fun _ _ _ _ _=>rfl
 have p_l:=f_l o_far_stands p_E p_F p_C
 have o_root_above:=ow X G base (x:="root_above") (st:=s_o) (ps:=["r"]) 210 (by k_is) (by k_is) (by k_is) fun _ _ _ _ _ _=>y4k fun _=>rfl
 have p_o:=f_o o_root_above
 have o_on_or_apart:=ow X G base (x:="on_or_apart") (st:=s_i) (ps:=["P","table","t","r","entry","goal"]) 224 (by k_is) (by k_is) (by k_is) fun _ _ _ _ _ _=>w6y fun _ _ _ _ _ _=>rfl
 have p_i:=f_i B o_on_or_apart p_l p_o p_C
 have o_climbed:=ow X G base (x:="climbed") (st:=s_A) (ps:=["P","rungs","n","stand"]) 170 (by k_is) (by k_is) (by k_is) fun _ _ _ _ _ _=>x2j fun _ _ _ _=>rfl
 have p_A:=f_A o_climbed p_t p_F
 have o_parts_of_rings:=ow X G base (x:="parts_of_rings") (st:=s_b) (ps:=["P","many"]) 149 (by k_is) (by k_is) (by k_is) fun _ _ _ _ _ _=>x2k fun _ _=>rfl
 have p_b:=f_b B o_parts_of_rings
 have o_least_divisor:=ow X G base (x:="least_divisor") (st:=s_f) (ps:=["n"]) 46 (by k_is) (by k_is) (by k_is) fun _ _ _ _ _ _=>y4k fun _=>rfl
 have p_f:=f_f o_least_divisor
 have o_without_prime:=ow X G base (x:="without_prime") (st:=s_d) (ps:=["n","divisor"]) 135 (by k_is) (by k_is) (by k_is) fun _ _ _ _ _ _=>x2k fun _ _=>rfl
 have p_d:=f_d o_without_prime
 have o_primes_of:=ow X G base (x:="primes_of") (st:=s_u) (ps:=["n"]) 142 (by k_is) (by k_is) (by k_is) fun _ _ _ _ _ _=>y4k fun _=>rfl
 have p_u:=f_u o_primes_of p_f p_d
 have o_primes_of_parts:=ow X G base (x:="primes_of_parts") (st:=s_a) (ps:=["parts"]) 163 (by k_is) (by k_is) (by k_is) fun _ _ _ _ _ _=>y4k fun _=>rfl
 have p_a:=f_a B o_primes_of_parts p_u
 have o_product:=ow X G base (x:="product") (st:=s_B) (ps:=["parts"]) 156 (by k_is) (by k_is) (by k_is) fun _ _ _ _ _ _=>y4k fun _=>rfl
 have p_B:=f_B o_product
 have o_shortest:=ow X G base (x:="shortest") (st:=s_v) (ps:=["P","rungs","n","primes","stand"]) 177 (by k_is) (by k_is) (by k_is) fun _ _ _ _ _ _=>x8r fun _ _ _ _ _=>rfl
 have p_v:=f_v o_shortest p_A
 have o_tail:=ow X G base (x:="tail") (st:=s_L) (ps:=["P","rungs","r","stand"]) 184 (by k_is) (by k_is) (by k_is) fun _ _ _ _ _ _=>x2j fun _ _ _ _=>rfl
 have p_L:=f_L o_tail p_A p_F
 have o_ring_of_table:=ow X G base (x:="ring_of_table") (st:=s_c) (ps:=["P","table","stand"]) 189 (by k_is) (by k_is) (by k_is) fun _ _ _ _ _ _=>y1d fun _ _ _=>rfl
 have p_c:=f_c B o_ring_of_table p_A p_D p_b p_a p_B p_v p_L
 have o_setting:=ow X G base (x:="setting") (st:=s_z) (ps:=["many","x","form"]) 95 (by k_is) (by k_is) (by k_is) fun _ _ _ _ _ _=>y1d fun _ _ _=>rfl
 have p_z:=f_z B o_setting p_J
 have o_table_of:=ow X G base (x:="table_of") (st:=s_y) (ps:=["P","many","items"]) 128 (by k_is) (by k_is) (by k_is) fun _ _ _ _ _ _=>y1d fun _ _ _=>rfl
 have o_table_of_item:=ow X G base (x:="table_of_item") (st:=s_e) (ps:=["P","many","item"]) 121 (by k_is) (by k_is) (by k_is) fun _ _ _ _ _ _=>y1d fun _ _ _=>rfl
 have A_y:=f_y o_table_of o_table_of_item p_J p_M p_E p_z
 have p_y:=(A_y 12).1
 have p_e:=(A_y 12).2
 have o_reach:=ow X G base (x:="reach") (st:=s_I) (ps:=["P","many","items","stand","goal"]) 231 (by k_is) (by k_is) (by k_is) fun _ _ _ _ _ _=>x8r fun _ _ _ _ _=>rfl
 have p_I:=f_I B o_reach p_i p_c p_E p_y p_F p_C
 have o_ring:=ow X G base (x:="ring") (st:=s_K) (ps:=["P","many","items","stand"]) 196 (by k_is) (by k_is) (by k_is) fun _ _ _ _ _ _=>x2j fun _ _ _ _=>rfl
 have p_K:=f_K o_ring p_c p_y
 exact w7e (E:=⟨PySem.Challenge.rw_longrounds_k72_never_come_to.prog,w,(KK w.params),mg,base⟩) B UL (UL.binds fun _ _ _ _ _ _=>y4k fun _=>rfl) p_k p_s p_h p_m p_g p_r p_I p_K p_E p_y p_F
end
end Row
open PySem PySem.W PyProof.Rows
set_option maxRecDepth 100000 in
set_option maxHeartbeats 0 in
theorem PySem.Challenge.cw_longrounds_k72_never_come_to_holds : PySem.Challenge.rw_longrounds_k72_never_come_to.Holds := by
 w_on;o_law
 refine PySem.W.holds_open (q:=PySem.W.view PySem.Challenge.pw_longrounds_k72_never_come_to [50]) (loose:=HQ.looseOf PySem.Challenge.pw_longrounds_k72_never_come_to) (Xt:=fun s=>PySem.W.xlAt (PySem.W.view PySem.Challenge.pw_longrounds_k72_never_come_to [50]) [] s&&PySem.W.recOk [] s) (XP:=PySem.W.XL (PySem.W.view PySem.Challenge.pw_longrounds_k72_never_come_to [50]) []) (Yf:=fun s=>Row.ks.map s.heap.get?) (Ya:=fun w=>(Row.KK w.params).map fun p:Addr×Obj=>some p.2) (YP:=PySem.W.InK Row.KK) (N:=40000) ?hl (PySem.W.InK.of (K:=Row.KK) (as:=Row.ks) fun _=>rfl) PySem.W.InK.keeps (fun s e=>PySem.W.xl_of s (Bool.and_eq_true_iff.mp e).1) PySem.W.XL.keeps (by rfl) (by rfl) (by rfl) (fun s e=>PySem.W.recFacts_of (Bool.and_eq_true_iff.mp e).2) (by rfl) (by assumption) (by decide +kernel) ⟨rfl,rfl,rfl,rfl,rfl,by decide +kernel⟩ ?hw ?hc
 case hl =>
  refine HQ.left_q (by kernel_rfl) (by kernel_rfl) (fun s=>by kernel_rfl) ?_
  intro w os
  delta Row.KK Row.top
  rw[PySem.W.Fast.te16198733391757371948]
  kernel_rfl
 case hw=>w_witness2
 exact L3.walk_ofL (sp:=L3.spN L3.c_law) (l:=PySem.Challenge.rw_longrounds_k72_never_come_to) (n:=63) (k:=19) (x:="script") (CX:=fun w=>L3.CXE PySem.Challenge.rw_longrounds_k72_never_come_to.prog w) rfl (by decide) rfl ⟨rfl,by decide,by decide⟩ (K:=Row.KK) (fun w h Y=>Y) (fun w mg fa h KX G hmg=>Row.all KX G hmg) (fun K H a ns hl hS=>L3.law_true L3.law_k72 hl hS) fun w H s e s' h=>L3.cxe_false h


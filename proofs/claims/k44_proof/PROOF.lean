import PyProof.Rows.All
import Wide.All
import OpenK.AllK
import Wide.FinOn
import Lean
import PyProof.EqAt
import PyProof.EqKinds
import PyProof.TupleCall
import PySem.Challenge.RW_longrounds_k44_what_is_lost
set_option Elab.async false
set_option linter.all false
set_option maxRecDepth 100000
set_option genSizeOf false
set_option maxHeartbeats 4000000
noncomputable section
namespace L2
open PySem PySem.Spec PyProof.Rows
noncomputable abbrev Key:=Sum Int Str
noncomputable def x6m:Key->Value->Bool
 | .inl k,v=>Value.isInt k v
 | .inr x,v=>Value.isStrOf x v
noncomputable def keyH(w:World):Key->Int
 | .inl k=>hashInt k
 | .inr x=>hashStr w x
theorem z2k:∀{k:Key} {v:Value},x6m k v=true->(∃i t,k=Sum.inl i/\v=Value.int i t)∨(∃x t,k=Sum.inr x/\v=Value.str x t)
 | .inl i,v,h=>by
   obtain⟨t,e⟩:=Value.isInt_shape (k:=i) (v:=v) h
   exact .inl ⟨i,t,rfl,e⟩
 | .inr x,v,h=>by
   obtain⟨t,e⟩:=Value.isStrOf_shape (x:=x) (v:=v) h
   exact .inr ⟨x,t,rfl,e⟩
theorem x6l(a b:Int):decide ((Sum.inl a:Key)=Sum.inl b)=(a==b):=by
 by_cases e:a=b
 ·subst e;simp
 ·have h:¬(Sum.inl a:Key)=Sum.inl b:=fun q=>e (Sum.inl.inj q)
  rw[decide_eq_false h]
  exact(beq_eq_false_iff_ne.mpr e).symm
theorem x6i(a b:Str):decide ((Sum.inr a:Key)=Sum.inr b)=decide (a=b):=by
 by_cases e:a=b
 ·subst e;simp
 ·have h:¬(Sum.inr a:Key)=Sum.inr b:=fun q=>e (Sum.inr.inj q)
  rw[decide_eq_false h,decide_eq_false e]
theorem x6k(a:Int)(b:Str):decide ((Sum.inl a:Key)=Sum.inr b)=false:=decide_eq_false (fun q=>nomatch q)
theorem x6j(a:Str)(b:Int):decide ((Sum.inr a:Key)=Sum.inl b)=false:=decide_eq_false (fun q=>nomatch q)
noncomputable def y8v(prog:Program)(w:World):PySem.KeyKind prog w Key where
 is:=x6m
 hash:=keyH w
 inj:=fun v a b ha hb=>by
  rcases z2k ha with ⟨i,t,rfl,rfl⟩ | ⟨x,t,rfl,rfl⟩
  ·rcases z2k hb with ⟨j,u,rfl,e⟩ | ⟨y,u,rfl,e⟩
   ·injection e with e1 _;rw[e1]
   ·exact nomatch e
  ·rcases z2k hb with ⟨j,u,rfl,e⟩ | ⟨y,u,rfl,e⟩
   ·exact nomatch e
   ·injection e with e1 _;rw[e1]
 byValue:=fun k v h=>by
  rcases z2k h with ⟨i,t,rfl,rfl⟩ | ⟨x,t,rfl,rfl⟩<;>rfl
 pyHash:=fun hv h=>by
  rcases z2k hv with ⟨i,t,rfl,rfl⟩ | ⟨x,t,rfl,rfl⟩
  ·exact wpAny_pyHash_int h
  ·exact wpAny_pyHash_str h
 eqBool:=fun hu hv h=>by
  rcases z2k hu with ⟨i,t,rfl,rfl⟩ | ⟨x,t,rfl,rfl⟩
  ·rcases z2k hv with ⟨j,u,rfl,rfl⟩ | ⟨y,u,rfl,rfl⟩
   ·rw[x6l] at h;exact wpAny_eqBool_int h
   ·rw[x6k] at h;exact SeqAt.EqAt.int_str i t y u _ _ _ _ h
  ·rcases z2k hv with ⟨j,u,rfl,rfl⟩ | ⟨y,u,rfl,rfl⟩
   ·rw[x6j] at h;exact SeqAt.EqAt.str_int x t j u _ _ _ _ h
   ·rw[x6i] at h;exact wpAny_eqBool_str h
 «strs»:=fun k x t v h=>by
  rcases z2k h with ⟨i,u,rfl,e⟩ | ⟨y,u,rfl,e⟩
  ·exact nomatch e
  ·injection e with e1 _
   subst e1
   cases v<;>rfl
end L2
namespace L2
open PySem PySem.Spec PyProof.Rows
inductive V where
 | non | bl (b:Bool) | int (i:Int) | str (x:Str) | byt (b:Array UInt8) | flt (b:UInt64) | ref (a:Addr) | ty (n:String)
 deriving DecidableEq
noncomputable def RelV:V->Value->Prop
 | .non,u=>u=Value.none
 | .bl b,u=>u=Value.bool b
 | .int i,u=>∃t,u=Value.int i t
 | .str x,u=>∃t,u=Value.str x t
 | .byt b,u=>∃t,u=Value.bytes b t
 | .flt b,u=>∃t,u=Value.float b t
 | .ref a,u=>u=Value.ref a
 | .ty n,u=>u=Value.type n
noncomputable abbrev Vals:List V->List Value->Prop:=Paired RelV
theorem Vals.length{xs:List V}{us:List Value}(r:Vals xs us):xs.length=us.length:=Paired.length r
theorem Vals.get:∀{xs:List V} {us:List Value} {i:Nat} {x:V},Vals xs us->xs[i]? = some x->∃u,us[i]? = some u/\RelV x u
 | _,_,_,_,.nil,e=>by simp at e
 | _,_,0,_,.cons r _,e=>by simp at e;subst e;exact⟨_,rfl,r⟩
 | _,_,i+1,x,.cons _ t,e=>by
   obtain⟨u,h1,h2⟩:=Vals.get (i:=i) (x:=x) t (by simpa using e)
   exact⟨u,by simpa using h1,h2⟩
theorem Vals.set{x:V}{u:Value}(r:RelV x u):∀{xs:List V} {us:List Value} (i:Nat),Vals xs us->Vals (xs.set i x) (us.set i u)
 | _,_,_,.nil=>.nil
 | _,_,0,.cons _ t=>.cons r t
 | _,_,i+1,.cons q t=>.cons q (Vals.set r i t)
theorem Vals.append:∀{xs ys:List V} {us ws:List Value},Vals xs us->Vals ys ws->Vals (xs++ys) (us++ws)
 | _,_,_,_,.nil,s=>s
 | _,_,_,_,.cons r t,s=>.cons r (Vals.append t s)
theorem Vals.take:∀{xs:List V} {us:List Value} (n:Nat),Vals xs us->Vals (xs.take n) (us.take n)
 | _,_,0,_=>.nil
 | _,_,_+1,.nil=>.nil
 | _,_,n+1,.cons r t=>.cons r (Vals.take n t)
theorem Vals.drop:∀{xs:List V} {us:List Value} (n:Nat),Vals xs us->Vals (xs.drop n) (us.drop n)
 | _,_,0,r=>r
 | _,_,_+1,.nil=>.nil
 | _,_,n+1,.cons _ t=>Vals.drop n t
noncomputable def RelO:Option V->Option Value->Prop
 | some v,some u=>RelV v u
 | none,none=>True
 | _,_=>False
noncomputable def KV{κ:Type}:List (κ×V)->List (κ×Value)->Prop:=Paired fun(p:κ×V) (q:κ×Value)=>p.1=q.1/\RelV p.2 q.2
noncomputable def kV:Key->V
 | .inl i=>.int i
 | .inr x=>.str x
inductive HO where
 | lst (xs:List V)
 | tup (xs:List V)
 | dK (kvs:List (Key×V)) | dT (kvs:List (List Key×V))
 | set (S:Int->Bool) (n:Nat)
 | ins (C dx:Addr) (fs:List (Str×V))
 | own (x:Addr)
 | xd (fs:List (Str×V))
 | met (f x:Addr)
 | rng (lo hi:Int)
 | frz (o:Obj) (u:HO)
 | tbl (ps:Array Value)
 | ext (φ:Heap->Prop)
noncomputable abbrev Hp:=Addr->Option HO
noncomputable def upd(H:Hp)(a:Addr)(o:HO):Hp:=fun b=>if b=a then some o else H b
theorem z0u{H:Hp}{a:Addr}{o:HO}:upd H a o a=some o:=by unfold upd;rw[if_pos rfl]
theorem z0q{H:Hp}{a b:Addr}{o:HO}(h:b≠a):upd H a o b=H b:=by unfold upd;rw[if_neg h]
theorem z0s{H:Hp}{a b:Addr}{o:HO}(h:H a=some o)(h':H b=none):a≠b:=by
 intro e;subst e;rw[h] at h';cases h'
section
variable (P:Program)(w:World)
noncomputable def z7b(H:Hp)(h:Heap)(a:Addr):HO->Prop
 | .lst xs=>xs.length<=sizeLine/\∃(its:List Value) (n:Nat),Vals xs its/\h.get? a=some { cls:=.type "list",data:=.seq its.toArray n }
 | .tup xs=>xs.length<=sizeLine/\∃its:List Value,Vals xs its/\IsTup h a its.toArray
 | .dK kvs=>kvs.length<=sizeLine/\(a==sysModules)=false/\∃vs,KV kvs vs/\h.DictOf (y8v P w) a vs
 | .dT kvs=>kvs.length<=sizeLine/\(a==sysModules)=false/\∃xs:List (List Key×Addr×Value),
    Paired (fun(p:List Key×V) (q:List Key×Addr×Value)=>p.1=q.1/\H q.2.1=some (.tup (p.1.map kV))/\RelV p.2 q.2.2) kvs xs /\
    ∃o es ep,h.get? a=some o/\o.ExactDict/\o.data = .dict es ep/\es.toList=xs.map (entryOfKey (tupleKind (y8v P w)))/\(xs.map (·.1)).Nodup
 | .set S n=>h.SetOf (intKind P w) a S n
 | .ins C dx fs=>H dx=some (.own a)/\fs.length<=1000/\dx≠a/\h.get? a=some (PySem.W.instObj C dx) /\
    ∃mA,h.Ns1 dx mA/\(∀f,RelO (fs.lookup f) (mA f))/\PySem.Within mA (fs.map (·.1))
 | .own _=>∃o,h.get? a=some o
 | .xd fs=>∃mA,h.Ns1 a mA/\∀f,RelO (fs.lookup f) (mA f)
 | .rng lo hi=>∃t u v,h.get? a=some { cls:=.type "range",data:=.fields #[.int lo t,.int hi u,.int 1 v] }
 | .frz o u=>h.get? a=some o/\z7b H h a u
 | .tbl ps=>h.get? a=some { cls:=.none,data:=.fields ps }
 | .met f x=>h.get? a=some (PySem.W.methodObj (.ref f) (.ref x))
 | .ext φ=>φ h/\(∃o,h.get? a=some o)/\∀h1 h2:Heap,φ h1->(∀o,h1.get? a=some o->h2.get? a=some o)->φ h2
noncomputable def HOk(H:Hp)(h:Heap):Prop:=∀a o,H a=some o->z7b P w H h a o
end
section
variable {P:Program}{w:World}{H H':Hp}{h h':Heap}{a:Addr}{o:HO}
theorem z7b.lt(x:z7b P w H h a o):a<h.objs.size:=by
 cases o with
 | lst xs=>obtain⟨_,_,_,_,e⟩:=x;exact Heap.lt_size e
 | tup xs=>obtain⟨_,_,_,p⟩:=x;exact p.lt
 | dK kvs=>obtain⟨_,_,_,_,o,_,_,e,_⟩:=x;exact Heap.lt_size e
 | dT kvs=>obtain⟨_,_,_,_,o,_,_,e,_⟩:=x;exact Heap.lt_size e
 | set S n=>obtain⟨o,_,_,_,e,_⟩:=x;exact Heap.lt_size e
 | ins C dx fs=>obtain⟨_,_,_,e,_⟩:=x;exact Heap.lt_size e
 | own y=>obtain⟨_,e⟩:=x;exact Heap.lt_size e
 | xd fs=>obtain⟨_,⟨_,_,_,e,_⟩,_⟩:=x;exact Heap.lt_size e
 | rng lo hi=>obtain⟨_,_,_,e⟩:=x;exact Heap.lt_size e
 | frz ob u=>obtain⟨e,_⟩:=x;exact Heap.lt_size e
 | tbl ps=>exact Heap.lt_size (show h.get? a=some _ from x)
 | met f y=>exact Heap.lt_size (show h.get? a=some _ from x)
 | ext φ=>obtain⟨_,⟨_,e⟩,_⟩:=x;exact Heap.lt_size e
theorem Paired.mapP{α β:Type}{F G:α->β->Prop}:∀{l₁:List α} {l₂:List β},Paired F l₁ l₂->(∀a b,F a b->G a b)->Paired G l₁ l₂
 | _,_,.nil,_=>.nil
 | _,_,.cons r t,f=>.cons (f _ _ r) (Paired.mapP t f)
theorem z7b.stay(x:z7b P w H h a o)(k:∀b u,(b=a∨H b=some (.own a))->h.get? b=some u->h'.get? b=some u)
 (ho:∀b,H b=some (.own a)->H' b=some (.own a)) (ht:∀b xs,H b=some (.tup xs)->H' b=some (.tup xs)):z7b P w H' h' a o:=by
 induction o with
 | lst xs=>obtain⟨z,its,n,r,e⟩:=x;exact⟨z,its,n,r,k _ _ (.inl rfl) e⟩
 | tup xs=>obtain⟨z,its,r,ob,e,c⟩:=x;exact⟨z,its,r,ob,k _ _ (.inl rfl) e,c⟩
 | dK kvs=>obtain⟨z,y,vs,r,ob,es,ep,e,c⟩:=x;exact⟨z,y,vs,r,ob,es,ep,k _ _ (.inl rfl) e,c⟩
 | dT kvs =>
   obtain⟨z,y,xs,r,ob,es,ep,e,c⟩:=x
   exact⟨z,y,xs,Paired.mapP r fun p q z=>⟨z.1,ht _ _ z.2.1,z.2.2⟩,ob,es,ep,k _ _ (.inl rfl) e,c⟩
 | set S n=>obtain⟨ob,es,ep,t,e,c⟩:=x;exact⟨ob,es,ep,t,k _ _ (.inl rfl) e,c⟩
 | ins C dx fs =>
   obtain⟨d,z,ne,e,mA,⟨od,es,ep,e2,c⟩,r⟩:=x
   exact⟨ho _ d,z,ne,k _ _ (.inl rfl) e,mA,⟨od,es,ep,k _ _ (.inr d) e2,c⟩,r⟩
 | own y=>obtain⟨ob,e⟩:=x;exact⟨ob,k _ _ (.inl rfl) e⟩
 | xd fs=>obtain⟨mA,⟨od,es,ep,e,c⟩,r⟩:=x;exact⟨mA,⟨od,es,ep,k _ _ (.inl rfl) e,c⟩,r⟩
 | rng lo hi=>obtain⟨t,u,v,e⟩:=x;exact⟨t,u,v,k _ _ (.inl rfl) e⟩
 | frz ob u ih=>obtain⟨e,q⟩:=x;exact⟨k _ _ (.inl rfl) e,ih q⟩
 | tbl ps =>
   have e:h.get? a=some { cls:=.none,data:=.fields ps }:=x
   show h'.get? a=some { cls:=.none,data:=.fields ps }
   exact k a _ (.inl rfl) e
 | met f y =>
   have e:h.get? a=some (PySem.W.methodObj (.ref f) (.ref y)):=x
   show h'.get? a=some (PySem.W.methodObj (.ref f) (.ref y))
   exact k a _ (.inl rfl) e
 | ext φ=>obtain⟨p,⟨o,e⟩,st⟩:=x;exact⟨st _ _ p fun o q=>k _ _ (.inl rfl) q,⟨o,k _ _ (.inl rfl) e⟩,st⟩
theorem HOk.lt(x:HOk P w H h)(e:H a=some o):a<h.objs.size:=(x a o e).lt
theorem HOk.fresh(x:HOk P w H h)(e:h.objs.size<=a):H a=none:=by
 cases q:H a with
 | none=>rfl
 | some u=>exact absurd (Nat.lt_of_lt_of_le (x.lt q) e) (Nat.lt_irrefl _)
theorem HOk.kept(x:HOk P w H h)(k:∀b u,h.get? b=some u->h'.get? b=some u):HOk P w H h':=fun a o e =>
 (x a o e).stay (fun b u _ q=>k b u q) (fun _ q=>q) fun _ _ q=>q
theorem HOk.laid(x:HOk P w H h)(k:∀b u,h.get? b=some u->h'.get? b=some u)(hp:h.objs.size<=a)(new:z7b P w (upd H a o) h' a o):HOk P w (upd H a o) h':=fun b u e=>by
 have hn:=x.fresh hp
 by_cases hb:b=a
 ·subst hb;rw[z0u] at e;cases e;exact new
 ·rw[z0q hb] at e
  exact(x b u e).stay (fun c v _ q=>k c v q) (fun c q=>by rw[z0q (z0s q hn)];exact q) fun c xs q=>by rw[z0q (z0s q hn)];exact q
end
noncomputable def Rd(H:Hp)(a:Addr)(u:HO):Prop:=H a=some u∨∃o,H a=some (.frz o u)
theorem Rd.ok{P:Program}{w:World}{H:Hp}{h:Heap}{a:Addr}{u:HO}(r:Rd H a u)(x:HOk P w H h):z7b P w H h a u:=by
 rcases r with r | ⟨o,r⟩
 ·exact x a u r
 ·obtain⟨_,q⟩:=x a _ r
  exact q
noncomputable def Mut:Option HO->Prop
 | some (.lst _)=>True
 | some (.dK _)=>True
 | some (.dT _)=>True
 | some (.set _ _)=>True
 | some (.ins _ _ _)=>True
 | some (.ext _)=>True
 | _=>False
section
variable {P:Program}{w:World}{H:Hp}{h h':Heap}{x e:Addr}{o':HO}
theorem HOk.write(ok:HOk P w H h)(mu:Mut (H x))(he:e=x∨H e=some (.own x))(k:∀b u,b≠e->h.get? b=some u->h'.get? b=some u)(heo:∃u,h'.get? e=some u)
 (new:z7b P w (upd H x o') h' x o'):HOk P w (upd H x o') h':=fun b u q=>by
 have nown:∀c y,H c=some (.own y)->c≠x:=fun c y r z=>by subst z;rw[r] at mu;exact mu
 have ntup:∀c xs,H c=some (.tup xs)->c≠x:=fun c xs r z=>by subst z;rw[r] at mu;exact mu
 by_cases hb:b=x
 ·subst hb;rw[z0u] at q;cases q;exact new
 ·rw[z0q hb] at q
  by_cases hbe:b=e
  ·have q':H b=some (.own x):=by
    rcases he with z | z
    ·exact absurd (hbe.trans z) hb
    ·rw[hbe];exact z
   rw[q] at q';cases q'
   obtain⟨v,hv⟩:=heo
   exact⟨v,by rw[hbe];exact hv⟩
  ·refine(ok b u q).stay (fun c v hc r=>k c v ?_ r) (fun c r=>by rw[z0q (nown c b r)];exact r) fun c xs r=>by rw[z0q (ntup c xs r)];exact r
   rcases hc with rfl | hc
   ·exact hbe
   ·rintro rfl
    rcases he with z | z
    ·exact nown c b hc z
    ·rw[hc] at z;cases z;exact hb rfl
end
structure Un (fs ex:List Addr) (H H':Hp) (h h':Heap):Prop where
 keep:∀b o,h.get? b=some o->H b=none->b ∉ fs->b ∉ ex->h'.get? b=some o
 slot:∀b o,h.get? b=some o->H b=none->b∈fs->b ∉ ex->∃sl,h'.get? b=some { o with slots:=sl }
 free:∀b o,h.get? b=some o->H b=none->b ∉ ex->H' b=none
 there:∀b o,h.get? b=some o->b ∉ ex->∃o',h'.get? b=some o'
 tups:∀b xs,H b=some (.tup xs)->H' b=some (.tup xs)
 frzs:∀b o u,H b=some (.frz o u)->H' b=some (.frz o u)
 tbls:∀b ps,H b=some (.tbl ps)->∃more,H' b=some (.tbl (ps++more))
section
variable {fs fs' ex ex':List Addr}{H H1 H2:Hp}{h h1 h2 h':Heap}{a x e:Addr}{o:HO}
theorem Un.any(u:Un fs ex H H1 h h1){b:Addr}{ob:Obj}(q:h.get? b=some ob)(n:H b=none)(hx:b ∉ ex):∃sl,h1.get? b=some { ob with slots:=sl }:=by
 by_cases hb:b∈fs
 ·exact u.slot b ob q n hb hx
 ·exact⟨ob.slots,u.keep b ob q n hb hx⟩
theorem Un.kept(k:∀b u,h.get? b=some u->h'.get? b=some u):Un fs ex H H h h' :=
 ⟨fun b ob q _ _ _=>k b ob q,fun b ob q _ _ _=>⟨ob.slots,k b ob q⟩,fun _ _ _ n _=>n,fun b ob q _=>⟨ob,k b ob q⟩,fun _ _ q=>q,fun _ _ _ q=>q,fun _ ps q=>⟨#[],by rw[q];simp⟩⟩
theorem Un.refl:Un fs ex H H h h:=Un.kept fun _ _ q=>q
theorem Un.laid(k:∀b u,h.get? b=some u->h'.get? b=some u)(hp:h.objs.size<=a)(hn:H a=none):Un fs ex H (upd H a o) h h' where
 keep:=fun b u q _ _ _=>k b u q
 slot:=fun b u q _ _ _=>⟨u.slots,k b u q⟩
 free:=fun b u q n _=>by rw[z0q (Nat.ne_of_lt (Nat.lt_of_lt_of_le (Heap.lt_size q) hp))];exact n
 there:=fun b u q _=>⟨u,k b u q⟩
 tups:=fun b xs q=>by rw[z0q (z0s q hn)];exact q
 frzs:=fun b u xs q=>by rw[z0q (z0s q hn)];exact q
 tbls:=fun b ps q=>⟨#[],by rw[z0q (z0s q hn),q];simp⟩
theorem Un.write(mu:Mut (H x))(he:e=x∨H e=some (.own x))(k:∀b u,b≠e->h.get? b=some u->h'.get? b=some u)(heo:∃u,h'.get? e=some u):Un fs ex H (upd H x o) h h':=by
 have hx:∀b,H b=none->b≠x:=fun b n z=>by subst z;rw[n] at mu;exact mu
 have hb:∀b,H b=none->b≠e:=fun b n z=>by
  subst z
  rcases he with r | r
  ·exact hx b n r
  ·rw[n] at r;cases r
 have hm:∀b u,H b=some u->¬Mut (some u)->b≠x:=fun b u q nm z=>by subst z;rw[q] at mu;exact nm mu
 refine⟨fun b u q n _ _=>k b u (hb b n) q,fun b u q n _ _=>⟨u.slots,k b u (hb b n) q⟩,fun b u q n _=>by rw[z0q (hx b n)];exact n,fun b u q _=>?_,
  fun b xs q=>by rw[z0q (hm b _ q fun z=>z)];exact q,fun b u xs q=>by rw[z0q (hm b _ q fun z=>z)];exact q,fun b ps q=>⟨#[],by rw[z0q (hm b _ q fun z=>z),q];simp⟩⟩
 by_cases hbe:b=e
 ·subst hbe;exact heo
 ·exact⟨u,k b u hbe q⟩
end
noncomputable def trk(h:Heap)(H:Hp):List Addr:=(List.range h.objs.size).filter fun a=>(H a).isSome
noncomputable def hidT(h:Heap)(H:Hp):Heap:=PySem.W.hideAll h (trk h H)
theorem y9i(h:Heap)(H:Hp):(hidT h H).objs.size=h.objs.size:=PySem.W.hideAll_size _ _
theorem y1u{h:Heap}{H:Hp}{b:Addr}{o:Obj}(e:h.get? b=some o)(n:H b=none):(hidT h H).get? b=some o :=
 PySem.W.hideAll_get _ e fun hm=>by
  have q:(H b).isSome=true:=(List.mem_filter.mp hm).2
  rw[n] at q;simp at q
theorem y4l{h:Heap}{H:Hp}{b:Addr}{o:Obj}(e:(hidT h H).get? b=some o):h.get? b=some o/\H b=none:=by
 have e':h.get? b=some o:=PySem.W.of_hideAll (trk h H) e
 refine⟨e',?_⟩
 cases q:H b with
 | none=>rfl
 | some x =>
   have hm:b∈trk h H:=List.mem_filter.mpr ⟨List.mem_range.mpr (Heap.lt_size e'),by simp[q]⟩
   have z:(hidT h H).get? b=none:=PySem.W.hideAll_none (trk h H) hm
   rw[z] at e;cases e
noncomputable def x4y(g h:Heap)(L:Addr):List (Addr×Obj):=(List.range h.objs.size).filterMap fun a=>if a=L∨(g.get? a).isSome=true then none else (h.get? a).map fun o=>(a,o)
noncomputable def rest(g h:Heap)(L d:Addr):List (Addr×Obj):=(x4y g h L).filter fun p=>decide (p.1≠d)
end L2
namespace L2
open PySem PySem.Spec PyProof.Rows
structure Mod (K:PySem.W.Frag) (mg:Str->Option Value) (base:Heap):Prop where
 kin:K.In base
 glob:base.Ns mainGlobals mg
 blt:∃mb,base.Ns builtinsNs mb/\∀x:Str,x≠"__name__"->mb x=bootBuiltins x
 nolimit:base.NoLimit
structure Cx where
 prog:Program
 w:World
 K:PySem.W.Frag
 mg:Str->Option Value
 base:Heap
 A:Around
 N:List Str
 s₀:Shared
 H₀:Hp
 env:Env
 outer:List Env
 stack:List Env
 ex:List Addr
 fn:Str->Bool
 calm:Bool
 pn:List (Addr×Obj)
 xe:Value->Shared->Prop
noncomputable def frs(l:List Env):List Addr:=l.filterMap (·.frame)
noncomputable abbrev Cx.fs (X:Cx):List Addr:=frs X.outer
noncomputable def Vis(sc:Scope)(x:Str):Prop:=sc.names.lookup x=some .local∨sc.names.lookup x=some .cell∨sc.names.lookup x=some .free
noncomputable def Loc(sc:Scope)(x:Str):Prop:=sc.names.lookup x=some .local∨sc.names.lookup x=some .cell
noncomputable def Look(env:Env)(h:Heap)(m:Str->Option Value)(x:Str)(u:Value):Prop :=
 (env.kindOf x=some .local/\m x=some u)∨((env.kindOf x=some .cell∨env.kindOf x=some .free)/\∃c,env.cells.lookup x=some c/\h.IsCell c (some u))
structure Cx.Ok (X:Cx):Prop where
 mod:Mod X.K X.mg X.base
 kind:X.env.scope.kind = .function
 glob:X.env.globals=mainGlobals
 blt:X.env.builtins=builtinsNs
 above:X.s₀.heap.objs.size<=X.env.locals
 inj:∀x y c,X.env.cells.lookup x=some c->X.env.cells.lookup y=some c->x=y
 has:∀x,(X.env.kindOf x=some .cell∨X.env.kindOf x=some .free)->∃c,X.env.cells.lookup x=some c
 cab:∀x c,X.fn x=true->X.env.cells.lookup x=some c->X.s₀.heap.objs.size<=c
 hd:X.calm=true->X.A.handled=none
 frames:X.A.frames=some X.stack
 stk:X.stack=X.outer∨(X.stack=X.env::X.outer/\X.env.frame=some X.env.locals)
 exf:∀b∈X.ex,b≠X.env.locals/\∀x c,X.env.cells.lookup x=some c->c≠b
 bs:∀b o,X.base.get? b=some o->X.s₀.heap.get? b=some o/\X.H₀ b=none
 bsz:X.base.objs.size<=X.s₀.heap.objs.size
 noex:∀b o,X.base.get? b=some o->b ∉ X.ex
 exfs:∀b∈X.ex,b ∉ X.fs
 funs:X.s₀.heap.FunFrames X.base X.outer
 frf:∀b∈X.fs,X.H₀ b=none
structure Inv (X:Cx) (pins:List (Addr×Obj)) (σ:List (Option V)) (H:Hp) (s:Shared):Prop where
 ok:X.Ok
 os:s.os=X.s₀.os
 bare:AllBare s.gens
 base:Un X.fs X.ex X.H₀ H X.s₀.heap s.heap
 loc:∃m,s.heap.Ns X.env.locals m/\∀(i:Nat) (x:Str) (v:V),X.N[i]? = some x->σ[i]? = some (some v)->Vis X.env.scope x->∃u,RelV v u/\Look X.env s.heap m x u
 cell:∀x c,X.env.cells.lookup x=some c->∃v,s.heap.IsCell c v
 free:H X.env.locals=none
 freeC:∀x c,X.env.cells.lookup x=some c->H c=none
 pin:∀p∈X.pn++pins,s.heap.get? p.1=some p.2/\H p.1=none/\p.1≠X.env.locals/\p.1 ∉ X.fs/\∀v,p.2.data ≠ .cell v
 hok:HOk X.prog X.w H s.heap
 len:σ.length=X.N.length
section
variable {X:Cx}{pins:List (Addr×Obj)}{σ:List (Option V)}{H H':Hp}{s:Shared}{h':Heap}
theorem Cx.Ok.nofr(ok:X.Ok){b:Addr}{o:Obj}(e:X.base.get? b=some o):b ∉ X.fs:=fun hb=>by
 have:=(ok.funs.mem hb).1
 rw[e] at this;cases this
theorem Inv.bs(I:Inv X pins σ H s):∀b o,X.base.get? b=some o->s.heap.get? b=some o/\H b=none:=fun b o e =>
 ⟨I.base.keep b o (I.ok.bs b o e).1 (I.ok.bs b o e).2 (I.ok.nofr e) (I.ok.noex b o e),I.base.free b o (I.ok.bs b o e).1 (I.ok.bs b o e).2 (I.ok.noex b o e)⟩
theorem Inv.bk(I:Inv X pins σ H s):∀b o,X.base.get? b=some o->s.heap.get? b=some o:=fun b o e=>(I.bs b o e).1
theorem Inv.mod(I:Inv X pins σ H s):Mod X.K X.mg X.base:=I.ok.mod
theorem Inv.kIn(I:Inv X pins σ H s):X.K.In s.heap:=I.ok.mod.kin.keeps I.bk
theorem Inv.lt(I:Inv X pins σ H s):X.env.locals<s.heap.objs.size:=let ⟨_,hn,_⟩:=I.loc;hn.lt
theorem Inv.sz(I:Inv X pins σ H s):X.s₀.heap.objs.size<=s.heap.objs.size:=Nat.le_trans I.ok.above (Nat.le_of_lt I.lt)
theorem Inv.nofs(I:Inv X pins σ H s){a:Addr}(h:s.heap.objs.size<=a):a ∉ X.fs:=fun hb=>by
 obtain⟨_,o,ho,_⟩:=I.ok.funs.mem hb
 exact absurd (Nat.lt_of_lt_of_le (Heap.lt_size ho) (Nat.le_trans I.sz h)) (Nat.lt_irrefl _)
theorem Inv.cne(I:Inv X pins σ H s):∀x c,X.env.cells.lookup x=some c->c≠X.env.locals:=fun x c e z=>by
 obtain⟨v,o,ho,hd⟩:=I.cell x c e
 obtain⟨m,⟨o',es,ep,ho',hd',_⟩,_⟩:=I.loc
 rw[z,ho'] at ho;cases ho;rw[hd'] at hd;cases hd
theorem Inv.funs(I:Inv X pins σ H s):s.heap.FunFrames X.base X.outer:=by
 have all:∀(l:List Env),(∀b∈frs l,b∈X.fs)->X.s₀.heap.FunFrames X.base l->s.heap.FunFrames X.base l:=by
  intro l
  induction l with
  | nil=>intro _ _;trivial
  | cons env r ih =>
    intro hs hl
    obtain⟨hk,⟨L,o,hf,hn,ho,hd⟩,hr⟩:=hl
    have hL:L∈X.fs:=hs L (by unfold frs;rw[List.filterMap_cons,hf];exact List.mem_cons_self)
    obtain⟨sl,e⟩:=I.base.slot L o ho (I.ok.frf L hL) hL fun z=>I.ok.exfs L z hL
    exact⟨hk,⟨L,_,hf,hn,e,hd⟩,ih (fun b hb=>hs b (by unfold frs;rw[List.filterMap_cons,hf];exact List.mem_cons_of_mem _ hb)) hr⟩
 exact all X.outer (fun _ hb=>hb) I.ok.funs
theorem Inv.stack(I:Inv X pins σ H s):s.heap.FunFrames X.base X.stack:=by
 rcases I.ok.stk with e | ⟨e,hf⟩
 ·rw[e];exact I.funs
 ·rw[e]
  obtain⟨m,hn,_⟩:=I.loc
  refine .cons (by rw[I.ok.kind];decide) hf hn ?_ I.funs
  exact Heap.get?_none_of_le (Nat.le_trans I.ok.bsz I.ok.above)
theorem Inv.stkSub(I:Inv X pins σ H s):∀b∈frs X.stack,b∈X.env.locals::X.fs:=fun b hb=>by
 rcases I.ok.stk with e | ⟨e,hf⟩
 ·rw[e] at hb;exact List.mem_cons_of_mem _ hb
 ·rw[e] at hb
  unfold frs at hb
  rw[List.filterMap_cons,hf] at hb
  exact hb
theorem Inv.stkFree(I:Inv X pins σ H s):∀b∈frs X.stack,H b=none:=fun b hb=>by
 rcases List.mem_cons.mp (I.stkSub b hb) with e | hb
 ·rw[e];exact I.free
 ·obtain⟨_,o,ho,_⟩:=I.ok.funs.mem hb
  exact I.base.free b o ho (I.ok.frf b hb) fun z=>I.ok.exfs b z hb
theorem Inv.step{g':Array GenState}{t':Nat}{d':Drawn}{ch:List Addr}(I:Inv X pins σ H s)
 (hch:∀b∈ch,(b∈X.ex∨X.s₀.heap.get? b=none)/\b≠X.env.locals/\(∀x c,X.env.cells.lookup x=some c->c≠b)/\∀p∈X.pn++pins,p.1≠b)
 (keep:∀b o,b≠X.env.locals->b ∉ X.fs->b ∉ ch->s.heap.get? b=some o->H b=none->h'.get? b=some o)
 (slot:∀b o,b≠X.env.locals->b∈X.fs->b ∉ ch->s.heap.get? b=some o->H b=none->∃sl,h'.get? b=some { o with slots:=sl }) (free:∀b o,b ∉ ch->s.heap.get? b=some o->H b=none->H' b=none)
 (there:∀b o,b ∉ ch->s.heap.get? b=some o->∃o',h'.get? b=some o')
 (tups:∀b xs,H b=some (.tup xs)->H' b=some (.tup xs)) (frzs:∀b o u,H b=some (.frz o u)->H' b=some (.frz o u)) (tbls:∀b ps,H b=some (.tbl ps)->∃more,H' b=some (.tbl (ps++more)))
 (ns:∀m,s.heap.Ns X.env.locals m->h'.Ns X.env.locals m) (hok:HOk X.prog X.w H' h') (hg:AllBare g') :
 Inv X pins σ H' { s with heap:=h',gens:=g',drawn:=d',toks:=t' }:=by
 have neL:∀b o,X.s₀.heap.get? b=some o->b≠X.env.locals:=fun b o e=>Nat.ne_of_lt (Nat.lt_of_lt_of_le (Heap.lt_size e) I.ok.above)
 have neC:∀b o,X.s₀.heap.get? b=some o->b ∉ X.ex->b ∉ ch:=fun b o e hx hb=>by
  rcases(hch b hb).1 with z | z
  ·exact hx z
  ·rw[e] at z;cases z
 have cellK:∀x c,X.env.cells.lookup x=some c->∀v,s.heap.IsCell c v->h'.IsCell c v:=fun x c e v ⟨o,ho,hd⟩=>by
  have nch:c ∉ ch:=fun z=>(hch c z).2.2.1 x c e rfl
  by_cases hc:c∈X.fs
  ·obtain⟨sl,q⟩:=slot c o (I.cne x c e) hc nch ho (I.freeC x c e)
   exact⟨_,q,hd⟩
  ·exact⟨o,keep c o (I.cne x c e) hc nch ho (I.freeC x c e),hd⟩
 refine⟨I.ok,I.os,hg,⟨fun b o e n hb hx=>?_,fun b o e n hb hx=>?_,fun b o e n hx=>?_,fun b o e hx=>?_,fun b xs e=>tups b xs (I.base.tups b xs e),fun b o xs e=>frzs b o xs (I.base.frzs b o xs e),fun b ps e=>?_⟩,?_,fun x c e=>?_,?_,fun x c e=>?_,fun p hp=>?_,hok,I.len⟩
 ·exact keep b o (neL b o e) hb (neC b o e hx) (I.base.keep b o e n hb hx) (I.base.free b o e n hx)
 ·obtain⟨sl,e1⟩:=I.base.slot b o e n hb hx
  obtain⟨sl',e2⟩:=slot b _ (neL b o e) hb (neC b o e hx) e1 (I.base.free b o e n hx)
  exact⟨sl',e2⟩
 ·obtain⟨o',e1⟩:=I.base.there b o e hx
  exact free b o' (neC b o e hx) e1 (I.base.free b o e n hx)
 ·obtain⟨o',e1⟩:=I.base.there b o e hx
  exact there b o' (neC b o e hx) e1
 ·obtain⟨m1,e1⟩:=I.base.tbls b ps e
  obtain⟨m2,e2⟩:=tbls b _ e1
  exact⟨m1++m2,by rw[e2,Array.append_assoc]⟩
 ·obtain⟨m,hn,hl⟩:=I.loc
  refine⟨m,ns m hn,fun i x v e1 e2 e3=>?_⟩
  obtain⟨u,r,l⟩:=hl i x v e1 e2 e3
  refine⟨u,r,?_⟩
  rcases l with l | ⟨k,c,e,z⟩
  ·exact .inl l
  ·exact .inr ⟨k,c,e,cellK x c e _ z⟩
 ·obtain⟨v,z⟩:=I.cell x c e
  exact⟨v,cellK x c e v z⟩
 ·obtain⟨m,⟨o,_,_,ho,_⟩,_⟩:=I.loc
  exact free _ o (fun z=>(hch _ z).2.1 rfl) ho I.free
 ·obtain⟨v,o,ho,hd⟩:=I.cell x c e
  exact free c o (fun z=>(hch c z).2.2.1 x c e rfl) ho (I.freeC x c e)
 ·obtain⟨e,n,ne,nf,d⟩:=I.pin p hp
  have nch:p.1 ∉ ch:=fun z=>(hch p.1 z).2.2.2 p hp rfl
  exact⟨keep p.1 p.2 ne nf nch e n,free p.1 p.2 nch e n,ne,nf,d⟩
theorem Inv.un{t':Nat}(I:Inv X pins σ H s)(u:Un X.fs [] H H' s.heap h')(hok:HOk X.prog X.w H' h'):Inv X pins σ H' { s with heap:=h',toks:=t' }:=by
 obtain⟨m,⟨o,es,ep,ho,r⟩,_⟩:=id I.loc
 obtain⟨sl,hL⟩:=u.any ho I.free (by simp)
 exact I.step (g':=s.gens) (d':=s.drawn) (ch:=[]) (fun _ z=>nomatch z) (fun b o _ hb _ e n=>u.keep b o e n hb (by simp)) (fun b o _ hb _ e n=>u.slot b o e n hb (by simp)) (fun b o _ e n=>u.free b o e n (by simp)) (fun b o _ e=>u.there b o e (by simp)) u.tups u.frzs u.tbls (fun m' hm=>by
  obtain⟨o',es',ep',ho',r'⟩:=hm
  rw[ho] at ho';cases ho'
  exact⟨_,es',ep',hL,r'⟩) hok I.bare
theorem Inv.call{g':Array GenState}{t':Nat}{d':Drawn}{ch:List Addr}(I:Inv X pins σ H s)(u:Un (frs X.stack) ch H H' s.heap h')(hok:HOk X.prog X.w H' h')(hg:AllBare g')
 (hch:∀b∈ch,(b∈X.ex∨X.s₀.heap.get? b=none)/\b≠X.env.locals/\(∀x c,X.env.cells.lookup x=some c->c≠b)/\∀p∈X.pn++pins,p.1≠b) :
 Inv X pins σ H' { s with heap:=h',gens:=g',drawn:=d',toks:=t' }:=by
 obtain⟨m,⟨o,es,ep,ho,r⟩,_⟩:=id I.loc
 obtain⟨sl,hL⟩:=u.any ho I.free fun z=>(hch _ z).2.1 rfl
 exact I.step (ch:=ch) hch (fun b o hL hb hc e n=>u.keep b o e n (fun z=>(List.mem_cons.mp (I.stkSub b z)).elim hL hb) hc) (fun b o _ _ hc e n=>u.any e n hc) (fun b o hc e n=>u.free b o e n hc) (fun b o hc e=>u.there b o e hc) u.tups u.frzs u.tbls (fun m' hm=>by
  obtain⟨o',es',ep',ho',r'⟩:=hm
  rw[ho] at ho';cases ho'
  exact⟨_,es',ep',hL,r'⟩) hok hg
theorem Inv.turned{t':Nat}{it:Addr}(I:Inv X pins σ H s)(k:∀b o,b≠it->s.heap.get? b=some o->h'.get? b=some o)(hn:H it=none)(hL:it≠X.env.locals)
 (h1:it∈X.ex∨X.s₀.heap.objs.size<=it) (h2:∀x c,X.env.cells.lookup x=some c->c≠it) (h3:∀p∈X.pn++pins,p.1≠it):Inv X pins σ H { s with heap:=h',toks:=t' }:=by
 have nit:∀b u,H b=some u->b≠it:=fun b u e z=>by rw[z,hn] at e;cases e
 refine I.step (g':=s.gens) (d':=s.drawn) (ch:=[it]) (fun b hb=>?_) (fun b o _ _ hc e _=>k b o (fun z=>hc (by simp[z])) e) (fun b o _ _ hc e _=>⟨o.slots,k b o (fun z=>hc (by simp[z])) e⟩) (fun _ _ _ _ n=>n)
  (fun b o hc e=>⟨o,k b o (fun z=>hc (by simp[z])) e⟩) (fun _ _ e=>e) (fun _ _ _ e=>e) (fun b ps e=>⟨#[],by rw[e];simp⟩) (fun m hm=>?_) (fun b u e=>?_) I.bare
 ·have e:b=it:=by simpa using hb
  subst e
  exact⟨h1.imp_right fun z=>Heap.get?_none_of_le z,hL,h2,h3⟩
 ·obtain⟨o,es,ep,ho,r⟩:=hm
  exact⟨o,es,ep,k _ o (Ne.symm hL) ho,r⟩
 ·refine(I.hok b u e).stay (fun c v hc q=>k c v ?_ q) (fun _ q=>q) fun _ _ q=>q
  rcases hc with z | z
  ·rw[z];exact nit b u e
  ·exact nit c _ z
theorem Inv.tok(I:Inv X pins σ H s)(t:Nat):Inv X pins σ H { s with toks:=t }:=I.un (h':=s.heap) (t':=t) Un.refl I.hok
theorem Inv.kept{t':Nat}(I:Inv X pins σ H s)(k:∀b u,s.heap.get? b=some u->h'.get? b=some u):Inv X pins σ H { s with heap:=h',toks:=t' }:=I.un (Un.kept k) (I.hok.kept k)
theorem Inv.laid{a:Addr}{o:HO}{t':Nat}(I:Inv X pins σ H s)(k:∀b u,s.heap.get? b=some u->h'.get? b=some u)(hp:s.heap.objs.size<=a)(new:z7b X.prog X.w (upd H a o) h' a o) :
 Inv X pins σ (upd H a o) { s with heap:=h',toks:=t' }:=I.un (Un.laid k hp (I.hok.fresh hp)) (I.hok.laid k hp new)
theorem Inv.write{x e:Addr}{o:HO}{t':Nat}(I:Inv X pins σ H s)(mu:Mut (H x))(he:e=x∨H e=some (.own x))(k:∀b u,b≠e->s.heap.get? b=some u->h'.get? b=some u)(heo:∃u,h'.get? e=some u)
 (new:z7b X.prog X.w (upd H x o) h' x o):Inv X pins σ (upd H x o) { s with heap:=h',toks:=t' }:=I.un (Un.write mu he k heo) (I.hok.write mu he k heo new)
theorem Inv.pins_of{pins':List (Addr×Obj)}(I:Inv X pins σ H s)(h:∀p∈pins',s.heap.get? p.1=some p.2/\H p.1=none/\p.1≠X.env.locals/\p.1 ∉ X.fs/\∀v,p.2.data ≠ .cell v):Inv X pins' σ H s :=
 ⟨I.ok,I.os,I.bare,I.base,I.loc,I.cell,I.free,I.freeC,fun p hp=>(List.mem_append.mp hp).elim (fun z=>I.pin p (List.mem_append_left _ z)) (h p),I.hok,I.len⟩
theorem y5m{N:List Str}(hN:N.Nodup){i j:Nat}{x:Str}(a:N[i]? = some x)(b:N[j]? = some x):i=j:=by
 obtain⟨h1,e1⟩:=List.getElem?_eq_some_iff.mp a
 obtain⟨h2,e2⟩:=List.getElem?_eq_some_iff.mp b
 exact(List.getElem_inj hN).mp (e1.trans e2.symm)
theorem y2m{M:Model}{A:Around}{E:Value->Shared->Prop}{i:Nat}{x:Str}{v:V}{u:Value}{Q:Unit->Shared->Prop}(I:Inv X pins σ H s)(hN:X.N.Nodup)(hi:X.N[i]? = some x)(hx:Loc X.env.scope x)(r:RelV v u)
 (h:∀s',Inv X pins (σ.set i (some v)) H s'->(∃a,Heap.SameBut a s.heap s'.heap/\(a=X.env.locals∨X.env.cells.lookup x=some a))->Q () s') (hf:X.fn x=true∨X.env.scope.names.lookup x=some .local:=by first | exact .inl rfl | exact .inr rfl | assumption):wpAny M A (storeName X.env x u) Q E s:=by
 obtain⟨m,hn,hl⟩:=id I.loc
 have hcls:(X.env.scope.kind == .class||(X.env.scope.kind == .module&&X.env.locals != X.env.globals))=false:=by rw[I.ok.kind];rfl
 have hiσ:i<σ.length:=by rw[I.len];exact(List.getElem?_eq_some_iff.mp hi).1
 have cne:=I.cne
 have tracked:∀{a:Addr} {h':Heap},(∃o,s.heap.get? a=some o/\H a=none)->Heap.SameBut a s.heap h'->HOk X.prog X.w H h':=fun {a h'} ha hs b ob e=>by
  obtain⟨_,_,hfree⟩:=ha
  refine(I.hok b ob e).stay (fun c w' hc q=>(hs.2 c ?_).trans q) (fun _ q=>q) fun _ _ q=>q
  rintro rfl
  rcases hc with rfl | hc
  ·rw[hfree] at e;cases e
  ·rw[hfree] at hc;cases hc
 rcases hx with hk | hk
 ·refine wpAny_storeName_local hk hn (fun h' hn' hs=>?_) hcls
  obtain⟨oL,_,_,hoL,_⟩:=id hn
  refine h _ ⟨I.ok,I.os,I.bare,⟨fun b o e n hb hx=>?_,fun b o e n hb hx=>?_,I.base.free,fun b o e hx=>?_,I.base.tups,I.base.frzs,I.base.tbls⟩,⟨_,hn',fun j y v' e1 e2 e3=>?_⟩,fun y c e=>?_,I.free,I.freeC,fun p hp=>?_,tracked ⟨oL,hoL,I.free⟩ hs,by simpa using I.len⟩ ⟨_,hs,.inl rfl⟩
  ·exact(hs.2 b (Nat.ne_of_lt (Nat.lt_of_lt_of_le (Heap.lt_size e) I.ok.above))).trans (I.base.keep b o e n hb hx)
  ·obtain⟨sl,e1⟩:=I.base.slot b o e n hb hx
   exact⟨sl,(hs.2 b (Nat.ne_of_lt (Nat.lt_of_lt_of_le (Heap.lt_size e) I.ok.above))).trans e1⟩
  ·obtain⟨o',e1⟩:=I.base.there b o e hx
   exact⟨o',(hs.2 b (Nat.ne_of_lt (Nat.lt_of_lt_of_le (Heap.lt_size e) I.ok.above))).trans e1⟩
  ·by_cases hj:j=i
   ·subst hj
    rw[hi] at e1;cases e1
    rw[List.getElem?_set_self hiσ] at e2
    cases e2
    exact⟨u,r,.inl ⟨hk,by simp⟩⟩
   ·rw[List.getElem?_set_ne (Ne.symm hj)] at e2
    obtain⟨u',r',q⟩:=hl j y v' e1 e2 e3
    refine⟨u',r',?_⟩
    rcases q with ⟨k,e⟩ | ⟨k,c,e,z⟩
    ·refine .inl ⟨k,?_⟩
     have:y≠x:=fun e=>hj (y5m hN e1 (e ▸ hi))
     simp[this,e]
    ·exact .inr ⟨k,c,e,z.sameBut hs (cne y c e)⟩
  ·obtain⟨w',z⟩:=I.cell y c e
   exact⟨w',z.sameBut hs (cne y c e)⟩
  ·obtain⟨e,n,ne,nf,d⟩:=I.pin p hp
   exact⟨(hs.2 p.1 ne).trans e,n,ne,nf,d⟩
 ·have hfn:X.fn x=true:=by
   rcases hf with z | z
   ·exact z
   ·rw[z] at hk;cases hk
  obtain⟨c,hc⟩:=I.ok.has x (.inl hk)
  obtain⟨w',z⟩:=I.cell x c hc
  refine wpAny_storeName_cell I.ok.kind hk hc z (fun h' hc' hs=>?_)
  obtain⟨oc,hoc,hocd⟩:=id z
  refine h { s with heap:=h' } ⟨I.ok,I.os,I.bare,⟨fun b o e n hb hx=>?_,fun b o e n hb hx=>?_,I.base.free,fun b o e hx=>?_,I.base.tups,I.base.frzs,I.base.tbls⟩,⟨m,hn.sameBut hs (Ne.symm (cne x c hc)),fun j y v' e1 e2 e3=>?_⟩,fun y c' e=>?_,I.free,I.freeC,fun p hp=>?_,tracked ⟨oc,hoc,I.freeC x c hc⟩ hs,by simpa using I.len⟩ ⟨c,hs,.inr hc⟩
  ·exact(hs.2 b (Nat.ne_of_lt (Nat.lt_of_lt_of_le (Heap.lt_size e) (I.ok.cab x c hfn hc)))).trans (I.base.keep b o e n hb hx)
  ·obtain⟨sl,e1⟩:=I.base.slot b o e n hb hx
   exact⟨sl,(hs.2 b (Nat.ne_of_lt (Nat.lt_of_lt_of_le (Heap.lt_size e) (I.ok.cab x c hfn hc)))).trans e1⟩
  ·obtain⟨o',e1⟩:=I.base.there b o e hx
   exact⟨o',(hs.2 b (Nat.ne_of_lt (Nat.lt_of_lt_of_le (Heap.lt_size e) (I.ok.cab x c hfn hc)))).trans e1⟩
  ·by_cases hj:j=i
   ·subst hj
    rw[hi] at e1;cases e1
    rw[List.getElem?_set_self hiσ] at e2
    cases e2
    exact⟨u,r,.inr ⟨.inl hk,c,hc,hc'⟩⟩
   ·rw[List.getElem?_set_ne (Ne.symm hj)] at e2
    obtain⟨u',r',q⟩:=hl j y v' e1 e2 e3
    refine⟨u',r',?_⟩
    rcases q with q | ⟨k,c',e,z'⟩
    ·exact .inl q
    ·refine .inr ⟨k,c',e,z'.sameBut hs ?_⟩
     rintro rfl
     exact hj (y5m hN e1 (I.ok.inj _ _ _ e hc ▸ hi))
  ·by_cases hcc:c'=c
   ·subst hcc;exact⟨_,hc'⟩
   ·obtain⟨w2,z2⟩:=I.cell y c' e
    exact⟨w2,z2.sameBut hs hcc⟩
  ·obtain⟨e,n,ne,nf,d⟩:=I.pin p hp
   refine⟨(hs.2 p.1 ?_).trans e,n,ne,nf,d⟩
   intro q
   rw[q,hoc] at e
   have q':oc=p.2:=Option.some.inj e
   exact d w' (by rw[<-q'];exact hocd)
theorem y1l{M:Model}{A:Around}{E:Value->Shared->Prop}{i:Nat}{x:Str}{v:V}{u:Value}{Q:Unit->Shared->Prop}(I:Inv X pins σ H s)(hN:X.N.Nodup)(hi:X.N[i]? = some x)(hx:Loc X.env.scope x)(r:RelV v u)
 (h:∀s',Inv X pins (σ.set i (some v)) H s'->Q () s') (hf:X.fn x=true∨X.env.scope.names.lookup x=some .local:=by first | exact .inl rfl | exact .inr rfl | assumption):wpAny M A (storeName X.env x u) Q E s :=
 y2m I hN hi hx r (fun s' I' _=>h s' I') hf
theorem Inv.call'{s':Shared}{ch:List Addr}(I:Inv X pins σ H s)(ho:s'.os=s.os)(u:Un (frs X.stack) ch H H' s.heap s'.heap)(hok:HOk X.prog X.w H' s'.heap)(hg:AllBare s'.gens)
 (hch:∀b∈ch,(b∈X.ex∨X.s₀.heap.get? b=none)/\b≠X.env.locals/\(∀x c,X.env.cells.lookup x=some c->c≠b)/\∀p∈X.pn++pins,p.1≠b):Inv X pins σ H' s':=by
 obtain⟨h',g',d',t',o'⟩:=s'
 have e:o'=s.os:=ho
 subst e
 exact I.call (g':=g') (t':=t') (d':=d') u hok hg hch
end
noncomputable abbrev XK:=Value->Option Addr->Hp->Prop
noncomputable abbrev St:=List (Option V)
noncomputable abbrev VK:=V->Hp->Prop
noncomputable abbrev TE:=St->Hp->VK->Prop
noncomputable abbrev TT:=St->Hp->(Bool->Hp->Prop)->Prop
noncomputable abbrev TA:=St->Hp->(List V->Hp->Prop)->Prop
structure Ends where
 nx:St->Hp->Prop
 rt:VK
 bk:St->Hp->Prop:=fun _ _=>False
 ct:St->Hp->Prop:=fun _ _=>False
noncomputable abbrev TS:=Ends->St->Hp->Prop
noncomputable def EP(X:Cx)(pins:List (Addr×Obj))(σ:St)(Q:VK)(u:Value)(s':Shared):Prop:=∃v H',Inv X pins σ H' s'/\RelV v u/\Q v H'
noncomputable def SP(X:Cx)(pins:List (Addr×Obj))(D:Ends)(f:Flow)(s':Shared):Prop :=
 match f with
 | .next=>∃σ' H',Inv X pins σ' H' s'/\D.nx σ' H'
 | .brk=>∃σ' H',Inv X pins σ' H' s'/\D.bk σ' H'
 | .cont=>∃σ' H',Inv X pins σ' H' s'/\D.ct σ' H'
 | .ret u=>∃v σ' H',Inv X pins σ' H' s'/\RelV v u/\D.rt v H'
noncomputable def PE(X:Cx)(e:Expr)(t:TE):Prop :=
 ∀(pins:List (Addr×Obj)) (s:Shared) (σ:St) (H:Hp) (Q:VK),Inv X pins σ H s->t σ H Q->wpAny (model X.prog X.w) X.A (eval e X.env) (EP X pins σ Q) X.xe s
noncomputable def PSs(X:Cx)(st:List Stmt)(t:TS):Prop :=
 ∀(pins:List (Addr×Obj)) (s:Shared) (σ:St) (H:Hp) (D:Ends),Inv X pins σ H s->t D σ H->wpAny (model X.prog X.w) X.A (execs st X.env) (SP X pins D) X.xe s
theorem thn{α:Type}{t:Sem α}{Q Q':α->Shared->Prop}{M:Model}{A:Around}{E:Value->Shared->Prop}{s:Shared}(h:wpAny M A t Q E s)(hQ:∀a s,Q a s->Q' a s):wpAny M A t Q' E s:=wpAny_mono h hQ fun _ _ x=>x
end L2
namespace L2
open PySem PySem.Spec PyProof.Rows
section
variable {X:Cx}
noncomputable def tVar(i:Nat):TE:=fun σ H Q=>∃v,σ[i]? = some (some v)/\Q v H
noncomputable def tC(v:V):TE:=fun _ H Q=>Q v H
theorem y2t{i:Nat}{x:Str}{pos:Pos}(hN:X.N[i]? = some x)(hv:Vis X.env.scope x)(hd:(x==("__debug__":Str))=false:=by decide)(hcd:(x==("__classdict__":Str))=false:=by decide):PE X (.Name x pos) (tVar i):=by
 intro pins s σ H Q I h
 obtain⟨v,e,h⟩:=h
 obtain⟨m,hn,hl⟩:=I.loc
 obtain⟨u,r,l⟩:=hl i x v hN e hv
 have fin:EP X pins σ Q u s:=⟨v,H,I,r,h⟩
 rcases l with ⟨hk,hm⟩ | ⟨hk,c,hc,hcell⟩
 ·exact wpAny_Name (wpAny_loadName_local I.ok.kind hk hn hm fin) hd
 ·rcases hk with hk | hk
  ·exact wpAny_Name (wpAny_loadName_cell I.ok.kind hk hc hcell fin) hd
  ·exact wpAny_Name (wpAny_loadName_free I.ok.kind hk hc hcell fin hcd) hd
theorem x5r{i j pos}:PE X (.Constant (.int i) j pos) (tC (.int i)):=fun _ _ _ H _ I h=>wpAny_Constant_int ⟨.int i,H,I.tok _,⟨_,rfl⟩,h⟩
theorem x7h{b j pos}:PE X (.Constant (.bool b) j pos) (tC (.bl b)):=fun _ _ _ H _ I h=>Constant_bool ⟨.bl b,H,I,rfl,h⟩
theorem x5q{j pos}:PE X (.Constant .none j pos) (tC .non):=fun _ _ _ H _ I h=>Constant_none ⟨.non,H,I,rfl,h⟩
theorem x5p{x j pos}:PE X (.Constant (.str x) j pos) (tC (.str x)):=fun _ _ _ H _ I h=>Calls.Constant_str ⟨.str x,H,I.tok _,⟨_,rfl⟩,h⟩
noncomputable def Gl(X:Cx)(x:Str):Prop:=X.env.kindOf x=some .globalImplicit
theorem z9y{E:Value->Shared->Prop}{pins:List (Addr×Obj)}{s:Shared}{σ:St}{H:Hp}{x:Str}{u:Value}{pos:Pos}{Q:Value->Shared->Prop}(I:Inv X pins σ H s)(hg:Gl X x)(hm:X.mg x=some u)(h:Q u s)
 (hd:(x==("__debug__":Str))=false:=by decide):wpAny (model X.prog X.w) X.A (eval (.Name x pos) X.env) Q E s :=
 Calls.Name_function_global I.ok.kind hg (Calls.loadGlobal_global (by rw[I.ok.glob];exact I.mod.glob.keeps I.bk) hm h) hd
theorem z4q{E:Value->Shared->Prop}{pins:List (Addr×Obj)}{s:Shared}{σ:St}{H:Hp}{x:Str}{u:Value}{pos:Pos}{Q:Value->Shared->Prop}(I:Inv X pins σ H s)(hg:Gl X x)(hm:X.mg x=none)(hv:bootBuiltins x=some u)(h:Q u s)
 (hn:x≠"__name__":=by decide) (hd:(x==("__debug__":Str))=false:=by decide):wpAny (model X.prog X.w) X.A (eval (.Name x pos) X.env) Q E s:=by
 obtain⟨mb,h1,h2⟩:=I.mod.blt
 exact Calls.Name_function_global I.ok.kind hg (Calls.loadGlobal_builtin (by rw[I.ok.glob];exact I.mod.glob.keeps I.bk) hm (by rw[I.ok.blt];exact h1.keeps I.bk) ((h2 x hn).trans hv) h) hd
variable {a b:Expr}{ta tb:TE}{pos:Pos}
variable {tA tB':TT}{rest:List Expr}
end
end L2
namespace L2
open PySem PySem.Spec PyProof.Rows
noncomputable def SqL(K:PySem.W.Frag)(H:Hp)(a:Addr)(xs:List V):Prop :=
 Rd H a (.lst xs) ∨
  ∃(o:Obj) (its:Array Value) (n:Nat),K.lookup a=some o/\o.cls = .type "list"/\o.dict=none/\o.data = .seq its n/\its.size<=sizeLine/\Vals xs its.toList
noncomputable def SqT(K:PySem.W.Frag)(H:Hp)(a:Addr)(xs:List V):Prop :=
 Rd H a (.tup xs) ∨
  ∃(o:Obj) (its:Array Value) (n:Nat),K.lookup a=some o/\o.cls = .type "tuple"/\o.data = .seq its n/\its.size<=sizeLine/\Vals xs its.toList
noncomputable def absV:Value->Option V
 | .none=>some .non
 | .bool b=>some (.bl b)
 | .int i _=>some (.int i)
 | .str x _=>some (.str x)
 | .bytes b _=>some (.byt b)
 | .float b _=>some (.flt b)
 | .ref a=>some (.ref a)
 | .type n=>some (.ty n)
 | _=>none
theorem RelV.abs{x:V}{u:Value}(r:RelV x u):absV u=some x:=by
 cases x with
 | non=>cases r;rfl
 | bl _=>cases r;rfl
 | int _=>obtain⟨t,rfl⟩:=r;rfl
 | str _=>obtain⟨t,rfl⟩:=r;rfl
 | byt _=>obtain⟨t,rfl⟩:=r;rfl
 | flt _=>obtain⟨t,rfl⟩:=r;rfl
 | ref _=>cases r;rfl
 | ty _=>cases r;rfl
theorem RelV.inj{x y:V}{u:Value}(r:RelV x u)(q:RelV y u):x=y:=Option.some.inj (r.abs.symm.trans q.abs)
theorem Vals.inj:∀{xs ys:List V} {us:List Value},Vals xs us->Vals ys us->xs=ys
 | _,_,_,.nil,.nil=>rfl
 | _,_,_,.cons r t,.cons r' t'=>by rw[r.inj r',Vals.inj t t']
section
variable {X:Cx}{pins:List (Addr×Obj)}{σ:St}{H:Hp}{s:Shared}{a:Addr}{xs ys:List V}
theorem SqL.of{K:PySem.W.Frag}(h:H a=some (.lst xs)):SqL K H a xs:=.inl (.inl h)
theorem SqT.of{K:PySem.W.Frag}(h:H a=some (.tup xs)):SqT K H a xs:=.inl (.inl h)
theorem Inv.list(I:Inv X pins σ H s)(h:SqL X.K H a xs):∃its:List Value,Vals xs its/\PlainL s.heap a its.toArray/\xs.length<=sizeLine:=by
 rcases h with h | ⟨o,its,n,hk,hc,hd,hs,hz,r⟩
 ·obtain⟨z,its,n,r,e⟩:=h.ok I.hok
  exact⟨its,r,⟨_,n,e,rfl,rfl,rfl⟩,z⟩
 ·refine⟨its.toList,r,⟨o,n,I.kIn a o hk,hc,hd,by simpa using hs⟩,?_⟩
  have e:=r.length
  simp only[Array.length_toList] at e
  lia
theorem Inv.tuple(I:Inv X pins σ H s)(h:SqT X.K H a xs):∃its:List Value,Vals xs its/\IsTup s.heap a its.toArray/\xs.length<=sizeLine:=by
 rcases h with h | ⟨o,its,n,hk,hc,hs,hz,r⟩
 ·obtain⟨z,its,r,p⟩:=h.ok I.hok
  exact⟨its,r,p,z⟩
 ·refine⟨its.toList,r,⟨o,I.kIn a o hk,hc,n,by simpa using hs⟩,?_⟩
  have e:=r.length
  simp only[Array.length_toList] at e
  lia
theorem Inv.list_inj(I:Inv X pins σ H s)(h:SqL X.K H a xs)(h':SqL X.K H a ys):xs=ys:=by
 obtain⟨its,r,⟨o,n,e,_,_,d⟩,_⟩:=I.list h
 obtain⟨its',r',⟨o',n',e',_,_,d'⟩,_⟩:=I.list h'
 rw[e] at e';cases e'
 rw[d] at d'
 injection d' with d1 _
 have:its=its':=by simpa using congrArg Array.toList d1
 subst this
 exact r.inj r'
theorem Inv.tuple_inj(I:Inv X pins σ H s)(h:SqT X.K H a xs)(h':SqT X.K H a ys):xs=ys:=by
 obtain⟨its,r,⟨o,e,_,n,d⟩,_⟩:=I.tuple h
 obtain⟨its',r',⟨o',e',_,n',d'⟩,_⟩:=I.tuple h'
 rw[e] at e';cases e'
 rw[d] at d'
 injection d' with d1 _
 have:its=its':=by simpa using congrArg Array.toList d1
 subst this
 exact r.inj r'
end
noncomputable abbrev Cx.wish (X:Cx) (E:Value->Shared->Prop):Cx:={ X with xe:=E }
noncomputable abbrev Cx.nox (X:Cx):Cx:=X.wish fun _ _=>False
theorem Cx.Ok.wish{X:Cx}(ok:X.Ok)(E:Value->Shared->Prop):(X.wish E).Ok :=
 ⟨ok.mod,ok.kind,ok.glob,ok.blt,ok.above,ok.inj,ok.has,ok.cab,ok.hd,ok.frames,ok.stk,ok.exf,ok.bs,ok.bsz,ok.noex,ok.exfs,ok.funs,ok.frf⟩
theorem Cx.Ok.unwish{X:Cx}{E:Value->Shared->Prop}(ok:(X.wish E).Ok):X.Ok :=
 ⟨ok.mod,ok.kind,ok.glob,ok.blt,ok.above,ok.inj,ok.has,ok.cab,ok.hd,ok.frames,ok.stk,ok.exf,ok.bs,ok.bsz,ok.noex,ok.exfs,ok.funs,ok.frf⟩
section
variable {X:Cx}{pins:List (Addr×Obj)}{σ:St}{H:Hp}{s:Shared}{E:Value->Shared->Prop}
theorem Inv.wish(I:Inv X pins σ H s)(E:Value->Shared->Prop):Inv (X.wish E) pins σ H s:=⟨I.ok.wish E,I.os,I.bare,I.base,I.loc,I.cell,I.free,I.freeC,I.pin,I.hok,I.len⟩
theorem Inv.unwish(I:Inv (X.wish E) pins σ H s):Inv X pins σ H s:=⟨I.ok.unwish,I.os,I.bare,I.base,I.loc,I.cell,I.free,I.freeC,I.pin,I.hok,I.len⟩
end
section
variable {X:Cx}{st:Stmt}{rest:List Stmt}{t u:TS}{e:Expr}{te:TE}{pos:Pos}
theorem Inv.quiet{pins:List (Addr×Obj)}{σ:St}{H:Hp}{s:Shared}(I:Inv X pins σ H s):interactive X.env=false:=by simp[interactive,I.ok.kind]
end
noncomputable abbrev TG:=V->St->Hp->(St->Hp->Prop)->Prop
noncomputable abbrev TGs:=List V->St->Hp->(St->Hp->Prop)->Prop
noncomputable def PG(X:Cx)(target:Expr)(t:TG):Prop :=
 ∀(pins:List (Addr×Obj)) (s:Shared) (σ:St) (H:Hp) (v:V) (u:Value) (Q:St->Hp->Prop),Inv X pins σ H s->RelV v u->t v σ H Q ->
  wpAny (model X.prog X.w) X.A (assign target X.env u) (fun _ s'=>∃σ' H',Inv X pins σ' H' s'/\Q σ' H') X.xe s
noncomputable def PGs(X:Cx)(ts:List Expr)(t:TGs):Prop :=
 ∀(pins:List (Addr×Obj)) (s:Shared) (σ:St) (H:Hp) (vs:List V) (us:List Value) (Q:St->Hp->Prop),Inv X pins σ H s->Vals vs us->t vs σ H Q ->
  wpAny (model X.prog X.w) X.A (assignInOrder ((assignEach ts X.env).map (·.2)) us) (fun _ s'=>∃σ' H',Inv X pins σ' H' s'/\Q σ' H') X.xe s
noncomputable abbrev TSet:=V->V->V->Hp->(Hp->Prop)->Prop
noncomputable def PSet(X:Cx)(t:TSet):Prop :=
 ∀(pins:List (Addr×Obj)) (s:Shared) (σ:St) (H:Hp) (o i v:V) (ov iv u:Value) (Q:Hp->Prop),Inv X pins σ H s->RelV o ov->RelV i iv->RelV v u->t o i v H Q ->
  wpAny (model X.prog X.w) X.A (setItem ov iv u) (fun _ s'=>∃H',Inv X pins σ H' s'/\Q H') X.xe s
section
variable {X:Cx}{pos:Pos}
noncomputable def y3k(i:Nat):TG:=fun v σ H Q=>Q (σ.set i (some v)) H
theorem z5v{i:Nat}{x:Str}(hN:X.N.Nodup)(hi:X.N[i]? = some x)(hx:Loc X.env.scope x)(hf:X.fn x=true∨X.env.scope.names.lookup x=some .local:=by first | exact .inl rfl | exact .inr rfl | assumption):PG X (.Name x pos) (y3k i):=by
 intro pins s σ H v u Q I r h
 exact wpAny_assign_Name (y1l I hN hi hx r (fun s' I'=>⟨_,H,I',h⟩) hf)
noncomputable def gNil:TGs:=fun vs σ H Q=>vs=[]/\Q σ H
noncomputable def gCons(t:TG)(u:TGs):TGs:=fun vs σ H Q=>∃v r,vs=v::r/\t v σ H fun σ' H'=>u r σ' H' Q
theorem y4j:PGs X [] gNil:=by
 intro pins s σ H vs us Q I r h
 obtain⟨e,h⟩:=h
 subst e
 cases r
 exact assignInOrder_nil ⟨σ,H,I,h⟩
theorem z6u{e:Expr}{es:List Expr}{t:TG}{u:TGs}(h1:PG X e t)(h2:PGs X es u)
 (hs:(assignEach (e::es) X.env).map (·.2)=assign e X.env::(assignEach es X.env).map (·.2):=by rfl):PGs X (e::es) (gCons t u):=by
 intro pins s σ H vs us Q I r h
 obtain⟨v,vr,e1,h⟩:=h
 subst e1
 cases r with
 | cons r rr =>
   rw[hs]
   refine assignInOrder_cons (thn (h1 pins s σ H _ _ _ I r h) fun _ s1 ⟨σ1,H1,I1,q1⟩=>?_)
   exact h2 pins s1 σ1 H1 _ _ Q I1 rr q1
noncomputable def gTup(K:PySem.W.Frag)(n:Nat)(t:TGs):TG:=fun v σ H Q=>∃a xs,v = .ref a/\SqT K H a xs/\xs.length=n/\t xs σ H Q
theorem x2g{es:List Expr}{k:Nat}{t:TGs}{n:Nat}(hc:X.calm=true)(h:PGs X es t)
 (hn:(assignEach es X.env).length=n:=by rfl) (hst:(assignEach es X.env).findIdx? (·.1)=none:=by rfl):PG X (.Tuple es k pos) (gTup X.K n t):=by
 intro pins s σ H v u Q I r hw
 obtain⟨a,xs,e1,hq,hl,hw⟩:=hw
 subst e1
 cases r
 obtain⟨its,rv,ht,hz⟩:=I.tuple hq
 refine assign_Tuple_tuple (I.ok.hd hc) ht (by simp[hn,<-hl,rv.length]) hst fun h' hx=>?_
 have I1:Inv X pins σ H { s with heap:=h' }:=I.kept (t':=s.toks) fun b o e=>hx b o (Nat.ne_of_lt (Heap.lt_size e)) e
 exact h pins _ σ H xs _ Q I1 (by simpa using rv) hw
end
section
variable {X:Cx}{pos:Pos}
end
structure It where
 go:Nat->Hp->Prop
 yld:Nat->Hp->V->Hp->Prop
 stop:Nat->Hp->Prop
noncomputable def FpOk(X:Cx)(pins:List (Addr×Obj))(H:Hp)(b:Addr):Prop :=
 H b=none/\b≠X.env.locals/\b ∉ X.fs/\(b∈X.ex∨X.s₀.heap.objs.size<=b)/\(∀x c,X.env.cells.lookup x=some c->c≠b)/\∀p∈X.pn++pins,p.1≠b
theorem Inv.fpOk{X:Cx}{pins:List (Addr×Obj)}{σ:St}{H H':Hp}{s:Shared}{b:Addr}(I:Inv X pins σ H s)(hb:s.heap.objs.size<=b)(hn:H' b=none):FpOk X pins H' b:=by
 refine⟨hn,Nat.ne_of_gt (Nat.lt_of_lt_of_le I.lt hb),I.nofs hb,.inr (Nat.le_trans I.sz hb),fun x c e z=>?_,fun p hp z=>?_⟩
 ·obtain⟨v,q⟩:=I.cell x c e
  exact absurd (Nat.lt_of_lt_of_le q.lt (by rw[z];exact hb)) (Nat.lt_irrefl _)
 ·exact absurd (Nat.lt_of_lt_of_le (Heap.lt_size (I.pin p hp).1) (by rw[z];exact hb)) (Nat.lt_irrefl _)
structure Turn (P:Program) (w:World) (K:PySem.W.Frag) (tg:Expr) (J:It) (fp:List Addr) (it:Addr) (tn:Nat->Heap->Prop):Prop where
 mem:it∈fp
 obj:∀i h,tn i h->∀b∈fp,∃o,h.get? b=some o/\∀v,o.data ≠ .cell v
 keep:∀i h h',tn i h->(∀b∈fp,∀o,h.get? b=some o->h'.get? b=some o)->tn i h'
 item:∀(X:Cx),X.prog=P->X.w=w->X.K=K->X.calm=true->∀(i:Nat) (pins:List (Addr×Obj)) (s:Shared) (σ:St) (H:Hp) (E:Value->Shared->Prop),Inv X pins σ H s->(∀b∈fp,FpOk X pins H b)->tn i s.heap->J.go i H ->
  wpAny (model P w) X.A (pyNext (.ref it)) (fun r s1=>∃u,r=some u /\
   wpAny (model P w) X.A (letOwnedTupleGo tg (.ref it) u) (fun _ s2=>∃x H',Inv X pins σ H' s2/\RelV x u/\J.yld i H x H'/\tn (i+1) s2.heap/\∀b∈fp,H' b=none) E s1) E s
 done:∀(X:Cx),X.prog=P->X.w=w->X.K=K->X.calm=true->∀(i:Nat) (pins:List (Addr×Obj)) (s:Shared) (σ:St) (H:Hp) (E:Value->Shared->Prop),Inv X pins σ H s->(∀b∈fp,FpOk X pins H b)->tn i s.heap->J.stop i H ->
  wpAny (model P w) X.A (pyNext (.ref it)) (fun r s1=>r=none/\Inv X pins σ H s1) E s
 self:∀(A:Around) (i:Nat) (s:Shared) (Q:Value->Shared->Prop) (E:Value->Shared->Prop),tn i s.heap->Q (.ref it) s->wpAny (model P w) A (pyIter (.ref it)) Q E s
noncomputable def PIE(X:Cx)(pins:List (Addr×Obj))(σ:St)(tg:Expr)(R:It->Hp->Prop)(itv:Value)(s2:Shared):Prop :=
 ∃(it:Addr) (fp:List Addr) (tn:Nat->Heap->Prop) (J:It) (H':Hp),itv = .ref it/\Inv X pins σ H' s2/\Turn X.prog X.w X.K tg J fp it tn/\tn 0 s2.heap/\(∀b∈fp,FpOk X pins H' b)/\R J H'
theorem y9j{M:Model}{A:Around}{E:Value->Shared->Prop}{s:Shared}{tg:Expr}{it:Addr}{u:Value}{o:Obj}{n:String}{vs:Array Value}{Q:Unit->Shared->Prop}(ho:s.heap.get? it=some o)(hc:o.cls = .type n)(hd:o.data = .fields vs)
 (hn:["enumerate","zip","dict_itemiterator","dict_reverseitemiterator","odict_iterator","itertools.zip_longest","itertools.pairwise"].contains n=false) (hQ:Q () s):wpAny M A (letOwnedTupleGo tg (.ref it) u) Q E s:=by
 unfold letOwnedTupleGo
 cases tg<;>first
  | exact wpAny_pure hQ
  | (cases u<;>first
      | exact wpAny_pure hQ
      | (refine wpAny_bind (wpAny_load ho ?_)
         rw[hc,hd]
         show wpAny M A (if (["enumerate","zip","dict_itemiterator","dict_reverseitemiterator","odict_iterator","itertools.zip_longest","itertools.pairwise"].contains n&&vs[0]? == some (rawInt _))=true then _ else _) Q E s
         rw[if_neg (by intro h;rw[hn,Bool.false_and] at h;cases h)]
         exact wpAny_pure hQ))
noncomputable def Itl(K:PySem.W.Frag)(a:Addr):It :=
 ⟨fun i H=>∃xs x,SqL K H a xs/\xs[i]? = some x,fun i H x H'=>H'=H/\∀xs,SqL K H a xs->xs[i]? = some x,fun i H=>∃xs,SqL K H a xs/\xs.length<=i⟩
noncomputable def Itt(K:PySem.W.Frag)(a:Addr):It :=
 ⟨fun i H=>∃xs x,SqT K H a xs/\xs[i]? = some x,fun i H x H'=>H'=H/\∀xs,SqT K H a xs->xs[i]? = some x,fun i H=>∃xs,SqT K H a xs/\xs.length<=i⟩
noncomputable def Itr(lo:Int)(n:Nat):It:=⟨fun i _=>i<n,fun i H x H'=>H'=H/\x = .int (lo+i),fun i _=>n<=i⟩
theorem y7r{P:Program}{w:World}{K:PySem.W.Frag}{tg:Expr}(a it:Addr):Turn P w K tg (Itl K a) [it] it (fun i h=>h.IsListIter it a i) where
 mem:=by simp
 obj:=fun i h st b hb=>by
  have e:b=it:=by simpa using hb
  subst e
  obtain⟨o,e,c,d⟩:=st
  exact⟨o,e,fun v z=>by rw[d] at z;cases z⟩
 keep:=fun i h h' st k=>st.at fun o e=>k it (by simp) o e
 item:=by
  intro X hP hw hK hc i pins s σ H E I hf st hg
  subst hP hw hK
  obtain⟨xs,x,hq,hx⟩:=hg
  obtain⟨its,rv,p,hz⟩:=I.list hq
  obtain⟨u,hu,ru⟩:=rv.get hx
  obtain⟨f0,f1,f2,f3,f4,f5⟩:=hf it (by simp)
  refine wpAny_pyNext_list_item st p.isList (x:=u) (by simpa using hu) fun h' st' sb=>?_
  have I1:Inv X pins σ H { s with heap:=h' }:=I.turned (t':=s.toks) (fun b o hb e=>(sb.2 b hb).trans e) f0 f1 f3 f4 f5
  obtain⟨o,e,c,d⟩:=id st'
  exact⟨u,rfl,y9j (s:={ s with heap:=h' }) e c d (by decide) ⟨x,H,I1,ru,⟨rfl,fun ys hy=>by rw[I.list_inj hy hq];exact hx⟩,st',fun b hb=>(hf b hb).1⟩⟩
 done:=by
  intro X hP hw hK hc i pins s σ H E I hf st hg
  subst hP hw hK
  obtain⟨xs,hq,hx⟩:=hg
  obtain⟨its,rv,p,hz⟩:=I.list hq
  obtain⟨f0,f1,f2,f3,f4,f5⟩:=hf it (by simp)
  have hl:=rv.length
  exact wpAny_pyNext_list_end (I.ok.hd hc) st p.isList (by simp;lia) fun h' eb=>⟨rfl,I.turned (t':=s.toks) (fun b o hb e=>eb b o hb e) f0 f1 f3 f4 f5⟩
 self:=fun _ _ _ _ _ st h=>wpAny_pyIter_listiter st h
theorem y6e{P:Program}{w:World}{K:PySem.W.Frag}{tg:Expr}(a it:Addr):Turn P w K tg (Itt K a) [it] it (fun i h=>h.IsTupleIter it a i) where
 mem:=by simp
 obj:=fun i h st b hb=>by
  have e:b=it:=by simpa using hb
  subst e
  obtain⟨o,e,c,d⟩:=st
  exact⟨o,e,fun v z=>by rw[d] at z;cases z⟩
 keep:=fun i h h' st k=>st.at fun o e=>k it (by simp) o e
 item:=by
  intro X hP hw hK hc i pins s σ H E I hf st hg
  subst hP hw hK
  obtain⟨xs,x,hq,hx⟩:=hg
  obtain⟨its,rv,p,hz⟩:=I.tuple hq
  obtain⟨u,hu,ru⟩:=rv.get hx
  obtain⟨f0,f1,f2,f3,f4,f5⟩:=hf it (by simp)
  refine wpAny_pyNext_tuple_item st (show s.heap.IsTuple a its.toArray from p) (x:=u) (by simpa using hu) fun h' st' sb=>?_
  have I1:Inv X pins σ H { s with heap:=h' }:=I.turned (t':=s.toks) (fun b o hb e=>(sb.2 b hb).trans e) f0 f1 f3 f4 f5
  obtain⟨o,e,c,d⟩:=id st'
  exact⟨u,rfl,y9j (s:={ s with heap:=h' }) e c d (by decide) ⟨x,H,I1,ru,⟨rfl,fun ys hy=>by rw[I.tuple_inj hy hq];exact hx⟩,st',fun b hb=>(hf b hb).1⟩⟩
 done:=by
  intro X hP hw hK hc i pins s σ H E I hf st hg
  subst hP hw hK
  obtain⟨xs,hq,hx⟩:=hg
  obtain⟨its,rv,p,hz⟩:=I.tuple hq
  obtain⟨f0,f1,f2,f3,f4,f5⟩:=hf it (by simp)
  have hl:=rv.length
  exact wpAny_pyNext_tuple_end (I.ok.hd hc) st (show s.heap.IsTuple a its.toArray from p) (by simp;lia) fun h' eb=>⟨rfl,I.turned (t':=s.toks) (fun b o hb e=>eb b o hb e) f0 f1 f3 f4 f5⟩
 self:=fun _ _ _ _ _ st h=>wpAny_pyIter_tupleiter st h
theorem y6f{P:Program}{w:World}{K:PySem.W.Frag}{tg:Expr}(it:Addr)(lo:Int)(n:Nat):Turn P w K tg (Itr lo n) [it] it (fun i h=>IsRangeIter h it (lo+(i:Nat)*1) ((n:Int)-(i:Nat)) 1) where
 mem:=by simp
 obj:=fun i h st b hb=>by
  have e:b=it:=by simpa using hb
  subst e
  exact⟨_,st,fun v z=>by
   have z':Data.fields _=Data.cell v:=z
   cases z'⟩
 keep:=fun i h h' st k=>k it (by simp) _ st
 item:=by
  intro X hP hw hK hc i pins s σ H E I hf st hg
  subst hP hw hK
  obtain⟨f0,f1,f2,f3,f4,f5⟩:=hf it (by simp)
  have W:=Walks.range (prog:=X.prog) (w:=X.w) (I.ok.hd hc) it lo 1 n
  refine W.item i s _ _ hg st fun v h' tk hv st' kk=>?_
  obtain⟨t,rfl⟩:=hv
  have I1:Inv X pins σ H { s with heap:=h',toks:=tk }:=I.turned (fun b o hb e=>kk b o (by simpa using hb) e) f0 f1 f3 f4 f5
  refine⟨_,rfl,y9j (s:={ s with heap:=h',toks:=tk }) (n:="range_iterator") st' rfl rfl (by decide) ⟨.int (lo+i),H,I1,⟨t,?_⟩,⟨rfl,rfl⟩,st',fun b hb=>(hf b hb).1⟩⟩
  rw[Int.mul_one]
 done:=by
  intro X hP hw hK hc i pins s σ H E I hf st hg
  subst hP hw hK
  obtain⟨f0,f1,f2,f3,f4,f5⟩:=hf it (by simp)
  exact wpAny_pyNext_range_end (I.ok.hd hc) st (by have:n<=i:=hg;lia) fun h' eb=>⟨rfl,I.turned (t':=s.toks) (fun b o hb e=>eb b o hb e) f0 f1 f3 f4 f5⟩
 self:=fun _ _ _ _ _ st h=>wpAny_pyIter_rangeiter st h
end L2
namespace L2
open PySem PySem.Spec PyProof.Rows
section
variable {X:Cx}{tg:Expr}
theorem y5i{pins:List (Addr×Obj)}{σ:St}{H:Hp}{s:Shared}{R:It->Hp->Prop}{E:Value->Shared->Prop}{lo hi:Int}{t u v:Tok}{tk:Nat}(I:Inv X pins σ H s)(h1:-(2^62)<=lo)(h2:lo<2^62)(h3:-(2^62)<=hi)(h4:hi<2^62)
 (q:R (Itr lo (hi-lo).toNat) H):wpAny (model X.prog X.w) X.A (pyIter (.ref s.heap.objs.size)) (PIE X pins σ tg R) E { s with heap:=s.heap.push { cls:=.type "range",data:=.fields #[.int lo t,.int hi u,.int 1 v] },toks:=tk }:=by
 refine wpAny_pyIter_range (IsRange.new ..) (small_one h1 h2 h3 h4) ?_
 have I1:Inv X pins σ H { s with heap:=s.heap.push { cls:=.type "range",data:=.fields #[.int lo t,.int hi u,.int 1 v] },toks:=tk }:=I.kept fun b o e=>Heap.get?_push_of_some _ e
 refine⟨(s.heap.push { cls:=.type "range",data:=.fields #[.int lo t,.int hi u,.int 1 v] }).objs.size,[(s.heap.push { cls:=.type "range",data:=.fields #[.int lo t,.int hi u,.int 1 v] }).objs.size],_,_,H,rfl,
  I1.kept (t':=tk) fun b o e=>Heap.get?_push_of_some _ e,y6f _ lo (hi-lo).toNat,?_,fun b hb=>?_,q⟩
 ·have e1:lo+((0:Nat):Int)*1=lo:=by simp
  have e2:(((hi-lo).toNat:Nat):Int)-((0:Nat):Int)=Builtin.Range.rangeSize lo hi 1:=by rw[rangeSize_one];split<;>lia
  show IsRangeIter _ _ (lo+((0:Nat):Int)*1) ((((hi-lo).toNat:Nat):Int)-((0:Nat):Int)) 1
  rw[e1,e2]
  exact Heap.get?_push_size _ rfl
 ·have e:b=(s.heap.push { cls:=.type "range",data:=.fields #[.int lo t,.int hi u,.int 1 v] }).objs.size:=by simpa using hb
  subst e
  exact I1.fpOk (Nat.le_refl _) (I1.hok.fresh (Nat.le_refl _))
noncomputable def z4o(fp:List Addr)(h:Heap):List (Addr×Obj):=fp.filterMap fun b=>(h.get? b).map fun o=>(b,o)
theorem z2b{fp:List Addr}{h:Heap}{b:Addr}{o:Obj}(hb:b∈fp)(e:h.get? b=some o):(b,o)∈z4o fp h:=List.mem_filterMap.mpr ⟨b,hb,by rw[e];rfl⟩
theorem y8s{fp:List Addr}{h:Heap}{p:Addr×Obj}(hp:p∈z4o fp h):p.1∈fp/\h.get? p.1=some p.2:=by
 obtain⟨b,hb,e⟩:=List.mem_filterMap.mp hp
 cases q:h.get? b with
 | none=>rw[q] at e;cases e
 | some o =>
   rw[q] at e
   have e':(b,o)=p:=Option.some.inj e
   subst e'
   exact⟨hb,q⟩
theorem Inv.pinned{pins:List (Addr×Obj)}{σ:St}{H:Hp}{s:Shared}{fp:List Addr}(I:Inv X pins σ H s)(hf:∀b∈fp,FpOk X pins H b)(ho:∀b∈fp,∃o,s.heap.get? b=some o/\∀v,o.data ≠ .cell v):Inv X (pins++z4o fp s.heap) σ H s :=
 I.pins_of fun p hp=>(List.mem_append.mp hp).elim (fun z=>I.pin p (List.mem_append_right _ z)) fun z=>by
  obtain⟨hb,e⟩:=y8s z
  obtain⟨f0,f1,f2,_⟩:=hf p.1 hb
  obtain⟨o,e',d⟩:=ho p.1 hb
  rw[e] at e';cases e'
  exact⟨e,f0,f1,f2,d⟩
theorem Inv.unpinned{pins pl:List (Addr×Obj)}{σ:St}{H:Hp}{s:Shared}(I:Inv X (pins++pl) σ H s):Inv X pins σ H s:=I.pins_of fun p hp=>I.pin p (List.mem_append_right _ (List.mem_append_left _ hp))
end
end L2
namespace L2
open PySem PySem.Spec PyProof.Rows
noncomputable abbrev R2:=V->V->Hp->VK->Prop
noncomputable def OpR(X:Cx)(f:Value->Value->Sem Value)(r:R2):Prop :=
 ∀(pins:List (Addr×Obj)) (s:Shared) (σ:St) (H:Hp) (x y:V) (v u:Value) (Q:VK),Inv X pins σ H s->RelV x v->RelV y u->r x y H Q ->
  wpAny (model X.prog X.w) X.A (f v u) (EP X pins σ Q) X.xe s
noncomputable def z7c(X:Cx)(f:Value)(r:List V->Hp->VK->Prop):Prop :=
 ∀(pins:List (Addr×Obj)) (s:Shared) (σ:St) (H:Hp) (xs:List V) (us:List Value) (Q:VK),Inv X pins σ H s->Vals xs us->r xs H Q ->
  wpAny (model X.prog X.w) X.A (call f us) (EP X pins σ Q) X.xe s
noncomputable def rI(C:Int->Int->Prop)(g:Int->Int->V):R2:=fun x y H Q=>∃i j,x = .int i/\y = .int j/\C i j/\Q (g i j) H
noncomputable def rI0(g:Int->Int->V):R2:=fun x y H Q=>∃i j,x = .int i/\y = .int j/\Q (g i j) H
section
variable {X:Cx}{a b c:Expr}{ta tb tc:TE}{pos:Pos}
theorem opI{f:Value->Value->Sem Value}{C:Int->Int->Prop}{g:Int->Int->Int}
 (rule:∀(i j:Int) (t u:Tok) (s:Shared) (Q:Value->Shared->Prop) (E:Value->Shared->Prop),C i j->Q (.int (g i j) s.toks) { s with toks:=s.toks+1 }->wpAny (model X.prog X.w) X.A (f (.int i t) (.int j u)) Q E s) :
 OpR X f (rI C fun i j=>.int (g i j)):=by
 intro pins s σ H x y v u Q I rx ry h
 obtain⟨i,j,rfl,rfl,hc,q⟩:=h
 obtain⟨t,rfl⟩:=rx
 obtain⟨t',rfl⟩:=ry
 exact rule i j t t' s _ _ hc ⟨.int (g i j),H,I.tok _,⟨_,rfl⟩,q⟩
theorem opI0{f:Value->Value->Sem Value}{g:Int->Int->Int}
 (rule:∀(i j:Int) (t u:Tok) (s:Shared) (Q:Value->Shared->Prop) (E:Value->Shared->Prop),Q (.int (g i j) s.toks) { s with toks:=s.toks+1 }->wpAny (model X.prog X.w) X.A (f (.int i t) (.int j u)) Q E s) :
 OpR X f (rI0 fun i j=>.int (g i j)):=by
 intro pins s σ H x y v u Q I rx ry h
 obtain⟨i,j,rfl,rfl,q⟩:=h
 obtain⟨t,rfl⟩:=rx
 obtain⟨t',rfl⟩:=ry
 exact rule i j t t' s _ _ ⟨.int (g i j),H,I.tok _,⟨_,rfl⟩,q⟩
theorem opB0{f:Value->Value->Sem Value}{g:Int->Int->Bool}
 (rule:∀(i j:Int) (t u:Tok) (s:Shared) (Q:Value->Shared->Prop) (E:Value->Shared->Prop),Q (.bool (g i j)) s->wpAny (model X.prog X.w) X.A (f (.int i t) (.int j u)) Q E s) :
 OpR X f (rI0 fun i j=>.bl (g i j)):=by
 intro pins s σ H x y v u Q I rx ry h
 obtain⟨i,j,rfl,rfl,q⟩:=h
 obtain⟨t,rfl⟩:=rx
 obtain⟨t',rfl⟩:=ry
 exact rule i j t t' s _ _ ⟨.bl (g i j),H,I,rfl,q⟩
noncomputable def CDiv(i j:Int):Prop:=0<j/\j<1073741824
noncomputable def CPow(i j:Int):Prop:=0<=j/\j<=1000000/\i.natAbs<2^64
noncomputable def CMul(i j:Int):Prop:=(-(2^64)<i/\i<2^64)∨(-(2^64)<j/\j<2^64)
theorem CMul.ok{i j:Int}(h:CMul i j):IntMulOk i j:=by
 rcases h with ⟨h1,h2⟩ | ⟨h1,h2⟩
 ·exact .of_left (intBits_le_64 h1 h2)
 ·exact .of_right (intBits_le_64 h1 h2)
theorem x6a:OpR X (binaryOp .Add) (rI0 fun i j=>.int (i+j)):=opI0 fun _ _ _ _ _ _ _ q=>add_int q
theorem x5t:OpR X (binaryOp .Sub) (rI0 fun i j=>.int (i-j)):=opI0 fun _ _ _ _ _ _ _ q=>sub_int q
theorem x5w:OpR X (binaryOp .Mult) (rI CMul fun i j=>.int (i*j)):=opI fun _ _ _ _ _ _ _ hc q=>mul_int q hc.ok
theorem x3r:OpR X (binaryOp .FloorDiv) (rI CDiv fun i j=>.int (i/j)):=opI fun i j _ _ _ _ _ hc q=>by
 have h1:(0:Int)<j:=hc.1
 have h2:j<1073741824:=hc.2
 exact floordiv_int (by lia) (by rw[Int.fdiv_eq_ediv_of_nonneg i (by lia)];exact q) (.inl (PyProof.noPylong_small (by lia)))
theorem x5x:OpR X (binaryOp .Mod) (rI (fun _ j=>0<j) fun i j=>.int (i%j)):=opI fun i j _ _ _ _ _ hc q=>by
 have h1:(0:Int)<j:=hc
 exact mod_int' (by lia) (by rw[Int.fmod_eq_emod_of_nonneg i (by lia)];exact q)
theorem x5v:OpR X (binaryOp .Pow) (rI CPow fun i j=>.int (i^j.toNat)):=opI fun _ _ _ _ _ _ _ hc q=>pow_int_small hc.1 hc.2.1 hc.2.2 q
end
section
variable {X:Cx}{a b c:Expr}{ta tb tc:TE}{pos:Pos}
theorem x2q{pins:List (Addr×Obj)}{σ:St}{H:Hp}{s:Shared}{Q:VK}{k k':Bool}(I:Inv X pins σ H s)(q:Q (.bl k) H)(e:k=k'):EP X pins σ Q (.bool k') s:=by
 subst e
 exact⟨.bl k,H,I,rfl,q⟩
theorem x7i:OpR X (compareOp .Lt) (rI0 fun i j=>.bl (decide (i<j))):=opB0 fun _ _ _ _ _ _ _ q=>lt_int q
theorem x7j:OpR X (compareOp .LtE) (rI0 fun i j=>.bl (decide (i<=j))):=opB0 fun _ _ _ _ _ _ _ q=>le_int q
theorem x7k:OpR X (compareOp .Gt) (rI0 fun i j=>.bl (decide (j<i))):=opB0 fun _ _ _ _ _ _ _ q=>gt_int q
theorem x5y:OpR X (compareOp .Is) (fun x y H Q=>y = .non/\Q (.bl (decide (x = .non))) H):=by
 intro pins s σ H x y v u Q I rx ry h
 obtain⟨rfl,q⟩:=h
 cases ry
 refine is_none_gen (x2q I q ?_)
 cases x<;>first
  | (cases rx;rfl)
  | (obtain⟨t,rfl⟩:=rx;rfl)
theorem x3q:OpR X (compareOp .IsNot) (fun x y H Q=>y = .non/\Q (.bl (!decide (x = .non))) H):=by
 intro pins s σ H x y v u Q I rx ry h
 obtain⟨rfl,q⟩:=h
 cases ry
 refine isnot_none_gen (x2q I q ?_)
 cases x<;>first
  | (cases rx;rfl)
  | (obtain⟨t,rfl⟩:=rx;rfl)
theorem OpR.or{f:Value->Value->Sem Value}{r r':R2}(h:OpR X f r)(h':OpR X f r'):OpR X f (fun x y H Q=>r x y H Q∨r' x y H Q):=by
 intro pins s σ H x y v u Q I rx ry q
 rcases q with q | q
 ·exact h pins s σ H x y v u Q I rx ry q
 ·exact h' pins s σ H x y v u Q I rx ry q
theorem z1a(b:Expr){op:CmpOp}(h:op ≠ .In:=by decide)(h2:op ≠ .NotIn:=by decide):behindInMarks op b=false:=by
 have e1:(op==CmpOp.In)=false:=by cases op<;>first | rfl | exact absurd rfl h
 have e2:(op==CmpOp.NotIn)=false:=by cases op<;>first | rfl | exact absurd rfl h2
 cases b<;>simp[behindInMarks,e1,e2]
theorem y5p:(sizeLine:Nat)<2^63:=by rw[sizeLine_eq];decide
theorem y1i{x:V}{us:List Value}(r:Vals [x] us):∃u,us=[u]/\RelV x u:=by
 cases r with
 | cons r1 r2=>cases r2;exact⟨_,rfl,r1⟩
theorem x5a{x y:V}{us:List Value}(r:Vals [x,y] us):∃u w',us=[u,w']/\RelV x u/\RelV y w':=by
 cases r with
 | cons r1 r2 =>
   cases r2 with
   | cons r3 r4=>cases r4;exact⟨_,_,rfl,r1,r3⟩
theorem x0d(hc:X.calm=true):z7c X (.builtin "max") (fun xs H Q=>∃i j,xs=[.int i,.int j]/\Q (.int (if j>i then j else i)) H):=by
 intro pins s σ H xs us Q I r h
 obtain⟨i,j,rfl,q⟩:=h
 obtain⟨u,w',rfl,⟨t,rfl⟩,⟨t',rfl⟩⟩:=x5a r
 refine max_two_ints (I.ok.hd hc) fun h' tk k=>⟨_,H,I.kept k,?_,q⟩
 by_cases hj:j>i
 ·rw[if_pos hj,if_pos hj];exact⟨_,rfl⟩
 ·rw[if_neg hj,if_neg hj];exact⟨_,rfl⟩
theorem x0c(hc:X.calm=true):z7c X (.builtin "min") (fun xs H Q=>∃i j,xs=[.int i,.int j]/\Q (.int (if j<i then j else i)) H):=by
 intro pins s σ H xs us Q I r h
 obtain⟨i,j,rfl,q⟩:=h
 obtain⟨u,w',rfl,⟨t,rfl⟩,⟨t',rfl⟩⟩:=x5a r
 refine min_two_ints (I.ok.hd hc) fun h' tk k=>⟨_,H,I.kept k,?_,q⟩
 by_cases hj:j<i
 ·rw[if_pos hj,if_pos hj];exact⟨_,rfl⟩
 ·rw[if_neg hj,if_neg hj];exact⟨_,rfl⟩
theorem x0e:z7c X (.type "int") (fun xs H Q=>(∃i,xs=[.int i]/\Q (.int i) H)∨∃k,xs=[.bl k]/\Q (.int (if k then 1 else 0)) H):=by
 intro pins s σ H xs us Q I r h
 rcases h with ⟨i,rfl,q⟩ | ⟨k,rfl,q⟩
 ·obtain⟨u,rfl,t,rfl⟩:=y1i r
  exact call_int_int ⟨.int i,H,I,⟨_,rfl⟩,q⟩
 ·obtain⟨u,rfl,r1⟩:=y1i r
  cases r1
  exact call_int_bool ⟨.int (if k then 1 else 0),H,I.tok _,⟨_,rfl⟩,q⟩
end
end L2
namespace L2
open PySem PySem.Spec PyProof.Rows
structure ObjM (h:Heap) (x dx C:Addr) (mA:Str->Option Value):Prop where
 obj:h.get? x=some (PySem.W.instObj C dx)
 ns:h.Ns1 dx mA
 ne:dx≠x
section
variable {prog:Program}{w:World}{A:Around}{E:Value->Shared->Prop}{s:Shared}{K:PySem.W.Frag}{x dx C f:Addr}{mA:Str->Option Value}{name:Str}{v:Value}
end
section
variable {P:Program}{w:World}{H H':Hp}{h h':Heap}{a C dx:Addr}{fs fs':List (Str×V)}
end
structure Cls (K:PySem.W.Frag) (C:Addr):Prop where
 pg:PySem.W.plainGet K C Str.empty=true
 hd:PySem.W.hasDictIn K C=true
 po:PySem.W.plainOver K C=true
 sa:PySem.W.findIn K (.ref C) "__setattr__"=some (some (.builtin "object.__setattr__"))
structure Con (K:PySem.W.Frag) (C:Addr) (f:Str) (v:V) (u:Value):Prop where
 at_:PySem.W.findIn K (.ref C) f=some (some u)
 rel:RelV v u
 get:PySem.W.specialIn K u "__get__"=some none
 cp:PySem.W.copiedNames.contains f=false
structure Meth (K:PySem.W.Frag) (C:Addr) (m:Str) (f:Addr):Prop where
 at_:PySem.W.findIn K (.ref C) m=some (some (.ref f))
 fn:PySem.W.isFn K (.ref f)=true
 kp:PySem.W.keepIn K (.ref f)=true
section
variable {X:Cx}{pins:List (Addr×Obj)}{σ:St}{H:Hp}{s:Shared}{a C dx:Addr}{fs:List (Str×V)}{f:Str}{v:V}{A:Around}{E:Value->Shared->Prop}
end
section
variable {X:Cx}{o e value:Expr}{f:Str}{pos pos' tpos:Pos}{ta tv:TE}
end
section
variable {X:Cx}{pins:List (Addr×Obj)}{σ:St}{H:Hp}{s:Shared}{A:Around}{E:Value->Shared->Prop}{Q:Value->Shared->Prop}{c:Value}{b:Bool}
inductive TyOf (K:PySem.W.Frag) (H:Hp):V->Value->Prop where
 | non:TyOf K H .non (.type "NoneType")
 | bl (x:Bool):TyOf K H (.bl x) (.type "bool")
 | int (i:Int):TyOf K H (.int i) (.type "int")
 | str (x:Str):TyOf K H (.str x) (.type "str")
 | flt (x:UInt64):TyOf K H (.flt x) (.type "float")
 | lst {a:Addr} {xs:List V} (e:H a=some (.lst xs)):TyOf K H (.ref a) (.type "list")
 | frz {a:Addr} {o:Obj} {xs:List V} (e:H a=some (.frz o (.lst xs))):TyOf K H (.ref a) (.type "list")
 | tup {a:Addr} {xs:List V} (e:H a=some (.tup xs)):TyOf K H (.ref a) (.type "tuple")
 | dK {a:Addr} {kvs:List (Key×V)} (e:H a=some (.dK kvs)):TyOf K H (.ref a) (.type "dict")
 | dT {a:Addr} {kvs:List (List Key×V)} (e:H a=some (.dT kvs)):TyOf K H (.ref a) (.type "dict")
 | ins {a C dx:Addr} {fs:List (Str×V)} (e:H a=some (.ins C dx fs)) (cl:Cls K C) (ha:PySem.W.findIn K (.ref C) "__class__"=some (some (.builtin "object.__class__")))
    (hn:PySem.W.specialIn K (.builtin "object.__class__") "__get__"=some (some (.builtin "getset_descriptor.__get__"))) (htk:PySem.W.takesIn K (.builtin "object.__class__")=some true)
    (hm:PySem.W.mroIn K C (.type "object")=some true):TyOf K H (.ref a) (.ref C)
end
end L2
namespace L2
open PySem PySem.Spec PyProof.Rows
structure Room (k:Nat) (A:Around):Prop where
 hd:A.handled=none
 dp:A.depth+3*k+5<recursionLimit
 un:A.units+16*k+200<cLine
theorem Room.mono{j k:Nat}{A:Around}(r:Room k A)(h:j<=k):Room j A:=⟨r.hd,by have:=r.dp;lia,by have:=r.un;lia⟩
theorem Room.deeper{k:Nat}{A:Around}(r:Room (k+1) A)(env:Env):Room k (A.deeper env) :=
 ⟨r.hd,by have:=r.dp;show A.depth+1+3*k+5<_;lia,by have:=r.un;show A.units+3+16*k+200<_;lia⟩
theorem Room.depth{k:Nat}{A:Around}(r:Room k A):A.depth<recursionLimit:=by have:=r.dp;lia
theorem Room.units{k:Nat}{A:Around}(r:Room k A):A.units+64<cLine:=by have:=r.un;lia
section
variable {X:Cx}{e:Expr}{es:List Expr}{te:TE}{t:TA}{pos:Pos}
end
noncomputable abbrev Sp:=List V->Hp->VK->XK->Prop
noncomputable abbrev CXT:=List Env->Hp->Shared->XK->Value->Shared->Prop
structure Env0 (P:Program) (w:World) (K:PySem.W.Frag) (mg:Str->Option Value) (base:Heap) (A:Around) (outer:List Env) (s:Shared) (H:Hp):Prop where
 frames:A.frames=some outer
 mod:Mod K mg base
 bs:∀b o,base.get? b=some o->s.heap.get? b=some o/\H b=none
 bsz:base.objs.size<=s.heap.objs.size
 funs:s.heap.FunFrames base outer
 frf:∀b∈frs outer,H b=none
 hok:HOk P w H s.heap
 bare:AllBare s.gens
noncomputable def CE(outer:List Env)(P:Program)(w:World)(H:Hp)(s:Shared)(Q:VK)(u:Value)(s':Shared):Prop :=
 ∃v H',s'.os=s.os/\AllBare s'.gens/\Un (frs outer) [] H H' s.heap s'.heap/\HOk P w H' s'.heap/\RelV v u/\Q v H'
noncomputable def CR(CX:CXT)(outer:List Env)(P:Program)(w:World)(H:Hp)(s:Shared)(Q:VK)(E:XK)(r:Result)(s':Shared):Prop :=
 match r with
 | .ok (.ret u)=>CE outer P w H s Q u s'
 | .ok _=>False
 | .error e=>CX outer H s E e s'
structure FnOk (P:Program) (w:World) (K:PySem.W.Frag) (mg:Str->Option Value) (base:Heap) (CX:CXT) (k:Nat) (f:Addr) (fd:FuncData) (ps:List Str) (sp:Sp):Prop where
 len:∀vs H Q E,sp vs H Q E->vs.length=ps.length
 run:∀(A:Around) (outer:List Env) (s:Shared) (H:Hp) (args:Args) (us:List Value) (vs:List V) (Q:VK) (E:XK),Room k A->Env0 P w K mg base A outer s H->BindsTo s fd args (ps.zip us)->Vals vs us->sp vs H Q E ->
  codeAny (model P w) A (.call (.ref f) args) (CR CX outer P w H s Q E) s
theorem FnOk.mono{P:Program}{w:World}{K:PySem.W.Frag}{mg:Str->Option Value}{base:Heap}{CX:CXT}{j k:Nat}{f:Addr}{fd:FuncData}{ps:List Str}{sp:Sp}(F:FnOk P w K mg base CX j f fd ps sp)(h:j<=k) :
 FnOk P w K mg base CX k f fd ps sp:=⟨F.len,fun A outer s H args us vs Q E hr=>F.run A outer s H args us vs Q E (hr.mono h)⟩
theorem FnOk.imp{P:Program}{w:World}{K:PySem.W.Frag}{mg:Str->Option Value}{base:Heap}{CX:CXT}{k:Nat}{f:Addr}{fd:FuncData}{ps:List Str}{sp sp':Sp}(F:FnOk P w K mg base CX k f fd ps sp)
 (h:∀vs H Q E,sp' vs H Q E->sp vs H Q E):FnOk P w K mg base CX k f fd ps sp' :=
 ⟨fun vs H Q E q=>F.len vs H Q E (h _ _ _ _ q),fun A outer s H args us vs Q E hr he hb hv hs=>F.run A outer s H args us vs Q E hr he hb hv (h _ _ _ _ hs)⟩
section
variable {X:Cx}{pins:List (Addr×Obj)}{σ:St}{H:Hp}{s s':Shared}
theorem Inv.env0(I:Inv X pins σ H s):Env0 X.prog X.w X.K X.mg X.base X.A X.stack s H :=
 ⟨I.ok.frames,I.ok.mod,I.bs,Nat.le_trans I.ok.bsz I.sz,I.stack,I.stkFree,I.hok,I.bare⟩
theorem Inv.after{Q:VK}{u:Value}(I:Inv X pins σ H s)(h:CE X.stack X.prog X.w H s Q u s'):EP X pins σ Q u s':=by
 obtain⟨v,H',os,bare,un,hok,r,q⟩:=h
 obtain⟨hh,g,d,t,os'⟩:=s'
 obtain rfl:os'=s.os:=os
 exact⟨v,H',I.call (h':=hh) (g':=g) (d':=d) (t':=t) (ch:=[]) un hok bare (fun b z=>absurd z (by simp)),r,q⟩
end
noncomputable def z1u(K:PySem.W.Frag)(fd:FuncData)(ps:List Str)(ds:List Value):Prop :=
 ∀(s:Shared) (us:List Value),K.In s.heap->(us++ds).length=ps.length->BindsTo s fd ⟨us,[]⟩ (ps.zip (us++ds))
theorem z1u.all{K:PySem.W.Frag}{fd:FuncData}{ps:List Str}(h:∀us:List Value,us.length=ps.length->bindArgs fd ⟨us,[]⟩=pure (ps.zip us)):z1u K fd ps []:=fun s us _ hl=>by
 rw[List.append_nil] at hl ⊢
 exact .of_eq (h us hl)
section
variable {X:Cx}{CX:CXT}{k:Nat}{f C:Addr}{fd:FuncData}{ps:List Str}{sp:Sp}{dvs:List V}{ds:List Value}{E:XK}{x m:Str}{p pos apos:Pos}{e o:Expr}{es:List Expr}{ta:TE}{t:TA}
structure Mk (K:PySem.W.Frag) (C f:Addr):Prop where
 makes:PySem.W.makesIn K C=true
 init:PySem.W.findIn K (.ref C) "__init__"=some (some (.ref f))
 fn:PySem.W.isFn K (.ref f)=true
 kp:PySem.W.keepIn K (.ref C)=true
end
section
variable {X:Cx}{CX:CXT}{k:Nat}{f C:Addr}{fd:FuncData}{ps ks:List Str}{sp:Sp}{E:XK}{x m:Str}{p pos apos kpos:Pos}{e o:Expr}{es:List Expr}{kws:List Keyword}{te ta:TE}{t tk:TA}{nm:Option Str}
structure KBinds (K:PySem.W.Frag) (fd:FuncData) (ps ks:List Str) (g:List Value->List Value->List Value) (gV:List V->List V->List V):Prop where
 to:∀(s:Shared) (us ws:List Value),K.In s.heap->(g us ws).length=ps.length->BindsTo s fd ⟨us,ks.zip ws⟩ (ps.zip (g us ws))
 rel:∀{vs:List V} {us:List Value} {zs:List V} {ws:List Value},Vals vs us->Vals zs ws->Vals (gV vs zs) (g us ws)
variable {g:List Value->List Value->List Value}{gV:List V->List V->List V}
end
structure FnScope (N P:List Str) (sc:Scope):Prop where
 kind:sc.kind = .function
 co:sc.isCoroutine=false
 gen:sc.isGenerator=false
 nd:N.Nodup
 pre:N.take P.length=P
 par:∀x∈P,sc.names.lookup x=some .local∨sc.names.lookup x=some .cell
 nofree:∀y∈sc.names,y.2 ≠ .free
theorem y3t{kindOf:Str->Option NameKind}{x:Str}:∀{binds:List (Str×Value)} {m:Str->Option Value},(∀v,(x,v) ∉ binds)->bindL kindOf binds m x=m x
 | [],_,_=>rfl
 | (n,v)::r,m,h=>by
   unfold bindL
   rw[y3t fun w hw=>h w (List.mem_cons_of_mem _ hw)]
   split
   ·have:x≠n:=by rintro rfl;exact h v List.mem_cons_self
    simp[this]
   ·rfl
theorem y3v{kindOf:Str->Option NameKind}{x:Str}:∀{binds:List (Str×Value)} {m:Str->Option Value},(∀v,(x,v) ∉ binds)->bindC kindOf binds m x=m x
 | [],_,_=>rfl
 | (n,v)::r,m,h=>by
   unfold bindC
   rw[y3v fun w hw=>h w (List.mem_cons_of_mem _ hw)]
   split
   ·rfl
   ·have:x≠n:=by rintro rfl;exact h v List.mem_cons_self
    simp[this]
theorem y3u{kindOf:Str->Option NameKind}{x:Str}{v:Value}:∀{P:List Str} {vs:List Value} {i:Nat} {m:Str->Option Value},P.Nodup->P[i]? = some x->vs[i]? = some v->kindOf x=some .local ->
 bindL kindOf (P.zip vs) m x=some v
 | [],_,_,_,_,h,_,_=>by simp at h
 | _::_,[],_,_,_,_,h,_=>by simp at h
 | p::P,w::vs,0,m,nd,h1,h2,hk=>by
   simp at h1 h2;subst h1;subst h2
   show bindL kindOf ((p,w)::P.zip vs) m p=_
   unfold bindL
   rw[y3t fun v hv=>(List.nodup_cons.mp nd).1 (List.of_mem_zip hv).1,if_pos hk]
   simp
 | p::P,w::vs,i+1,m,nd,h1,h2,hk=>by
   show bindL kindOf ((p,w)::P.zip vs) m x=_
   unfold bindL
   exact y3u (i:=i) (List.nodup_cons.mp nd).2 (by simpa using h1) (by simpa using h2) hk
theorem y3w{kindOf:Str->Option NameKind}{x:Str}{v:Value}:∀{P:List Str} {vs:List Value} {i:Nat} {m:Str->Option Value},P.Nodup->P[i]? = some x->vs[i]? = some v->kindOf x≠some .local ->
 bindC kindOf (P.zip vs) m x=some v
 | [],_,_,_,_,h,_,_=>by simp at h
 | _::_,[],_,_,_,_,h,_=>by simp at h
 | p::P,w::vs,0,m,nd,h1,h2,hk=>by
   simp at h1 h2;subst h1;subst h2
   show bindC kindOf ((p,w)::P.zip vs) m p=_
   unfold bindC
   rw[y3v fun v hv=>(List.nodup_cons.mp nd).1 (List.of_mem_zip hv).1,if_neg hk]
   simp
 | p::P,w::vs,i+1,m,nd,h1,h2,hk=>by
   show bindC kindOf ((p,w)::P.zip vs) m x=_
   unfold bindC
   exact y3w (i:=i) (List.nodup_cons.mp nd).2 (by simpa using h1) (by simpa using h2) hk
noncomputable def start(N:List Str)(vs:List V):St:=vs.map some++List.replicate (N.length-vs.length) none
noncomputable def cxOf(CX:CXT)(P:Program)(w:World)(K:PySem.W.Frag)(mg:Str->Option Value)(base:Heap)(N:List Str)(qual:Str)(scope:Scope)(f:Addr)(cd:Value)(A:Around)(outer:List Env)(s:Shared)(H:Hp)(E:XK):Cx where
 prog:=P
 w:=w
 K:=K
 mg:=mg
 base:=base
 A:=A.deeper (envOfC qual scope s.heap.objs.size f cd)
 N:=N
 s₀:=s
 H₀:=H
 env:=envOfC qual scope s.heap.objs.size f cd
 outer:=outer
 stack:=envOfC qual scope s.heap.objs.size f cd::outer
 ex:=[]
 calm:=true
 fn:=fun _=>true
 pn:=[]
 xe:=fun e s'=>wpAny (model P w) (A.deeper (envOfC qual scope s.heap.objs.size f cd)) (leaving (envOfC qual scope s.heap.objs.size f cd) e) (fun _ s''=>CX outer H s E e s'') (fun e' s''=>CX outer H s E e' s'') s'
theorem y5y{sc:Scope}{n:Nat}{x:Str}(h:sc.names.lookup x=some .cell):∃c,(cellsFrom n sc.names []).lookup x=some c:=by
 have q:=PySem.W.cellsFrom_some sc.names n [] (.inl h)
 exact Option.isSome_iff_exists.mp q
theorem y9g{CX:CXT}{P:Program}{w:World}{K:PySem.W.Frag}{mg:Str->Option Value}{base:Heap}{N ps:List Str}{qual:Str}{scope:Scope}{f:Addr}{cd:Value}{A:Around}{outer:List Env}{s s1:Shared}{H:Hp}{E:XK}{us:List Value}{vs:List V}
 (S:FnScope N ps scope) (hd:A.handled=none) (e0:Env0 P w K mg base A outer s H) (hl:vs.length=ps.length) (r:Vals vs us)
 (x:InCallC s s.heap.objs.size (bindL (envOfC qual scope s.heap.objs.size f cd).kindOf (ps.zip us) fun _=>none) (cellsFrom (s.heap.objs.size+1) scope.names []) (bindC (envOfC qual scope s.heap.objs.size f cd).kindOf (ps.zip us) fun _=>none) s1) :
 Inv (cxOf CX P w K mg base N qual scope f cd A outer s H E) [] (start N vs) H s1:=by
 have hpl:ps.length<=N.length:=by have:=congrArg List.length S.pre;rw[List.length_take] at this;lia
 obtain⟨h1,tk,rfl,hk⟩:=x.done
 have noA:∀b:Addr,b ∉ (cxOf CX P w K mg base N qual scope f cd A outer s H E).ex:=fun b z=>absurd (show b∈([]:List Addr) from z) (by simp)
 refine⟨⟨e0.mod,S.kind,rfl,rfl,Nat.le_refl _,fun y z c h1 h2=>?_,fun y hy=>?_,fun y c _ h=>?_,fun _=>hd,Around.frames_deeper e0.frames,.inr ⟨rfl,rfl⟩,fun b z=>absurd z (noA b),e0.bs,e0.bsz,fun b _ _=>noA b,fun b z=>absurd z (noA b),e0.funs,e0.frf⟩,
  rfl,e0.bare,Un.kept hk,⟨_,x.toInCall.ns,fun i y v h1 h2 h3=>?_⟩,fun y c h=>⟨_,x.cell y c h⟩,e0.hok.fresh (Nat.le_refl _),fun y c h=>?_,fun p hp=>absurd (show p∈([]:List (Addr×Obj)) from hp) (by simp),e0.hok.kept hk,?_⟩
 ·exact name_of_addr x.apart (PySem.mem_of_lookup h1) (PySem.mem_of_lookup h2)
 ·have hy:scope.names.lookup y=some .cell∨scope.names.lookup y=some .free:=hy
  rcases hy with hy | hy
  ·exact y5y hy
  ·exact absurd rfl (S.nofree _ (PySem.mem_of_lookup hy))
 ·exact Nat.le_of_lt (x.above y c (PySem.mem_of_lookup h))
 ·have hi:i<vs.length:=by
   unfold start at h2
   by_cases hi:i<vs.length
   ·exact hi
   ·rw[List.getElem?_append_right (by simpa using hi)] at h2
    rw[List.getElem?_replicate] at h2
    split at h2<;>cases h2
  have ha:vs[i]? = some v:=by
   unfold start at h2
   rw[List.getElem?_append_left (by simpa using hi),List.getElem?_map] at h2
   cases e:vs[i]? with
   | none=>rw[e] at h2;cases h2
   | some a=>rw[e] at h2;cases h2;rfl
  obtain⟨u,hu,rv⟩:=r.get ha
  have hp:ps[i]? = some y:=by
   rw[<-S.pre,List.getElem?_take_of_lt (by lia)];exact h1
  have ndP:ps.Nodup:=by rw[<-S.pre];exact S.nd.sublist (List.take_sublist _ _)
  refine⟨u,rv,?_⟩
  rcases S.par y (List.mem_of_getElem? hp) with k | k
  ·exact .inl ⟨k,y3u ndP hp hu k⟩
  ·obtain⟨c,e⟩:=y5y (n:=s.heap.objs.size+1) k
   refine .inr ⟨.inl k,c,e,?_⟩
   have q:=x.cell y c e
   rw[y3w ndP hp hu (by show scope.names.lookup y≠_;rw[k];decide)] at q
   exact q
 ·exact e0.hok.fresh (Nat.le_of_lt (x.above y c (PySem.mem_of_lookup h)))
 ·unfold start
  show _=N.length
  rw[List.length_append,List.length_map,List.length_replicate]
  lia
theorem x1p{CX:CXT}{P:Program}{w:World}{K:PySem.W.Frag}{mg:Str->Option Value}{base:Heap}{k:Nat}{f:Addr}{name qual:Str}{params:Arguments}{body:List Stmt}{scope:Scope}{dV kV doc pm cdv ct oc:Value}{an od:Option Addr}
 {osl:Array (Option Value)} {N ps:List Str} {sp:Sp} (lk:K.lookup f=some ⟨oc,od,.func (PySem.W.fnOf name qual params body scope dV kV doc pm an cdv ct),osl⟩) (hcd:PySem.W.codeIn K cdv qual=true) (S:FnScope N ps scope)
 (len:∀vs H Q E,sp vs H Q E->vs.length=ps.length)
 (hbody:∀(A:Around) (outer:List Env) (s:Shared) (H:Hp) (vs:List V) (Q:VK) (E:XK),Room k (A.deeper (envOfC qual scope s.heap.objs.size f cdv))->sp vs H Q E ->
   ∃t,PSs (cxOf CX P w K mg base N qual scope f cdv A outer s H E) body t/\t { nx:=fun _ H'=>Q .non H',rt:=Q } (start N vs) H) :
 FnOk P w K mg base CX (k+1) f (PySem.W.fnOf name qual params body scope dV kV doc pm an cdv ct) ps sp:=by
 refine⟨len,fun A outer s H args us vs Q E hr e0 hb r hsp=>?_⟩
 have hl:=len _ _ _ _ hsp
 have KX:K.In s.heap:=e0.mod.kin.keeps fun b o e=>(e0.bs b o e).1
 have lim:s.heap.NoLimit:=e0.mod.nolimit.keeps fun b o e=>(e0.bs b o e).1
 have hkind:∀y∈ps.zip us,scope.names.lookup y.1=some .local∨(scope.names.lookup y.1=some .cell/\((cellsFrom (s.heap.objs.size+1) scope.names []).lookup y.1).isSome=true):=fun⟨n,v⟩ hy=>by
  rcases S.par n (List.of_mem_zip hy).1 with q | q
  ·exact .inl q
  ·exact .inr ⟨q,PySem.W.cellsFrom_some _ _ _ (.inl q)⟩
 refine codeAny_call_function hr.depth (KX _ _ lk) rfl S.co S.gen rfl (PySem.W.codeRec_of KX hcd) (hb _ _ _ _ ?_)
 refine wpAny_newFunctionEnv_cells S.kind hkind fun env he s1 x=>?_
 subst he
 refine⟨lim.keeps x.toInCall.keep,codeAny_func ?_⟩
 obtain⟨t,ht,hq⟩:=hbody A outer s H vs Q E (hr.deeper _) hsp
 have I:Inv (cxOf CX P w K mg base N qual scope f cdv A outer s H E) [] (start N vs) H s1:=y9g S hr.hd e0 hl r x
 refine wpAny_mono (ht [] s1 (start N vs) H _ I hq) (fun fl s' hs=>?_) fun e s' hs=>hs
 have fin:∀{σ':St} {H':Hp} {v:V} {u:Value},Inv (cxOf CX P w K mg base N qual scope f cdv A outer s H E) [] σ' H' s'->RelV v u->Q v H'->CE outer P w H s Q u s' :=
  fun {σ' H' v u} J rv q=>⟨v,H',J.os,J.bare,J.base,J.hok,rv,q⟩
 cases fl with
 | ret u =>
   obtain⟨v,σ',H',J,rv,q⟩:=hs
   exact fin J rv q
 | next =>
   obtain⟨σ',H',J,q⟩:=hs
   exact fin (v:=V.non) (u:=Value.none) J rfl q
 | brk =>
   obtain⟨_,_,_,q⟩:=hs
   exact False.elim q
 | cont =>
   obtain⟨_,_,_,q⟩:=hs
   exact False.elim q
end L2
namespace L2
open PySem PySem.Spec PyProof.Rows
section
variable {X:Cx}{x:Str}{p pos:Pos}{e:Expr}{es:List Expr}{t:TA}{id T:String}{r:List V->Hp->VK->Prop}
end
end L2
namespace HT
open PySem PyProof.Rows
section
open PySem.SeqAt
open PySem.AutoSeq1 (wpAny_loadPart')
open PySem.MeetsSeq PySem.MeetsSeq2 PySem.MeetsSeq3
end
section
variable {prog:Program}{w:World}{A:Around}{E:Value->Shared->Prop}{s:Shared}
theorem cat_tup{t b:Addr}{vs ws:List Value}{Q:Value->Shared->Prop}(ht:IsTup s.heap t vs.toArray)(hb:IsTup s.heap b ws.toArray)(hv:vs≠[])
 (h1:ws=[]->Q (.ref t) s) (h2:ws≠[]->Q (.ref s.heap.objs.size) { s with heap:=s.heap.push { cls:=.type "tuple",data:=.seq (vs++ws).toArray } })
 (hsz:vs.length+ws.length<=sizeLine):wpAny (model prog w) A (binaryOp .Add (.ref t) (.ref b)) Q E s:=by
 obtain⟨⟨cls,dd,data,sl⟩,ho,hc,n,hd⟩:=id ht
 obtain⟨⟨cls2,dd2,data2,sl2⟩,ho2,hc2,n2,hd2⟩:=id hb
 simp only at hc hd hc2 hd2
 subst hc hd hc2 hd2
 have e:vs.toArray++ws.toArray=(vs++ws).toArray:=by simp
 by_cases hw:ws=[]
 ·exact concat_meets ⟨_,ho,rfl⟩ ⟨_,ho2,rfl⟩ noFill_tuple_add seq_tuple_add PySem.F.slot_tuple_add PySem.F.entry_tuple_add (PySem.F.args_tuple_add_2 _ _)
   (tuple_addW1 t b vs.toArray ws.toArray n n2 dd dd2 sl sl2 (by simpa using hv) (by simp[hw])) ⟨ho,ho2,h1 hw⟩
 ·refine concat_meets ⟨_,ho,rfl⟩ ⟨_,ho2,rfl⟩ noFill_tuple_add seq_tuple_add PySem.F.slot_tuple_add PySem.F.entry_tuple_add (PySem.F.args_tuple_add_2 _ _)
   (tuple_addW2 t b vs.toArray ws.toArray n n2 dd dd2 sl sl2 (by simpa using hv) (by simpa using hw) (by rw[List.size_toArray,List.size_toArray];exact hsz)) ⟨ho,ho2,?_⟩
  rw[e]
  exact h2 hw
noncomputable def sIx(n d:Nat):Option Int->Nat
 | none=>d
 | some v=>if v<0 then (v+(n:Int)).toNat else min v.toNat n
theorem x5k(n d:Nat)(hd:d<=n)(o:Option Int):sIx n d o<=n:=by
 cases o with
 | none=>exact hd
 | some v =>
   show(if v<0 then (v+(n:Int)).toNat else min v.toNat n)<=n
   by_cases hv:v<0
   ·rw[if_pos hv];lia
   ·rw[if_neg hv];exact Nat.min_le_right _ _
theorem x0a(v:Int)(n d:Nat):(if v<0 then max (v+(n:Int)) 0 else min v (n:Int))=((sIx n d (some v):Nat):Int):=by
 show(if v<0 then max (v+(n:Int)) 0 else min v (n:Int))=(((if v<0 then (v+(n:Int)).toNat else min v.toNat n):Nat):Int)
 by_cases hv:v<0
 ·simp only[if_pos hv];lia
 ·simp only[if_neg hv];lia
theorem y7j(lo hi:Option Int)(n:Nat):Builtin.Slice.sliceAdjust lo hi 1 (n:Int)=(((sIx n 0 lo:Nat):Int),((sIx n n hi:Nat):Int)):=by
 have h1:¬((1:Int)<0):=by lia
 unfold Builtin.Slice.sliceAdjust
 simp only[h1,if_false]
 refine Prod.ext ?_ ?_
 ·cases lo with
  | none=>rfl
  | some v=>exact x0a v n 0
 ·cases hi with
  | none=>rfl
  | some v=>exact x0a v n n
theorem y6r(i j:Nat):Builtin.Slice.slicePlaces (i:Int) (j:Int) 1=j-i:=by
 unfold Builtin.Slice.slicePlaces
 have h1:(1:Int)>0:=by lia
 simp only[h1,if_true,Int.ediv_one]
 split<;>lia
theorem y0x{v:Value}{o:Option Int}{Q:Option Int->Shared->Prop}(p:IsPart v o)(h:Q o s):wpAny (model prog w) A (Builtin.Slice.slicePartIndex v) Q E s:=by
 cases p with
 | none=>exact slicePart_none h
 | int i t=>exact slicePart_int h
theorem z6a{sl:Addr}{vl vu:Value}{lo hi:Option Int}{n:Nat}{Q:Int×Int×Nat->Shared->Prop}(hs:s.heap.IsSliceOf sl vl vu .none)(pl:IsPart vl lo)(pu:IsPart vu hi)
 (h:Q (((sIx n 0 lo:Nat):Int),1,sIx n n hi-sIx n 0 lo) s):wpAny (model prog w) A (Builtin.Slice.sliceApplied (.ref sl) (pure (n:Int))) Q E s:=by
 obtain⟨os,hos,hcs,hds⟩:=id hs
 unfold Builtin.Slice.sliceApplied Builtin.Slice.sliceFields
 refine wpAny_bind (wpAny_bind (wpAny_field hos hds (x:=vl) rfl (wpAny_bind (wpAny_field hos hds (x:=vu) rfl (wpAny_bind (wpAny_field hos hds (x:=.none) rfl (wpAny_pure ?_)))))))
 refine wpAny_bind (slicePart_none ?_)
 show wpAny _ _ (if ((1:Int)==0)=true then _ else _) _ _ s
 rw[if_neg (by decide)]
 refine wpAny_bind (y0x pl (wpAny_bind (y0x pu (wpAny_bind (wpAny_pure ?_)))))
 show wpAny _ _ (match Builtin.Slice.sliceAdjust lo hi 1 (n:Int) with | (lo,hi)=>pure (lo,(1:Int),Builtin.Slice.slicePlaces lo hi 1)) _ _ s
 rw[y7j lo hi n]
 show wpAny _ _ (pure (((sIx n 0 lo:Nat):Int),(1:Int),Builtin.Slice.slicePlaces ((sIx n 0 lo:Nat):Int) ((sIx n n hi:Nat):Int) 1)) _ _ s
 rw[y6r]
 exact wpAny_pure h
theorem x0v(xs:Array Value)(i k:Nat):((List.range k).filterMap fun(m:Nat)=>xs[((i:Int)+(m:Int)*1).toNat]?).toArray=((xs.toList.drop i).take k).toArray:=by
 have e:(fun(m:Nat)=>xs[((i:Int)+(m:Int)*1).toNat]?)=fun m=>xs[i+m]?:=by
  funext m
  have:((i:Int)+(m:Int)*1).toNat=i+m:=by lia
  rw[this]
 rw[e]
 have:=pick_run xs i k
 rw[List.filterMap_map] at this
 have e2:((fun x=>xs[x]?) ∘ fun x=>i+x)=fun m=>xs[i+m]?:=rfl
 rw[e2] at this
 rw[this]
theorem getItem_tuple_cut{t sl:Addr}{items:Array Value}{vl vu:Value}{lo hi:Option Int}{Q:Value->Shared->Prop}(ht:IsTup s.heap t items)(hs:s.heap.IsSliceOf sl vl vu .none)(pl:IsPart vl lo)(pu:IsPart vu hi)
 (hw:¬(sIx items.size 0 lo=0/\sIx items.size items.size hi=items.size))
 (h:Q (.ref s.heap.objs.size) { s with heap:=s.heap.push { cls:=.type "tuple",data:=.seq ((items.toList.drop (sIx items.size 0 lo)).take (sIx items.size items.size hi-sIx items.size 0 lo)).toArray } })
 (hsz:items.size<=sizeLine):wpAny (model prog w) A (getItem (.ref t) (.ref sl)) Q E s:=by
 have htake:sizeOk (.seq ((items.toList.drop (sIx items.size 0 lo)).take (sIx items.size items.size hi-sIx items.size 0 lo)).toArray):=by
  show((items.toList.drop (sIx items.size 0 lo)).take (sIx items.size items.size hi-sIx items.size 0 lo)).toArray.size<=sizeLine
  rw[List.size_toArray,List.length_take,List.length_drop,Array.length_toList]
  lia
 have hj:sIx items.size items.size hi<=items.size:=x5k _ _ (Nat.le_refl _) hi
 obtain⟨os,hos,hcs,hds⟩:=id hs
 have hTs:s.TypeIs (.ref sl) "slice":=⟨os,hos,hcs⟩
 unfold getItem
 try with_reducible refine wpAny_holding ?_
 first | refine wpAny_bind (wpAny_pure ?_) | skip
 refine wpAny_bind (wpAny_sequenceKey ht.typeIs (by decide) ?_)
 refine wpAny_bind (wpAny_callSpecial?_slot (name:=Str.ofString "__getitem__") ht.typeIs PyProof.Rows.slot_tuple_getitem
  (wpAny_call_entry PyProof.Rows.slot_tuple_getitem ht.typeIs entry_tuple_getitem ?_ (args_tuple_getitem _ _)))
 show wpAny _ _ (Builtin.Tuple.tupleItemsOf (.ref t)>>=_) _ _ s
 refine wpAny_bind (tupleItemsOf_ ht ?_)
 refine wpAny_bind (wpAny_typeOf hTs ?_)
 rw[if_pos (by decide)]
 refine wpAny_bind (z6a hs pl pu ?_)
 have hno:¬((((sIx items.size 0 lo:Nat):Int)==0&&(1:Int)==1&&(sIx items.size items.size hi-sIx items.size 0 lo)==items.size)=true):=by
  intro q
  rw[Bool.and_eq_true,Bool.and_eq_true] at q
  have q1:((sIx items.size 0 lo:Nat):Int)=0:=eq_of_beq q.1.1
  have q2:sIx items.size items.size hi-sIx items.size 0 lo=items.size:=eq_of_beq q.2
  exact hw ⟨by lia,by lia⟩
 show wpAny _ _ (if (((sIx items.size 0 lo:Nat):Int)==0&&(1:Int)==1&&(sIx items.size items.size hi-sIx items.size 0 lo)==items.size)=true then _ else _) _ _ s
 rw[if_neg hno,x0v]
 first
  | exact wpAny_bind (m:=Builtin.Tuple.tupleExact _) (wpAny_newObj_type (wpAny_pure ⟨_,rfl,wpAny_pure h⟩) htake)
  | exact wpAny_bind (m:=Builtin.Tuple.tupleExact _) (wpAny_newObj_type (wpAny_bind (wpAny_pure (wpAny_pure ⟨_,rfl,wpAny_pure h⟩))) htake)
  | exact wpAny_bind (wpAny_bind (m:=Builtin.Tuple.tupleExact _) (wpAny_newObj_type (wpAny_pure (wpAny_pure ⟨_,rfl,wpAny_pure h⟩)) htake))
  | exact wpAny_bind (wpAny_bind (m:=Builtin.Tuple.tupleExact _) (wpAny_newObj_type (wpAny_pure ⟨_,rfl,wpAny_pure h⟩) htake))
end
end HT
namespace L2
open PySem PySem.Spec PyProof.Rows
noncomputable abbrev TO:=St->Hp->(Option Int->Hp->Prop)->Prop
theorem y0z{ns:List Int}:∀{us:List Value},Vals (ns.map V.int) us->IntsAre us ns:=by
 induction ns with
 | nil=>intro us r;rw[List.map_nil] at r;cases r;exact .nil
 | cons n ns ih =>
   intro us r
   rw[List.map_cons] at r
   cases r with
   | cons r1 r2 =>
     obtain⟨t,e⟩:=r1
     subst e
     exact .cons n t (ih r2)
section
variable {X:Cx}{e:Expr}{te:TE}{lo hi:Option Expr}{tl th:TO}{pos p2:Pos}
noncomputable def SlR(X:Cx)(r:V->Option Int->Option Int->Hp->VK->Prop):Prop :=
 ∀(pins:List (Addr×Obj)) (s:Shared) (σ:St) (H:Hp) (x:V) (v vl vu:Value) (lo hi:Option Int) (sl:Addr) (Q:VK),Inv X pins σ H s->RelV x v->s.heap.IsSliceOf sl vl vu .none->IsPart vl lo->IsPart vu hi->r x lo hi H Q ->
  ∃T id,typeLookup (.type T) "__getitem__"=pure (some (.builtin id))/\s.TypeIs v T/\wpAny (model X.prog X.w) X.A (getItem v (.ref sl)) (EP X pins σ Q) X.xe s
theorem SlR.or{r r':V->Option Int->Option Int->Hp->VK->Prop}(h:SlR X r)(h':SlR X r'):SlR X (fun x lo hi H Q=>r x lo hi H Q∨r' x lo hi H Q):=by
 intro pins s σ H x v vl vu lo hi sl Q I rx hs pl pu q
 rcases q with q | q
 ·exact h pins s σ H x v vl vu lo hi sl Q I rx hs pl pu q
 ·exact h' pins s σ H x v vl vu lo hi sl Q I rx hs pl pu q
noncomputable def cutV(xs:List V)(lo hi:Option Int):List V:=(xs.drop (HT.sIx xs.length 0 lo)).take (HT.sIx xs.length xs.length hi-HT.sIx xs.length 0 lo)
theorem y0g(xs:List V)(lo hi:Option Int):(cutV xs lo hi).length<=xs.length:=by
 unfold cutV
 rw[List.length_take,List.length_drop]
 lia
noncomputable def rSlT(K:PySem.W.Frag):V->Option Int->Option Int->Hp->VK->Prop:=fun x lo hi H Q=>∃a xs,x = .ref a/\SqT K H a xs /\
 ¬(HT.sIx xs.length 0 lo=0/\HT.sIx xs.length xs.length hi=xs.length)/\∀p,H p=none->Q (.ref p) (upd H p (.tup (cutV xs lo hi)))
theorem x5g:SlR X (rSlT X.K):=by
 intro pins s σ H x v vl vu lo hi sl Q I rx hs pl pu h
 obtain⟨a,xs,rfl,hx,hw,q⟩:=h
 cases rx
 obtain⟨its,r,ht,hz⟩:=I.tuple hx
 have hlen:its.toArray.size=xs.length:=by rw[List.size_toArray];exact r.length.symm
 refine⟨"tuple",_,PyProof.Rows.slot_tuple_getitem.lookup,ht.typeIs,?_⟩
 refine HT.getItem_tuple_cut ht hs pl pu (by rw[hlen];exact hw) ?_ (by rw[hlen];exact hz)
 rw[hlen]
 refine⟨.ref s.heap.objs.size,_,I.laid (t':=s.toks) (o:=.tup (cutV xs lo hi)) (fun b ob q=>Heap.get?_push_of_some _ q) (Nat.le_refl _) ?_,rfl,q _ (I.hok.fresh (Nat.le_refl _))⟩
 exact⟨Nat.le_trans (y0g xs lo hi) hz,_,(r.drop (HT.sIx xs.length 0 lo)).take (HT.sIx xs.length xs.length hi-HT.sIx xs.length 0 lo),IsTup.new _ _⟩
noncomputable def x7c(K:PySem.W.Frag):R2:=fun x y H Q=>∃a b xs ys,x = .ref a/\y = .ref b/\SqT K H a xs/\SqT K H b ys/\xs≠[]/\xs.length+ys.length<=sizeLine /\
 (ys=[]->Q (.ref a) H)/\(ys≠[]->∀p,H p=none->Q (.ref p) (upd H p (.tup (xs++ys))))
theorem Vals.nil_iff{xs:List V}{us:List Value}(r:Vals xs us):us=[]↔xs=[]:=by
 cases r with
 | nil=>simp
 | cons _ _=>simp
theorem x3s:OpR X (binaryOp .Add) (x7c X.K):=by
 intro pins s σ H x y v u Q I rx ry h
 obtain⟨a,b,xs,ys,rfl,rfl,ha,hb,hx,hz,q1,q2⟩:=h
 cases rx
 cases ry
 obtain⟨its,r1,p1,_⟩:=I.tuple ha
 obtain⟨its2,r2,p2,_⟩:=I.tuple hb
 refine HT.cat_tup p1 p2 (fun z=>hx (r1.nil_iff.mp z)) (fun z=>⟨.ref a,H,I,rfl,q1 (r2.nil_iff.mp z)⟩) (fun z=>?_) (by rw[<-r1.length,<-r2.length];exact hz)
 refine⟨.ref s.heap.objs.size,_,I.laid (t':=s.toks) (o:=.tup (xs++ys)) (fun b ob q=>Heap.get?_push_of_some _ q) (Nat.le_refl _) ?_,rfl,q2 (fun w=>z (r2.nil_iff.mpr w)) _ (I.hok.fresh (Nat.le_refl _))⟩
 exact⟨by rw[List.length_append];exact hz,_,r1.append r2,IsTup.new _ _⟩
end
end L2
namespace L2
open PySem PySem.Spec PyProof.Rows
noncomputable def ixN(n:Nat)(i:Int):Option Nat:=if 0<=i then (if i<n then some i.toNat else none) else if -(n:Int)<=i then some (i+n).toNat else none
noncomputable def atI{α:Type}(xs:List α)(i:Int):Option α:=(ixN xs.length i).bind fun j=>xs[j]?
theorem y9e{n:Nat}{i:Int}{j:Nat}(h:ixN n i=some j):seqIndex? i n=some j/\j<n /\ -(n:Int)<=i/\i<n:=by
 unfold ixN at h
 by_cases h0:0<=i
 ·rw[if_pos h0] at h
  by_cases h1:i<n
  ·rw[if_pos h1] at h
   have e:i.toNat=j:=Option.some.inj h
   exact⟨by rw[seqIndex_of h0 h1,e],by lia,by lia,h1⟩
  ·rw[if_neg h1] at h;cases h
 ·rw[if_neg h0] at h
  by_cases h1:-(n:Int)<=i
  ·rw[if_pos h1] at h
   have e:(i+n).toNat=j:=Option.some.inj h
   exact⟨by rw[seqIndex_neg (by lia) h1,e],by lia,h1,by lia⟩
  ·rw[if_neg h1] at h;cases h
theorem x0h{α:Type}{xs:List α}{i:Int}{v:α}(h:atI xs i=some v):∃j,seqIndex? i xs.length=some j/\xs[j]? = some v/\j<xs.length /\ -(xs.length:Int)<=i/\i<xs.length:=by
 unfold atI at h
 cases e:ixN xs.length i with
 | none=>rw[e] at h;cases h
 | some j =>
   rw[e] at h
   obtain⟨h1,h2,h3,h4⟩:=y9e e
   exact⟨j,h1,h,h2,h3,h4⟩
noncomputable def x4z(b:Expr):Prop:=∀o i,subscripted b false o i=operate [o,i] (getItem o i)
noncomputable def IxR(X:Cx)(r:R2):Prop :=
 ∀(value slice:Expr) (pins:List (Addr×Obj)) (s:Shared) (σ:St) (H:Hp) (x y:V) (v u:Value) (Q:VK),Inv X pins σ H s->RelV x v->RelV y u->r x y H Q ->
  subscripted slice false v u=operate [v,u] (getItem v u)->wpAny (model X.prog X.w) X.A (subscriptTail value slice v u) (EP X pins σ Q) X.xe s
section
variable {X:Cx}{a b:Expr}{ta tb:TE}{pos:Pos}
noncomputable def rIxL(K:PySem.W.Frag):R2:=fun x y H Q=>∃p xs i v,x = .ref p/\y = .int i/\SqL K H p xs/\atI xs i=some v/\Q v H
noncomputable def rIxT(K:PySem.W.Frag):R2:=fun x y H Q=>∃p xs i v,x = .ref p/\y = .int i/\SqT K H p xs/\atI xs i=some v/\Q v H
theorem x4j:IxR X (rIxL X.K):=by
 intro value slice pins s σ H x y v u Q I rx ry h hs
 obtain⟨p,xs,i,z,rfl,rfl,hq,he,q⟩:=h
 cases rx
 obtain⟨t,rfl⟩:=ry
 obtain⟨its,r,pl,hz⟩:=I.list hq
 obtain⟨j,h1,h2,h3,h4,h5⟩:=x0h he
 obtain⟨w,ew,rw'⟩:=r.get h2
 have hl:=r.length
 have hn:=y5p
 have fin:EP X pins σ Q w s:=⟨z,H,I,rw',q⟩
 by_cases h0:0<=i
 ·have hj:i.toNat=j:=by
   rw[seqIndex_of h0 h5] at h1
   exact Option.some.inj h1
  exact item_listR pl.isList h0 (by lia) (by rw[hj];simpa using ew) fin hs
 ·have hj:(i+(its.toArray.size:Int)).toNat=j:=by
   rw[seqIndex_neg (by lia) h4] at h1
   rw[List.size_toArray,<-hl]
   exact Option.some.inj h1
  exact subscriptTail_builtinR (x:=w) pl.isList.typeIs slot_list_getitem.lookup
   (wpAny_getItem_list_neg (Q:=fun r s'=>r=w/\EP X pins σ Q r s') pl.isList (by lia) (by rw[List.size_toArray]<;>lia) (by lia) (by rw[hj];simpa using ew) ⟨rfl,fin⟩) hs
theorem x6p:IxR X (rIxT X.K):=by
 intro value slice pins s σ H x y v u Q I rx ry h hs
 obtain⟨p,xs,i,z,rfl,rfl,hq,he,q⟩:=h
 cases rx
 obtain⟨t,rfl⟩:=ry
 obtain⟨its,r,pl,hz⟩:=I.tuple hq
 obtain⟨j,h1,h2,h3,h4,h5⟩:=x0h he
 obtain⟨w,ew,rw'⟩:=r.get h2
 have hl:=r.length
 have hn:=y5p
 have fin:EP X pins σ Q w s:=⟨z,H,I,rw',q⟩
 exact subscriptTail_builtinR (x:=w) pl.typeIs slot_tuple_getitem.lookup
  (getItem_tuple (j:=j) (Q:=fun r s'=>r=w/\EP X pins σ Q r s') pl (by lia) (by lia) (by rw[List.size_toArray,<-hl];exact h1) (by simpa using ew) ⟨rfl,fin⟩) hs
theorem y6v(its:List Value)(n j:Nat)(u:Value):Obj.mapSeq (·.setIfInBounds j u) { cls:=.type "list",data:=.seq its.toArray n }={ cls:=.type "list",data:=.seq (its.set j u).toArray n }:=by
 simp[Obj.mapSeq]
theorem Inv.lst{pins:List (Addr×Obj)}{σ:St}{H:Hp}{s:Shared}{p:Addr}{xs:List V}(I:Inv X pins σ H s)(h:H p=some (.lst xs)) :
 ∃(its:List Value) (n:Nat),Vals xs its/\s.heap.get? p=some { cls:=.type "list",data:=.seq its.toArray n }/\xs.length<=sizeLine:=by
 obtain⟨z,its,n,r,e⟩:=I.hok p _ h
 exact⟨its,n,r,e,z⟩
theorem Inv.lstUpd{pins:List (Addr×Obj)}{σ:St}{H:Hp}{s:Shared}{p:Addr}{xs ys:List V}{its its':List Value}{n n':Nat}{f:Obj->Obj}(I:Inv X pins σ H s)(h:H p=some (.lst xs))
 (ho:s.heap.get? p=some { cls:=.type "list",data:=.seq its.toArray n }) (hf:f { cls:=.type "list",data:=.seq its.toArray n }={ cls:=.type "list",data:=.seq its'.toArray n' }) (r:Vals ys its') (hz:ys.length<=sizeLine) (t:Nat) :
 Inv X pins σ (upd H p (.lst ys)) { s with heap:=s.heap.update p f,toks:=t }:=by
 have e:(s.heap.update p f).get? p=some { cls:=.type "list",data:=.seq its'.toArray n' }:=by
  rw[Heap.get?_update_self f ho (by rw[hf]<;>rfl),hf]
 refine I.write (x:=p) (e:=p) (by rw[h];trivial) (.inl rfl) (fun b u hb q=>(Heap.get?_update_other _ _ (Ne.symm hb)).trans q) ⟨_,e⟩ ?_
 exact⟨hz,its',n',r,e⟩
noncomputable def x7a:V->V->V->Hp->(Hp->Prop)->Prop:=fun o i v H Q=>∃p xs k j,o = .ref p/\i = .int k/\H p=some (.lst xs)/\ixN xs.length k=some j/\Q (upd H p (.lst (xs.set j v)))
theorem x0s:PSet X x7a:=by
 intro pins s σ H o i v ov iv u Q I ro ri rv h
 obtain⟨p,xs,k,j,rfl,rfl,hp,hj,q⟩:=h
 cases ro
 obtain⟨t,rfl⟩:=ri
 obtain⟨its,n,r,ho,hz⟩:=I.lst hp
 obtain⟨h1,h2,h3,h4⟩:=y9e hj
 have hl:=r.length
 have hn:=y5p
 have I':Inv X pins σ (upd H p (.lst (xs.set j v))) { s with heap:=s.heap.update p (Obj.mapSeq (·.setIfInBounds j u)) } :=
  I.lstUpd hp ho (y6v its n j u) (r.set rv j) (by rw[List.length_set];exact hz) s.toks
 by_cases h0:0<=k
 ·have hk:k.toNat=j:=by
   rw[seqIndex_of h0 h4] at h1
   exact Option.some.inj h1
  exact PySem.W.ki_setAt ho h0 (by lia) (by rw[List.size_toArray,<-hl];exact h4) (by rw[hk];exact⟨_,I',q⟩)
 ·have hk:(k+(its.toArray.size:Int)).toNat=j:=by
   rw[seqIndex_neg (by lia) h3] at h1
   rw[List.size_toArray,<-hl]
   exact Option.some.inj h1
  exact PySem.W.ki_setBack ho (by lia) (by rw[List.size_toArray,<-hl];exact h3) (by lia) (by rw[hk];exact⟨_,I',q⟩)
theorem y2p(lo hi:Option Int)(n:Nat):(sliceBounds lo hi none n).1=((HT.sIx n 0 lo:Nat):Int)/\(sliceBounds lo hi none n).2.1=((HT.sIx n n hi:Nat):Int)/\(sliceBounds lo hi none n).2.2=1:=by
 refine⟨?_,?_,rfl⟩
 ·cases lo with
  | none=>simp[sliceBounds,HT.sIx]
  | some i =>
    simp only[sliceBounds,HT.sIx,Option.getD_none,show(1:Int)>0 by decide,if_true]
    by_cases h:i<0
    ·simp only[h,if_true]<;>lia
    ·simp only[h,if_false]<;>lia
 ·cases hi with
  | none=>simp[sliceBounds,HT.sIx]
  | some i =>
    simp only[sliceBounds,HT.sIx,Option.getD_none,show(1:Int)>0 by decide,if_true]
    by_cases h:i<0
    ·simp only[h,if_true]<;>lia
    ·simp only[h,if_false]<;>lia
theorem y1m(its:List Value)(lo hi:Option Int):slicePick its.toArray lo hi none=((its.drop (HT.sIx its.length 0 lo)).take (HT.sIx its.length its.length hi-HT.sIx its.length 0 lo)).toArray:=by
 obtain⟨h1,h2,h3⟩:=y2p lo hi its.toArray.size
 unfold slicePick
 rw[h1,h2,h3]
 simp only[sliceRange_one,pick_run,List.size_toArray]<;>rfl
noncomputable def rSlL(K:PySem.W.Frag):V->Option Int->Option Int->Hp->VK->Prop:=fun x lo hi H Q=>∃a xs,x = .ref a/\SqL K H a xs/\∀p,H p=none->Q (.ref p) (upd H p (.lst (cutV xs lo hi)))
theorem x2z:SlR X (rSlL X.K):=by
 intro pins s σ H x v vl vu lo hi sl Q I rx hs pl pu h
 obtain⟨a,xs,rfl,hx,q⟩:=h
 cases rx
 obtain⟨its,r,ht,hz⟩:=I.list hx
 have hlen:=r.length
 refine⟨"list",_,slot_list_getitem.lookup,ht.isList.typeIs,?_⟩
 refine wpAny_getItem_list_slice ht.isList hs pl pu .none (by simp) ?_ (by rw[List.size_toArray]<;>lia)
 rw[y1m,<-hlen]
 refine⟨.ref s.heap.objs.size,_,I.laid (t':=s.toks) (o:=.lst (cutV xs lo hi)) (fun b ob q=>Heap.get?_push_of_some _ q) (Nat.le_refl _) ?_,rfl,q _ (I.hok.fresh (Nat.le_refl _))⟩
 exact⟨Nat.le_trans (y0g xs lo hi) hz,_,0,(r.drop (HT.sIx xs.length 0 lo)).take (HT.sIx xs.length xs.length hi-HT.sIx xs.length 0 lo),Heap.get?_push_size _ rfl⟩
theorem y3r:z7c X (.builtin "len") (fun xs H Q=>∃p ys,xs=[.ref p]/\(SqL X.K H p ys∨SqT X.K H p ys)/\Q (.int ys.length) H):=by
 intro pins s σ H xs us Q I r h
 obtain⟨p,ys,rfl,hq,q⟩:=h
 obtain⟨u,rfl,rx⟩:=y1i r
 cases rx
 have hn:=y5p
 rcases hq with hq | hq
 ·obtain⟨its,r',pl,hz⟩:=I.list hq
  have hlen:=r'.length
  exact Calls.call_len_list pl.isList (by simp only[List.size_toArray]<;>lia) ⟨.int ys.length,H,I.tok _,⟨s.toks+1,by rw[List.size_toArray,hlen]⟩,q⟩
 ·obtain⟨its,r',pl,hz⟩:=I.tuple hq
  have hlen:=r'.length
  exact len_tuple pl (by simp only[List.size_toArray]<;>lia) ⟨.int ys.length,H,I.tok _,⟨s.toks+1,by rw[List.size_toArray,hlen]⟩,q⟩
theorem z7c.or{f:Value}{r r':List V->Hp->VK->Prop}(h:z7c X f r)(h':z7c X f r'):z7c X f (fun xs H Q=>r xs H Q∨r' xs H Q):=by
 intro pins s σ H xs us Q I rs q
 rcases q with q | q
 ·exact h pins s σ H xs us Q I rs q
 ·exact h' pins s σ H xs us Q I rs q
theorem y3q:z7c X (.type "list") (fun xs H Q=>∃p ys,xs=[.ref p]/\(SqL X.K H p ys∨SqT X.K H p ys)/\∀l,H l=none->Q (.ref l) (upd H l (.lst ys))):=by
 intro pins s σ H xs us Q I r h
 obtain⟨p,ys,rfl,hq,q⟩:=h
 obtain⟨u,rfl,rx⟩:=y1i r
 cases rx
 have fin:∀(its:List Value),Vals ys its->ys.length<=sizeLine->∀(h':Heap) (c':Nat),(∀b o',s.heap.get? b=some o'->h'.get? b=some o') ->
  h'.get? s.heap.objs.size=some { cls:=.type "list",dict:=none,data:=.seq its.toArray c',slots:=#[] }->EP X pins σ Q (.ref s.heap.objs.size) { s with heap:=h' }:=fun its r' hz h' c' kp e =>
  ⟨.ref s.heap.objs.size,_,I.laid (t':=s.toks) kp (Nat.le_refl _) (show z7b X.prog X.w _ h' _ (.lst ys) from⟨hz,its,c',r',e⟩),rfl,q _ (I.hok.fresh (Nat.le_refl _))⟩
 rcases hq with hq | hq
 ·obtain⟨its,r',pl,hz⟩:=I.list hq
  have hlen:=r'.length
  obtain⟨o,ho,hc,n,hd⟩:=pl.isList
  exact call_list_seq p (.inl rfl) ho hc hd (fun h' c' kp e=>fin its r' hz h' c' kp e) (by simp only[List.size_toArray]<;>lia)
 ·obtain⟨its,r',pl,hz⟩:=I.tuple hq
  have hlen:=r'.length
  obtain⟨o,ho,hc,n,hd⟩:=pl
  exact call_list_seq p (.inr rfl) ho hc hd (fun h' c' kp e=>fin its r' hz h' c' kp e) (by simp only[List.size_toArray]<;>lia)
theorem y2d:z7c X (.type "tuple") (fun xs H Q=>∃p ys,xs=[.ref p]/\((SqL X.K H p ys/\∀l,H l=none->Q (.ref l) (upd H l (.tup ys)))∨(SqT X.K H p ys/\Q (.ref p) H))):=by
 intro pins s σ H xs us Q I r h
 obtain⟨p,ys,rfl,h⟩:=h
 obtain⟨u,rfl,rx⟩:=y1i r
 cases rx
 rcases h with ⟨hq,q⟩ | ⟨hq,q⟩
 ·obtain⟨its,r',pl,hz⟩:=I.list hq
  have hlen:=r'.length
  refine call_tuple_list pl.isList (fun h' kp=>?_) (by simp only[List.size_toArray]<;>lia)
  have I1:Inv X pins σ H { s with heap:=h' }:=I.kept (t':=s.toks) kp
  have I2:Inv X pins σ (upd H h'.objs.size (.tup ys)) { s with heap:=h'.push { cls:=.type "tuple",data:=.seq its.toArray } } :=
   I1.laid (t':=s.toks) (fun b o e=>Heap.get?_push_of_some _ e) (Nat.le_refl _) (show z7b X.prog X.w _ _ _ (.tup ys) from⟨hz,its,r',IsTup.new _ _⟩)
  exact⟨.ref h'.objs.size,_,I2,rfl,q _ (I1.hok.fresh (Nat.le_refl _))⟩
 ·obtain⟨its,r',pl,hz⟩:=I.tuple hq
  exact call_tuple_same pl ⟨.ref p,H,I,rfl,q⟩
noncomputable def tyV(K:PySem.W.Frag)(T:String)(x:V)(H:Hp):Prop:=match x with
 | .str _=>T="str"
 | .int _=>T="int"
 | .ref p=>(T="list"/\∃xs,SqL K H p xs)∨(T="tuple"/\∃o,K.lookup p=some o/\o.cls = .type "tuple"/\o.dict=none) ∨
    (T="dict"/\((∃kvs,H p=some (.dK kvs))∨∃kvs,H p=some (.dT kvs)))∨(T="set"/\∃S n,H p=some (.set S n))
 | _=>False
theorem x5b{pins:List (Addr×Obj)}{σ:St}{H:Hp}{s:Shared}{T:String}{x:V}{v:Value}(I:Inv X pins σ H s)(r:RelV x v)(ty:tyV X.K T x H) :
 s.TypeIs v T/\∀a,v = .ref a->∃ob,s.heap.get? a=some ob/\ob.dict=none:=by
 cases x with
 | str z =>
   obtain⟨t,rfl⟩:=r
   cases (show T="str" from ty)
   exact⟨typeIs_str s z t,fun _ e=>nomatch e⟩
 | int i =>
   obtain⟨t,rfl⟩:=r
   cases (show T="int" from ty)
   exact⟨typeIs_int s i t,fun _ e=>nomatch e⟩
 | ref p =>
   cases r
   rcases ty with ⟨rfl,xs,hq⟩ | ⟨rfl,o,hk,hc,hd⟩ | ⟨rfl,hk⟩ | ⟨rfl,S,n,hk⟩
   ·obtain⟨its,_,pl,_⟩:=I.list hq
    refine⟨pl.isList.typeIs,fun a e=>?_⟩
    cases e
    obtain⟨o,n,e,c,hd,_⟩:=pl
    exact⟨o,e,hd⟩
   ·refine⟨⟨o,I.kIn p o hk,hc⟩,fun a e=>?_⟩
    cases e
    exact⟨o,I.kIn _ o hk,hd⟩
   ·have z:∃o,s.heap.get? p=some o/\o.ExactDict:=by
     rcases hk with ⟨kvs,hk⟩ | ⟨kvs,hk⟩
     ·obtain⟨_,_,_,_,o,_,_,e,ex,_⟩:=I.hok p _ hk
      exact⟨o,e,ex⟩
     ·obtain⟨_,_,_,_,o,_,_,e,ex,_⟩:=I.hok p _ hk
      exact⟨o,e,ex⟩
    obtain⟨o,e,ex⟩:=z
    refine⟨⟨o,e,ex.1⟩,fun a e2=>?_⟩
    cases e2
    exact⟨o,e,ex.2.1⟩
   ·obtain⟨o,_,_,_,e,ex,_⟩:=I.hok p _ hk
    refine⟨⟨o,e,ex.1⟩,fun a e2=>?_⟩
    cases e2
    exact⟨o,e,ex.2.1⟩
 | _=>exact False.elim ty
variable {o e:Expr}{es:List Expr}{to:TE}{t:TA}{name:Str}{apos cpos:Pos}{T id:String}{r:V->List V->Hp->VK->Prop}
end
end L2
namespace L2
open PySem PySem.Spec PyProof.Rows
noncomputable def MtM(X:Cx)(id:String)(r:V->List V->Hp->VK->Prop):Prop :=
 ∀(pins:List (Addr×Obj)) (s:Shared) (σ:St) (H:Hp) (x:V) (xs:List V) (v:Value) (us:List Value) (Q:VK),Inv X pins σ H s->RelV x v->Vals xs us->r x xs H Q ->
  wpAny (model X.prog X.w) X.A (call (.builtin id) (v::us)) (EP X pins σ Q) X.xe s
theorem Vals.one:∀{x:V} {us:List Value},Vals [x] us->∃u,us=[u]/\RelV x u
 | _,_,.cons r .nil=>⟨_,rfl,r⟩
theorem Vals.rep{xs:List V}{us:List Value}(h:Vals xs us):∀k:Nat,Vals (List.replicate k xs).flatten (List.replicate k us).flatten
 | 0=>.nil
 | k+1=>by
   rw[List.replicate_succ,List.replicate_succ,List.flatten_cons,List.flatten_cons]
   exact Vals.append h (Vals.rep h k)
theorem y0d(its:List Value):∀(k:Nat) (acc:List Value),
 List.foldl (fun x1 x2=>x1++x2) acc.toArray (List.replicate k its.toArray)=(acc++(List.replicate k its).flatten).toArray
 | 0,acc=>by simp
 | k+1,acc=>by
   have e:acc.toArray++its.toArray=(acc++its).toArray:=by simp
   have e2:(acc++its)++(List.replicate k its).flatten=acc++(List.replicate (k+1) its).flatten:=by
    rw[List.replicate_succ,List.flatten_cons,List.append_assoc]
   rw[<-e2,<-y0d its k (acc++its),<-e,List.replicate_succ,List.foldl_cons]
section
variable {X:Cx}{pins:List (Addr×Obj)}{σ:St}{H:Hp}{s:Shared}{l b:Addr}{xs ys zs:List V}
theorem Inv.lset{its its':List Value}{n:Nat}{f:Array Value->Array Value}{t':Nat}(I:Inv X pins σ H s)(hH:H l=some (.lst xs))
 (e:s.heap.get? l=some { cls:=.type "list",data:=.seq its.toArray n }) (hf:f its.toArray=its'.toArray) (hv:Vals ys its') (hz:ys.length<=sizeLine) :
 Inv X pins σ (upd H l (.lst ys)) { s with heap:=s.heap.update l (Obj.mapSeq f),toks:=t' }:=by
 have q:=PySem.IsL.update e f
 rw[hf] at q
 refine I.write (x:=l) (e:=l) (by rw[hH];exact trivial) (.inl rfl) (fun b' u hb hu=>(Heap.get?_update_other s.heap (Obj.mapSeq f) (Ne.symm hb)).trans hu) ⟨_,q⟩ ?_
 exact⟨hz,its',_,hv,q⟩
theorem Inv.lnew{its:List Value}{t':Nat}(I:Inv X pins σ H s)(hv:Vals ys its)(hz:ys.length<=sizeLine) :
 Inv X pins σ (upd H s.heap.objs.size (.lst ys)) { s with heap:=s.heap.push { cls:=.type "list",data:=.seq its.toArray },toks:=t' } :=
 I.laid (fun _ _ q=>Heap.get?_push_of_some _ q) (Nat.le_refl _) ⟨hz,its,0,hv,Heap.get?_push_size _ rfl⟩
theorem Inv.fresh(I:Inv X pins σ H s):H s.heap.objs.size=none:=I.hok.fresh (Nat.le_refl _)
theorem Inv.lstM(I:Inv X pins σ H s)(hH:H l=some (.lst xs)):xs.length<=sizeLine/\∃(its:List Value) (n:Nat),Vals xs its/\xs.length=its.length/\s.heap.get? l=some { cls:=.type "list",data:=.seq its.toArray n }:=by
 obtain⟨z,its,n,r,e⟩:=I.hok l _ hH
 exact⟨z,its,n,r,r.length,e⟩
theorem x1f{n:Nat}(h:n<=sizeLine):Builtin.List.listTooLong n=false:=by
 unfold Builtin.List.listTooLong
 exact decide_eq_false (by lia)
end
section
variable {X:Cx}
noncomputable def x3h:V->List V->Hp->VK->Prop:=fun x vs H Q=>∃l xs y,x = .ref l/\vs=[y]/\H l=some (.lst xs)/\xs.length<sizeLine/\Q .non (upd H l (.lst (xs++[y])))
theorem y8u:MtM X "list.append" x3h:=by
 intro pins s σ H x vs v us Q I rx rv h
 obtain⟨l,xs,y,rfl,rfl,hH,hz,q⟩:=h
 cases rx
 obtain⟨u,rfl,ru⟩:=rv.one
 obtain⟨z,its,n,r,hl,e⟩:=I.lstM hH
 refine call_meets F.slot_list_append ⟨_,e,rfl⟩ F.entry_list_append (F.args_list_append_2 _ _) (PySem.list_append l its.toArray n u (by rw[List.size_toArray];lia)) ⟨e,?_⟩
 refine⟨.non,_,I.lset (its':=its++[u]) hH e (by simp) (r.append (.cons ru .nil)) ?_,rfl,q⟩
 rw[List.length_append,List.length_singleton]
 lia
noncomputable def rCat:R2:=fun x y H Q=>∃l b xs zs,x = .ref l/\y = .ref b/\H l=some (.lst xs)/\H b=some (.lst zs)/\xs.length+zs.length<=sizeLine/\∀p,H p=none->Q (.ref p) (upd H p (.lst (xs++zs)))
theorem x5z:OpR X (binaryOp .Add) rCat:=by
 intro pins s σ H x y v u Q I rx ry h
 obtain⟨l,b,xs,zs,rfl,rfl,hH,hB,hz,q⟩:=h
 cases rx
 cases ry
 obtain⟨z,its,n,r,hl,e⟩:=I.lstM hH
 obtain⟨z2,its2,n2,r2,hl2,e2⟩:=I.lstM hB
 refine PySem.P.add_list e e2 ?_ (by rw[List.size_toArray,List.size_toArray];lia)
 have ea:its.toArray++its2.toArray=(its++its2).toArray:=by simp
 rw[ea]
 exact⟨.ref _,_,I.lnew (t':=s.toks) (r.append r2) (by rw[List.length_append];lia),rfl,q _ I.fresh⟩
noncomputable def rRep:R2:=fun x y H Q=>∃l k xs,x = .ref l/\y = .int k/\H l=some (.lst xs) /\ -(2^63)<=k/\k<2^63/\xs.length*k.toNat<=sizeLine /\
 ∀p,H p=none->Q (.ref p) (upd H p (.lst (List.replicate k.toNat xs).flatten))
theorem y4p{α:Type}(xs:List α)(k:Nat):(List.replicate k xs).flatten.length=k*xs.length:=by
 induction k with
 | zero=>simp
 | succ k ih=>rw[List.replicate_succ,List.flatten_cons,List.length_append,ih,Nat.succ_mul,Nat.add_comm]
theorem x5u:OpR X (binaryOp .Mult) rRep:=by
 intro pins s σ H x y v u Q I rx ry h
 obtain⟨l,k,xs,rfl,rfl,hH,h1,h2,hz,q⟩:=h
 cases rx
 obtain⟨t,rfl⟩:=ry
 obtain⟨z,its,n,r,hl,e⟩:=I.lstM hH
 have hlen:its.toArray.size*k.toNat<=sizeLine:=by rw[List.size_toArray,<-hl];exact hz
 have hcap:¬its.toArray.size*k.toNat>(2^63-1)/8:=by
  have:(sizeLine:Nat)<=(2^63-1)/8:=by decide
  lia
 have hfit:¬(!Builtin.List.listFitsIndex k)=true:=by
  rw[fitsIndex_both h1 h2]
  exact Bool.false_ne_true
 have hlong:¬Builtin.List.listTooLong (its.toArray.size*k.toNat)=true:=by
  rw[x1f hlen]
  exact Bool.false_ne_true
 have hnew:List.foldl (fun x1 x2=>x1++x2) #[] (List.replicate (if its.toArray.isEmpty=true then 0 else k.toNat) its.toArray)=(List.replicate k.toNat its).flatten.toArray:=by
  have f0:∀m:Nat,List.foldl (fun x1 x2=>x1++x2) #[] (List.replicate m its.toArray)=(List.replicate m its).flatten.toArray:=fun m=>by
   have:=y0d its m []
   rw[List.nil_append] at this
   exact this
  rw[f0]
  cases its with
  | nil=>simp
  | cons a r'=>rw[if_neg (by simp)]
 refine wpAny_binaryOp_repeat_ref (T:="list") (U:="int") (by decide) ⟨_,e,rfl⟩ (fun s'=>typeIs_int s' k t) noFill_list_mul F.fills_int_mul F.slot_int_rmul repeat_list F.slot_int_index.lookup
  (call_meets F.slot_int_rmul (typeIs_int s k t) F.entry_int_rmul (F.args_int_rmul_2 _ _) (int___rmul___int_list k t l its.toArray n)
    ⟨e,rfl,⟨_,e,rfl⟩,call_meets F.slot_list_mul ⟨_,e,rfl⟩ F.entry_list_mul (F.args_list_mul_2 _ _) (AutoListH.list___mul___list_int_3 l its.toArray n k t hfit hcap hlong) ⟨e,?_⟩⟩)
 rw[hnew]
 exact⟨.ref _,_,I.lnew (t':=s.toks) (r.rep k.toNat) (by rw[y4p,Nat.mul_comm];exact hz),rfl,q _ I.fresh⟩
end
section
variable {prog:Program}{w:World}{A:Around}{E:Value->Shared->Prop}{s:Shared}
end
section
variable {X:Cx}
end
end L2
namespace Att
open PySem PySem.W PySem.Calls PyProof.Rows
theorem z9z{P:Params}{h:Heap}:∀(ns:List Int) (vs:List Value),WellAll P h vs (ns.map WData.int)->IntsAre vs ns:=by
 intro ns
 induction ns with
 | nil =>
   intro vs w
   rw[List.map_nil] at w
   cases w
   exact .nil
 | cons n ns ih =>
   intro vs w
   rw[List.map_cons] at w
   cases w with
   | cons a b =>
     cases a
     exact .cons _ _ (ih _ b)
theorem y8d{l:OpenLaw}{n:Nat}(hn:l.most=some n){P:Params}{h:Heap}{args:List WData}{vals:List Value}
 (hpre:l.row.toRowW.claim.pre args=true) (hwl:WellAll P h vals args) :
 ∃a vs ns,vals=[Value.ref a]/\args=[WData.list (ns.map WData.int)]/\h.get? a=some { cls:=.type "list",data:=.seq vs.toArray }/\IntsAre vs ns/\ns.length<=n:=by
 have hsh:WShape.hasAll [] args [.list .int]=true:=(pre_splitW hpre).1
 have hc:l.pre.holds [] { args:=args }=true:=(pre_splitW hpre).2
 obtain⟨d,r,rfl,h1,h2⟩:=hasAllW_cons hsh
 obtain rfl:=hasAllW_nil h2
 obtain⟨xs,rfl,h3⟩:=hasW_list h1
 obtain⟨ns,rfl⟩:=items_int h3
 have hlen:ns.length<=n:=by
  unfold OpenLaw.pre at hc
  have h4:(WTm.not (.lt (.lit (.int (n:Int))) (.len (.arg 0)))).holds [] { args:=[.list (ns.map .int)] }=true:=by
   have h4:=(holds_andW hc).1
   rw[hn] at h4
   exact h4
  have h5:=condW_of h4 (w_not (w_lt w_lit (w_len_list (w_arg rfl))))
  rw[List.length_map] at h5
  refine Nat.le_of_not_lt fun q=>?_
  have q':(n:Int)<((ns.length:Nat):Int):=by lia
  first
   | (rw[decide_eq_true q'] at h5;exact absurd h5 (by decide))
   | (simp at h5;lia)
 cases hwl with
 | cons w1 w2 =>
   cases w2
   cases w1 with
   | list ho hall=>exact⟨_,_,ns,rfl,rfl,ho,z9z ns _ hall,hlen⟩
theorem y8j(l:OpenLaw)(args:List WData):l.row.toRowW.claim.post args (.bool true) args=true :=
 postW_of (r:=l.row.toRowW) (X:=(true==true))
  (show WShape.has [] (.bool true) .bool=true by first | rfl | decide | simp[WShape.has,WShape.arms,WShape.armsAll])
  (show(WTm.eq .res (.lit (.bool true))).value [] { args:=args,res:=some (.bool true),after:=args }=some (.bool (true==true)) from w_eq_bool (w_res rfl) w_lit) rfl
theorem attach_call{l:OpenLaw}{n:Nat}{q:Program}{loose:List Str}{XP:(Str->Option Value)->Heap->Prop}{YP:World->Heap->Prop}{d:DefRec}
 (hn:l.most=some n) (hdf:d.params.defaults=[])
 (call:∀(w:World) (s₀ s₁:Shared) (mg mb:Str->Option Value) (fa:Addr) (o:Obj) (pm cd doc:Value) (a:Addr) (vs:List Value) (ns:List Int),
   Ground q loose [] XP w s₀ mg mb s₁.heap->YP w s₁.heap ->
   s₁.heap.get? fa=some o->o.data = .func (docDef d.name d.params d.body d.scope pm cd doc)->s₁.heap.CodeRec cd d.name->mg d.name=some (.ref fa) ->
   s₁.heap.get? a=some { cls:=.type "list",data:=.seq vs.toArray }->IntsAre vs ns->ns.length<=n->s₁.gens=#[] ->
   codeAny (model l.prog w) callerA (.call (.ref fa) ⟨[.ref a],[]⟩) (fun r s'=>r = .ok (.ret (.bool true))/\OldK s₁.heap s'.heap/\s'.os=s₁.os/\AllBare s'.gens) s₁) :
 WalkO q loose XP YP l.row.toRowW d [] (fun f vs=>PySem.call f vs):=by
 intro w s₀ s₁ mg mb G Y fa o pm cd doc dV kV ho hd hcd hD hmg hg args vals as hpre hlay hrd hwl hlo
 obtain rfl:dV = .none:=Dflts.none hD hdf
 obtain rfl:kV = .none:=Dflts.noKw hD
 obtain⟨a,vs,ns,rfl,rfl,hobj,hints,hlen⟩:=y8d hn hpre hwl
 refine enter_call (codeAny_mono (call w s₀ s₁ mg mb fa o pm cd doc a vs ns G Y ho (fd_plain hd) hcd hmg hobj hints hlen hg) fun r s' hq=>?_)
 obtain⟨rfl,h2,h3,h4⟩:=hq
 exact⟨.inl ⟨.bool true,.bool true,[],rfl,fun _=>rfl,.bool true,y8j l _,fun _=>⟨List.Pairwise.nil,fun _ hm=>(nomatch hm)⟩⟩,h2,h3,h4⟩
section
variable {prog:Program}{w:World}{A:Around}{E:Value->Shared->Prop}{s:Shared}{K:Frag}
end
end Att
namespace L2
open PySem PySem.Spec PyProof.Rows
theorem vals_ints:∀{vs:List Value} {ns:List Int},IntsAre vs ns->Vals (ns.map V.int) vs
 | _,_,.nil=>.nil
 | _,_,.cons n t h=>.cons ⟨t,rfl⟩ (vals_ints h)
noncomputable def Only(H:Hp):Prop:=∀b,H b=none∨∃o xs,H b=some (.frz o (.lst xs))
theorem x1l{P:Program}{w:World}{K:PySem.W.Frag}{mg mb:Str->Option Value}{CX:CXT}{k:Nat}{fa a:Addr}{fd:FuncData}{x:Str}{sp:Sp}{s₁:Shared}{vs:List Value}{ns:List Int}
 (KX:K.In s₁.heap) (hns:s₁.heap.Ns mainGlobals mg) (hb:s₁.heap.Ns builtinsNs mb) (hbb:∀x:Str,x≠"__name__"->mb x=bootBuiltins x) (hlim:s₁.heap.NoLimit) (hg:s₁.gens=#[])
 (ha:s₁.heap.get? a=some { cls:=.type "list",data:=.seq vs.toArray }) (hi:IntsAre vs ns) (hl:ns.length<=sizeLine) (hr:Room k callerA)
 (F:∀base:Heap,K.In base->base.Ns mainGlobals mg->FnOk P w K mg base CX k fa fd [x] sp) (hbind:∀(s:Shared) (u:Value),BindsTo s fd ⟨[u],[]⟩ [(x,u)])
 (hsp:∀H:Hp,Only H->SqL K H a (ns.map V.int)->sp [.ref a] H (fun v _=>v = .bl true) fun _ _ _=>False)
 (hCX:∀H e s',CX [] H s₁ (fun _ _ _=>False) e s'->False) :
 codeAny (model P w) callerA (.call (.ref fa) ⟨[.ref a],[]⟩) (fun r s'=>r = .ok (.ret (.bool true))/\OldK s₁.heap s'.heap/\s'.os=s₁.os/\AllBare s'.gens) s₁:=by
 have rv:=vals_ints hi
 have lenV:=hi.length
 have core:∀H:Hp,Only H->SqL K H a (ns.map V.int)->HOk P w H s₁.heap->(∀b,H b≠none->b=a)->(H a≠none->K.lookup a=none) ->
  codeAny (model P w) callerA (.call (.ref fa) ⟨[.ref a],[]⟩) (fun r s'=>r = .ok (.ret (.bool true))/\OldK s₁.heap s'.heap/\s'.os=s₁.os/\AllBare s'.gens) s₁:=by
  intro H hO hS hok hA hK
  have base_of:∀{b:Addr} {o:Obj},s₁.heap.get? b=some o->H b=none->(hidT s₁.heap H).get? b=some o:=fun e n=>y1u e n
  have noA:∀{b:Addr} {o:Obj} {es:Array DictEntry} {ep:Nat},s₁.heap.get? b=some o->o.data = .dict es ep->H b=none:=fun {b o es ep} e d=>by
   cases q:H b with
   | none=>rfl
   | some u =>
     have e':b=a:=hA b (by rw[q];simp)
     subst e'
     rw[ha] at e;cases e
     have d':Data.seq vs.toArray _=Data.dict es ep:=d
     cases d'
  have nsK:∀{b:Addr} {m:Str->Option Value},s₁.heap.Ns b m->(hidT s₁.heap H).Ns b m:=fun {b m} ⟨o,es,ep,e,d,r⟩=>⟨o,es,ep,base_of e (noA e d),d,r⟩
  have hKb:K.In (hidT s₁.heap H):=fun b o e=>base_of (KX b o e) (by
   cases q:H b with
   | none=>rfl
   | some u =>
     have e':b=a:=hA b (by rw[q];simp)
     subst e'
     rw[hK (by rw[q];simp)] at e;cases e)
  have hM:Mod K mg (hidT s₁.heap H):=⟨hKb,nsK hns,⟨mb,nsK hb,hbb⟩,let ⟨mc,h1,h2⟩:=hlim;⟨mc,nsK h1,h2⟩⟩
  have e0:Env0 P w K mg (hidT s₁.heap H) callerA [] s₁ H:=⟨rfl,hM,fun b o e=>y4l e,Nat.le_of_eq (y9i _ _),trivial,fun b hb=>absurd (show b∈([]:List Addr) from hb) (by simp),hok,.of_eq hg⟩
  refine codeAny_mono ((F _ hKb (nsK hns)).run callerA [] s₁ H ⟨[.ref a],[]⟩ [.ref a] [.ref a] _ _ hr e0 (hbind s₁ (.ref a)) (.cons rfl .nil) (hsp H hO hS)) fun r s' h=>?_
  cases r with
  | error e=>exact(hCX H e s' h).elim
  | ok fl =>
    cases fl with
    | next=>exact False.elim h
    | brk=>exact False.elim h
    | cont=>exact False.elim h
    | ret u =>
      obtain⟨v,H',os,bare,un,hok',r',q⟩:=h
      have q':v = .bl true:=q
      subst q'
      obtain rfl:u=Value.bool true:=r'
      refine⟨rfl,OldK.of_keep fun b o e=>?_,os,bare⟩
      cases q:H b with
      | none=>exact un.keep b o e q (by intro z;exact absurd (show b∈([]:List Addr) from z) (by simp)) (by simp)
      | some u =>
        rcases hO b with z | ⟨ob,xs,z⟩
        ·rw[q] at z;cases z
        ·have z2:=un.frzs b ob _ z
         obtain⟨e1,_⟩:=hok b _ z
         obtain⟨e2,_⟩:=hok' b _ z2
         rw[e] at e1;cases e1
         exact e2
 cases hk:K.lookup a with
 | some o =>
   have e:=KX a o hk
   rw[ha] at e
   cases e
   refine core (fun _=>none) (fun _=>.inl rfl) (.inr ⟨_,vs.toArray,_,hk,rfl,rfl,rfl,by rw[List.size_toArray,lenV];exact hl,by simpa using rv⟩) (fun b u z=>by have z':(none:Option HO)=some u:=z;cases z') (fun b z=>absurd rfl z) fun z=>absurd rfl z
 | none =>
   refine core (fun b=>if b=a then some (.frz { cls:=.type "list",data:=.seq vs.toArray } (.lst (ns.map V.int))) else none) (fun b=>?_) (.inl (.inr ⟨{ cls:=.type "list",data:=.seq vs.toArray },if_pos rfl⟩)) (fun b u z=>?_) (fun b z=>?_) fun _=>hk
   ·by_cases hb:b=a
    ·exact .inr ⟨_,_,if_pos hb⟩
    ·exact .inl (if_neg hb)
   ·by_cases hb:b=a
    ·have z':=(if_pos hb).symm.trans z
     cases z'
     subst hb
     exact⟨ha,by rw[List.length_map];exact hl,vs,_,rv,ha⟩
    ·have z':=(if_neg hb).symm.trans z
     cases z'
   ·by_cases hb:b=a
    ·exact hb
    ·exact absurd (if_neg hb) z
end L2
namespace L2
open PySem PySem.Spec PyProof.Rows
noncomputable abbrev KOf {K:PySem.W.Frag} {h:Heap} (_:K.In h):PySem.W.Frag:=K
theorem walk_of{l:PySem.W.OpenLaw}{n k:Nat}{q:Program}{loose:List Str}{XP:(Str->Option Value)->Heap->Prop}{YP:World->Heap->Prop}{d:DefRec}{K:Params->PySem.W.Frag}{CX:World->CXT}{sp:World->Sp}{x:Str}
 (hn:l.most=some n) (hn2:n<=sizeLine) (hdf:d.params.defaults=[]) (hr:Room k callerA)
 (hY:∀(w:World) (h:Heap),YP w h->(K w.params).In h)
 (F:∀(w:World) (mg:Str->Option Value) (fa:Addr) (h:Heap),(K w.params).In h->h.Ns mainGlobals mg->mg d.name=some (.ref fa) ->
   ∃fd:FuncData,(∀(s:Shared) (u:Value),BindsTo s fd ⟨[u],[]⟩ [(x,u)]) /\
    ∀base:Heap,(K w.params).In base->base.Ns mainGlobals mg->FnOk l.prog w (K w.params) mg base (CX w) k fa fd [x] (sp w))
 (hsp:∀(w:World) (H:Hp) (a:Addr) (ns:List Int),ns.length<=n->Only H->SqL (K w.params) H a (ns.map V.int)->sp w [.ref a] H (fun v _=>v = .bl true) fun _ _ _=>False)
 (hCX:∀(w:World) (H:Hp) (s:Shared) (e:Value) (s':Shared),CX w [] H s (fun _ _ _=>False) e s'->False) :
 PySem.W.WalkO q loose XP YP l.row.toRowW d [] (fun f vs=>PySem.call f vs):=by
 refine Att.attach_call hn hdf fun w s₀ s₁ mg mb fa o pm cd doc a vs ns G Y ho hd hcd hmg hobj hints hlen hg=>?_
 have KX:=hY w _ Y
 obtain⟨fd,hb,hF⟩:=F w mg fa _ KX G.T.g hmg
 exact x1l KX G.T.g G.T.b G.T.builtins G.T.nolimit hg hobj hints (Nat.le_trans hlen hn2) hr hF hb (fun H hO hS=>hsp w H a ns hlen hO hS) fun H e s'=>hCX w H s₁ e s'
end L2
/- THE LAST THEOREM (shape;LID,My.* are yours):
   My.Adr: a structure of the addresses that your layer names (classes,functions);My.Txt K t: a structure (Prop) of the equations over K;
   My.txt_mk:{K} {implicit addresses ..} (e1:nsIn K mainGlobals "law"=some (some (.ref f))) (e2:K.lookup f=some ⟨oc,od,.func (fnOf "law" "law" params body scope dV kV doc pm an cdv ct),sl⟩) (e3:codeIn K cdv "law"=true) ..:∃t,My.Txt K t
set_option maxRecDepth 100000 in
set_option maxHeartbeats 0 in
theorem PySem.Challenge.cw_LID_holds : PySem.Challenge.rw_LID.Holds := by
 w_on;o_law;k_head;(case hw=>w_witness2)
 k_fill
 refine L2.walk_of (l:=PySem.Challenge.rw_LID) (n:=63) (k:=40) (x:="script") (CX:=fun w=>..) (sp:=fun _=>My.sp_law) rfl (by decide) rfl ⟨rfl,by decide,by decide⟩ (fun w h Y=>PySem.W.kIn_of Y) ?F ?S ?C
 case F =>
  intro w mg fa h KX G hmg
  have T:∃t,My.Txt (L2.KOf KX) t:=by
   dsimp only[L2.KOf]                          -- K must stand as «<heap const> w.params» for k_is
   refine' My.txt_mk ?e1 ?e2 ?e3 ..
   (case e1=>PySem.W.k_is)                    -- in the order: a name->its address->its object->its parts
   (case e2=>PySem.W.k_is)
   ..
  obtain⟨t,T⟩:=T
  have e0:=hmg.symm.trans (PySem.W.mg_of KX G T.law)
  cases e0                                       -- fa is the law's own address
  exact⟨_,fun s u=>.of_eq rfl,fun base kb nb=>My.law_fn T kb nb⟩     -- if «.of_eq rfl» comes too early: refine' ⟨_,?b,fun base kb nb=>My.law_fn T kb nb⟩;exact fun s u=>.of_eq rfl
 case S=>exact fun w H a ns hl hO hS=>..
 case C=>exact ..
(the tactic k_is has no namespace: write k_is) -/
namespace L2
open PySem PySem.Spec PyProof.Rows
noncomputable def z0n(s:Stmt):Arguments:=match s with
 | .FunctionDef _ a _ _ _ _ _ _ _ _=>a
 | _=>{ posonlyargs:=[],args:=[],vararg:=none,kwonlyargs:=[],kw_defaults:=[],kwarg:=none,defaults:=[] }
noncomputable def z0m(s:Stmt):List Stmt:=match s with
 | .FunctionDef _ _ b _ _ _ _ _ _ _=>b
 | _=>[]
noncomputable def z0d(s:Stmt):Scope:=match s with
 | .FunctionDef _ _ _ _ _ _ sc _ _ _=>sc
 | _=>{ kind:=.function,names:=[],isGenerator:=false,isCoroutine:=false }
structure Fun (K:PySem.W.Frag) (x qual:Str) (st:Stmt) (f:Addr) (fd:FuncData):Prop where
 ex:∃(oc:Value) (od:Option Addr) (kV doc pm:Value) (an:Option Addr) (cdv ct:Value) (osl:Array (Option Value)),
  fd=PySem.W.fnOf x qual (z0n st) (z0m st) (z0d st) .none kV doc pm an cdv ct/\K.lookup f=some ⟨oc,od,.func fd,osl⟩/\PySem.W.codeIn K cdv qual=true
 kp:PySem.W.keepIn K (.ref f)=true
section
variable {P:Program}{w:World}{K:PySem.W.Frag}{mg:Str->Option Value}{base:Heap}
theorem Fun.binds{x qual:Str}{st:Stmt}{f:Addr}{fd:FuncData}{ps:List Str}(F:Fun K x qual st f fd)
 (h:∀(kV doc pm:Value) (an:Option Addr) (cdv ct:Value) (us:List Value),us.length=ps.length->bindArgs (PySem.W.fnOf x qual (z0n st) (z0m st) (z0d st) .none kV doc pm an cdv ct) ⟨us,[]⟩=pure (ps.zip us)):z1u K fd ps []:=by
 obtain⟨oc,od,kV,doc,pm,an,cdv,ct,osl,rfl,lk,hcd⟩:=F.ex
 exact .all (h kV doc pm an cdv ct)
theorem z1c{x qual:Str}{st:Stmt}{f:Addr}{oc:Value}{od an:Option Addr}{osl:Array (Option Value)}{kV doc pm cdv ct:Value}(l:K.lookup f=some ⟨oc,od,.func (PySem.W.fnOf x qual (z0n st) (z0m st) (z0d st) .none kV doc pm an cdv ct),osl⟩)
 (c:PySem.W.codeIn K cdv qual=true) (k:PySem.W.keepIn K (.ref f)=true):Fun K x qual st f (PySem.W.fnOf x qual (z0n st) (z0m st) (z0d st) .none kV doc pm an cdv ct):=⟨⟨oc,od,kV,doc,pm,an,cdv,ct,osl,rfl,l,c⟩,k⟩
end
theorem y8c{n:Nat}(h:n<=1000):n<sizeLine:=Nat.lt_of_le_of_lt h (by decide)
section
variable {X:Cx}
end
noncomputable def Same(H H':Hp):Prop:=∀b o,H b=some o->H' b=some o
theorem Same.refl(H:Hp):Same H H:=fun _ _ h=>h
theorem Same.trans{H H1 H2:Hp}(a:Same H H1)(b:Same H1 H2):Same H H2:=fun c o h=>b c o (a c o h)
theorem Same.free{H H':Hp}(e:Same H H'){l:Addr}(h:H' l=Option.none):H l=Option.none:=by
 cases q:H l with
 | none=>rfl
 | some o =>
   rw[e l o q] at h
   cases h
theorem Same.seq{K:PySem.W.Frag}{H H':Hp}{a:Addr}{xs:List V}(e:Same H H')(h:SqL K H a xs):SqL K H' a xs:=by
 rcases h with (h | ⟨o,h⟩) | h
 ·exact .inl (.inl (e _ _ h))
 ·exact .inl (.inr ⟨o,e _ _ h⟩)
 ·exact .inr h
end L2
namespace L3
open PySem
noncomputable section
inductive Er where
 | noPrime | noNumber | noProgram | tooLong | lossy | noText
 deriving DecidableEq
noncomputable def Er.nm:Er->Str
 | .noPrime=>"NoPrime" | .noNumber=>"NoNumber" | .noProgram=>"NoProgram" | .tooLong=>"TooLong" | .lossy=>"Lossy" | .noText=>"NoText"
inductive D where
 | non | bl (b:Bool) | int (i:Int) | str (x:Str) | tup (ds:List D) | lst (ds:List D) | dct | exc (c:Er)
mutual
noncomputable def D.noL:D->Bool
 | .lst _=>false
 | .dct=>false
 | .tup ds=>D.noLs ds
 | _=>true
noncomputable def D.noLs:List D->Bool
 | []=>true
 | d::ds=>d.noL&&D.noLs ds
end
theorem z4y:D.noLs []=true:=by unfold D.noLs;rfl
theorem y1q:∀ds:List D,D.noLs ds=ds.all D.noL
 | []=>by unfold D.noLs;rfl
 | d::ds=>by unfold D.noLs;rw[y1q ds];rfl
theorem z2q(i:Int):D.noL (.int i)=true:=by simp[D.noL]
theorem z4n(i:Bool):D.noL (.bl i)=true:=by simp[D.noL]
theorem z6i(i:Str):D.noL (.str i)=true:=by simp[D.noL]
theorem z6j:D.noL .non=true:=by simp[D.noL]
theorem z9v(ds:List D):D.noL (.tup ds)=D.noLs ds:=by simp[D.noL]
theorem x3y{ds:List D}(h:∀d∈ds,d.noL=true):D.noLs ds=true:=by rw[y1q,List.all_eq_true];exact h
theorem x1g{ds:List D}(h:D.noLs ds=true){d:D}(hd:d∈ds):d.noL=true:=by rw[y1q,List.all_eq_true] at h;exact h d hd
theorem z7v{α:Type}{f:α->D}{l:List α}(h:∀x∈l,(f x).noL=true):D.noLs (l.map f)=true:=x3y fun d hd=>by
 obtain⟨x,hx,rfl⟩:=List.mem_map.mp hd;exact h x hx
theorem z1t(ns:List Int):D.noLs (ns.map D.int)=true:=z7v fun _ _=>z2q _
theorem z3q(ns:List Int):D.noL (.tup (ns.map D.int))=true:=by rw[z9v];exact z1t ns
inductive R (α:Type) where
 | no | ok (a:α) | er (c:Er)
noncomputable def R.bind{α β:Type}(r:R α)(k:α->R β):R β:=match r with
 | .no=>.no
 | .ok a=>k a
 | .er c=>.er c
noncomputable instance:Monad R where
 pure:=R.ok
 bind:=R.bind
@[simp] theorem R.bind_no {α β:Type} (k:α->R β):(R.no>>=k)=R.no:=rfl
@[simp] theorem R.bind_ok {α β:Type} (a:α) (k:α->R β):(R.ok a>>=k)=k a:=rfl
@[simp] theorem R.bind_er {α β:Type} (c:Er) (k:α->R β):(R.er c>>=k)=R.er c:=rfl
@[simp] theorem R.pure_ok {α:Type} (a:α):(pure a:R α)=R.ok a:=rfl
theorem R.left{α β:Type}{r:R α}{k:α->R β}(h:(r>>=k) ≠ .no):r ≠ .no:=fun e=>h (by rw[e];rfl)
theorem R.next{α β:Type}{r:R α}{k:α->R β}{a:α}(h:(r>>=k) ≠ .no)(e:r = .ok a):k a ≠ .no:=by
 rw[e] at h;exact h
theorem R.step{α β:Type}{r:R α}{a:α}(e:r = .ok a)(k:α->R β):(r>>=k)=k a:=by rw[e];rfl
theorem R.stop{α β:Type}{r:R α}{c:Er}(e:r = .er c)(k:α->R β):(r>>=k) = .er c:=by rw[e];rfl
noncomputable def R.guard{α:Type}(p:Prop)(r:R α):R α:=@ite _ p (Classical.propDecidable p) r .no
theorem R.guard_pos{α:Type}{p:Prop}{r:R α}(h:p):R.guard p r=r:=if_pos h
theorem R.guard_ne{α:Type}{p:Prop}{r:R α}(h:R.guard p r ≠ .no):p/\R.guard p r=r:=by
 unfold R.guard at h ⊢
 by_cases q:p
 ·exact⟨q,if_pos q⟩
 ·rw[if_neg q] at h;exact absurd rfl h
theorem z2z{α:Type}{r:R α}:R.guard True r=r:=R.guard_pos trivial
theorem z1w{α:Type}{p:Prop}{r:R α}(h:p):R.guard p r=r:=R.guard_pos h
inductive En where
 | no | ro (d:D) | own (ds:List D)
noncomputable abbrev G:=List En
noncomputable def lk(Γ:G)(i:Nat):R D:=match Γ[i]? with
 | some (.ro d)=>.ok d
 | some (.own ds)=>.ok (.lst ds)
 | _=>.no
noncomputable def lkr(Γ:G)(i:Nat):R D:=match Γ[i]? with
 | some (.ro d)=>.ok d
 | _=>.no
theorem x7n{Γ:G}{i:Nat}(h:lk Γ i ≠ .no):∃d,lk Γ i = .ok d:=by
 cases e:lk Γ i with
 | no=>exact absurd e h
 | ok d=>exact⟨d,rfl⟩
 | er c =>
   unfold lk at e
   cases q:Γ[i]? with
   | none=>rw[q] at e;cases e
   | some en=>rw[q] at e;cases en<;>cases e
theorem x6e{Γ:G}{i:Nat}(h:lkr Γ i ≠ .no):∃d,lkr Γ i = .ok d:=by
 cases e:lkr Γ i with
 | no=>exact absurd e h
 | ok d=>exact⟨d,rfl⟩
 | er c =>
   unfold lkr at e
   cases q:Γ[i]? with
   | none=>rw[q] at e;cases e
   | some en=>rw[q] at e;cases en<;>cases e
theorem y3f(d:D)(Γ:G):lk (En.ro d::Γ) 0 = .ok d:=rfl
theorem z8n(ds:List D)(Γ:G):lk (En.own ds::Γ) 0 = .ok (.lst ds):=rfl
theorem z6l(e:En)(Γ:G)(i:Nat):lk (e::Γ) (i+1)=lk Γ i:=rfl
theorem z8m(d:D)(Γ:G):lkr (En.ro d::Γ) 0 = .ok d:=rfl
theorem z4z(e:En)(Γ:G)(i:Nat):lkr (e::Γ) (i+1)=lkr Γ i:=rfl
noncomputable def gV(i:Nat):G->R D:=fun Γ=>lk Γ i
noncomputable def gVr(i:Nat):G->R D:=fun Γ=>lkr Γ i
noncomputable def gC(d:D):G->R D:=fun _=>.ok d
noncomputable def gNL(g:G->R D):G->R D:=fun Γ=>g Γ>>=fun d=>R.guard (d.noL=true) (.ok d)
noncomputable def gL(g:G->R (List D)):G->R D:=fun Γ=>g Γ>>=fun ds=>.ok (.lst ds)
noncomputable def gBin(g:D->D->R D)(ga gb:G->R D):G->R D:=fun Γ=>ga Γ>>=fun x=>gb Γ>>=fun y=>g x y
noncomputable def asB(d:D):R Bool:=match d with
 | .bl b=>.ok b
 | _=>.no
theorem y6a{d:D}(h:asB d ≠ .no):∃b,d = .bl b/\asB d = .ok b:=by
 cases d<;>first | exact⟨_,rfl,rfl⟩ | exact absurd rfl h
theorem z8u(b:Bool):asB (.bl b) = .ok b:=rfl
noncomputable def gT(g:G->R D):G->R Bool:=fun Γ=>g Γ>>=asB
noncomputable def z7e(g g':D->D->R D)(ga gb gc:G->R D):G->R D:=fun Γ=>ga Γ>>=fun x=>gb Γ>>=fun y=>g x y>>=fun z=>asB z>>=fun k=>if k=true then gc Γ>>=fun w=>g' y w else .ok (.bl false)
noncomputable def gAnd(ga gb:G->R Bool):G->R Bool:=fun Γ=>ga Γ>>=fun k=>if k=true then gb Γ else .ok false
noncomputable def gOr(ga gb:G->R Bool):G->R Bool:=fun Γ=>ga Γ>>=fun k=>if k=true then .ok true else gb Γ
noncomputable def gNot(ga:G->R Bool):G->R Bool:=fun Γ=>ga Γ>>=fun k=>.ok (!k)
noncomputable def z9a(ga gb:G->R D):G->R D:=fun Γ=>ga Γ>>=fun d=>asB d>>=fun k=>if k=true then gb Γ else .ok (.bl false)
noncomputable def y0r(ga:G->R D):G->R D:=fun Γ=>ga Γ>>=fun d=>asB d>>=fun k=>.ok (.bl (!k))
noncomputable def dNeg(d:D):R D:=match d with | .int i=>.ok (.int (-i)) | _=>.no
noncomputable def gNeg(ga:G->R D):G->R D:=fun Γ=>ga Γ>>=dNeg
noncomputable def gIf(gc:G->R Bool)(ga gb:G->R D):G->R D:=fun Γ=>gc Γ>>=fun k=>if k=true then ga Γ else gb Γ
noncomputable def gNil:G->R (List D):=fun _=>.ok []
noncomputable def gCons(g:G->R D)(gs:G->R (List D)):G->R (List D):=fun Γ=>g Γ>>=fun d=>gs Γ>>=fun ds=>.ok (d::ds)
noncomputable def y1v(ns:List Int):G->R (List D):=fun _=>.ok (ns.map D.int)
noncomputable def gTup(gs:G->R (List D)):G->R D:=fun Γ=>gs Γ>>=fun ds=>R.guard (ds.length<=1000) (.ok (.tup ds))
noncomputable def gLst(gs:G->R (List D)):G->R (List D):=fun Γ=>gs Γ>>=fun ds=>R.guard (ds.length<=1000/\D.noLs ds=true) (.ok ds)
noncomputable def z9b(i:Int):Prop:=-18446744073709551616<i/\i<18446744073709551616
noncomputable instance (i:Int):Decidable (z9b i):=by unfold z9b;exact inferInstance
noncomputable def z7k(i j:Int):Prop:=z9b i∨z9b j
noncomputable instance (i j:Int):Decidable (z7k i j):=by unfold z7k;exact inferInstance
noncomputable def y6n(j:Int):Prop:=-4611686018427387904<=j/\j<4611686018427387904
noncomputable instance (j:Int):Decidable (y6n j):=by unfold y6n;exact inferInstance
theorem z1b{j:Int}(h:-4611686018427387904<=j/\j<4611686018427387904):y6n j:=h
theorem z1x{j:Int}(h:-18446744073709551616<j/\j<18446744073709551616):z9b j:=h
theorem z4e{i j:Int}(h:z9b i):z7k i j:=.inl h
theorem z4d{i j:Int}(h:z9b j):z7k i j:=.inr h
noncomputable def dAdd(x y:D):R D:=match x,y with
 | .int i,.int j=>.ok (.int (i+j))
 | .tup xs,.tup ys=>R.guard (xs.length+ys.length<=1000) (.ok (.tup (xs++ys)))
 | _,_=>.no
noncomputable def dSub(x y:D):R D:=match x,y with
 | .int i,.int j=>.ok (.int (i-j))
 | _,_=>.no
noncomputable def dMul(x y:D):R D:=match x,y with
 | .int i,.int j=>R.guard (z7k i j) (.ok (.int (i*j)))
 | .tup xs,.int j=>R.guard (0<=j/\j<1000000/\xs.length*j.toNat<=1000) (.ok (.tup (List.replicate j.toNat xs).flatten))
 | _,_=>.no
noncomputable def dDiv(x y:D):R D:=match x,y with
 | .int i,.int j=>R.guard (0<j/\j<1073741824) (.ok (.int (i/j)))
 | _,_=>.no
noncomputable def dMod(x y:D):R D:=match x,y with
 | .int i,.int j=>R.guard (0<j) (.ok (.int (i%j)))
 | _,_=>.no
noncomputable def dPow(x y:D):R D:=match x,y with
 | .int i,.int j=>R.guard (0<=j/\j<=1000000/\i.natAbs<18446744073709551616) (.ok (.int (i^j.toNat)))
 | _,_=>.no
noncomputable def dLt(x y:D):R D:=match x,y with
 | .int i,.int j=>.ok (.bl (decide (i<j)))
 | _,_=>.no
noncomputable def dLe(x y:D):R D:=match x,y with
 | .int i,.int j=>.ok (.bl (decide (i<=j)))
 | _,_=>.no
noncomputable def dGt(x y:D):R D:=match x,y with
 | .int i,.int j=>.ok (.bl (decide (j<i)))
 | _,_=>.no
noncomputable def sOk(x:Str):Bool:=x.cps.all (·<0x110000)
mutual
noncomputable def D.lay:Nat->D->Bool
 | n+1,.tup ds=>D.lays n ds
 | n+1,.lst ds=>D.lays n ds
 | 0,.tup _=>false
 | 0,.lst _=>false
 | _,.dct=>false
 | _,.exc _=>false
 | _,.str x=>sOk x
 | _,_=>true
noncomputable def D.lays:Nat->List D->Bool
 | _,[]=>true
 | n,d::ds=>D.lay n d&&D.lays n ds
end
theorem D.lays_all(n:Nat):∀ds:List D,D.lays n ds=ds.all (D.lay n)
 | []=>by unfold D.lays;rfl
 | d::ds=>by unfold D.lays;rw[D.lays_all n ds];rfl
theorem z5w(n:Nat)(i:Int):D.lay n (.int i)=true:=by cases n<;>simp[D.lay]
theorem z8o(n:Nat)(i:Bool):D.lay n (.bl i)=true:=by cases n<;>simp[D.lay]
theorem y4q(n:Nat)(x:Str):D.lay n (.str x)=sOk x:=by cases n<;>simp[D.lay]
theorem y9b(n:Nat)(ds:List D):D.lay (n+1) (.tup ds)=ds.all (D.lay n):=by rw[D.lay,D.lays_all]
theorem z4a(n:Nat)(ns:List Int):D.lay (n+1) (.tup (ns.map D.int))=true:=by
 rw[y9b,List.all_map,List.all_eq_true];intro x _;exact z5w n x
mutual
noncomputable def eqD:D->D->Bool
 | .non,y=>(match y with | .non=>true | _=>false)
 | .bl a,y=>(match y with | .bl b=>a==b | .int j=>(if a then 1 else 0)==j | _=>false)
 | .int i,y=>(match y with | .bl b=>i==(if b then 1 else 0) | .int j=>i==j | _=>false)
 | .str x,y=>(match y with | .str z=>x==z | _=>false)
 | .tup xs,y=>(match y with | .tup ys=>eqDs xs ys | _=>false)
 | .lst xs,y=>(match y with | .lst ys=>eqDs xs ys | _=>false)
 | .dct,_=>false
 | .exc _,_=>false
noncomputable def eqDs:List D->List D->Bool
 | [],[]=>true
 | x::xs,y::ys=>eqD x y&&eqDs xs ys
 | [],_::_=>false
 | _::_,[]=>false
end
theorem z6q(i j:Int):eqD (.int i) (.int j)=(i==j):=by rw[eqD]
theorem z8s(i j:Bool):eqD (.bl i) (.bl j)=(i==j):=by rw[eqD]
theorem y9q(i j:Str):eqD (.str i) (.str j)=(i==j):=by rw[eqD]
mutual
noncomputable def D.pl:D->Bool
 | .bl _=>false
 | .dct=>false
 | .exc _=>false
 | .tup ds=>D.pls ds
 | .lst ds=>D.pls ds
 | _=>true
noncomputable def D.pls:List D->Bool
 | []=>true
 | d::ds=>d.pl&&D.pls ds
end
theorem y8k:∀ds:List D,D.pls ds=ds.all D.pl
 | []=>by unfold D.pls;rfl
 | d::ds=>by unfold D.pls;rw[y8k ds];rfl
theorem x5m(i:Int):D.pl (.int i)=true:=by simp[D.pl]
theorem x2d(ds:List D):D.pl (.tup ds)=ds.all D.pl:=by rw[D.pl,y8k]
theorem y8l(ns:List Int):D.pl (.tup (ns.map D.int))=true:=by
 rw[x2d,List.all_map,List.all_eq_true];intro x _;exact x5m x
mutual
theorem y4u:∀(x y:D),x.pl=true->y.pl=true->(eqD x y=true↔x=y)
 | .non,y,_,hy=>by cases y<;>simp_all [eqD,D.pl]
 | .bl _,y,hx,hy=>by simp[D.pl] at hx
 | .int i,y,_,hy=>by cases y<;>simp_all [eqD,D.pl]
 | .str i,y,_,hy=>by cases y<;>simp_all [eqD,D.pl]
 | .dct,y,hx,hy=>by simp[D.pl] at hx
 | .exc _,y,hx,hy=>by simp[D.pl] at hx
 | .tup xs,y,hx,hy=>by
   cases y with
   | tup ys=>rw[eqD,eqDs_iff xs ys (by simpa [D.pl] using hx) (by simpa [D.pl] using hy)];simp
   | _=>simp_all [eqD,D.pl]
 | .lst xs,y,hx,hy=>by
   cases y with
   | lst ys=>rw[eqD,eqDs_iff xs ys (by simpa [D.pl] using hx) (by simpa [D.pl] using hy)];simp
   | _=>simp_all [eqD,D.pl]
theorem eqDs_iff:∀(xs ys:List D),D.pls xs=true->D.pls ys=true->(eqDs xs ys=true↔xs=ys)
 | [],[],_,_=>by simp[eqDs]
 | [],y::ys,_,_=>by simp[eqDs]
 | x::xs,[],_,_=>by simp[eqDs]
 | x::xs,y::ys,hx,hy=>by
   have hx':x.pl=true/\D.pls xs=true:=by simpa [D.pls] using hx
   have hy':y.pl=true/\D.pls ys=true:=by simpa [D.pls] using hy
   rw[eqDs,Bool.and_eq_true,y4u x y hx'.1 hy'.1,eqDs_iff xs ys hx'.2 hy'.2];simp
end
theorem y9s{x y:D}(hx:x.pl=true)(hy:y.pl=true){p:Prop}[Decidable p](h:x=y↔p):eqD x y=decide p:=by
 by_cases q:p
 ·rw[decide_eq_true q];exact(y4u x y hx hy).mpr (h.mpr q)
 ·rw[decide_eq_false q]
  cases e:eqD x y with
  | false=>rfl
  | true=>exact absurd (h.mp ((y4u x y hx hy).mp e)) q
noncomputable def dEq(x y:D):R D:=R.guard (D.lay 40 x=true/\D.lay 40 y=true) (.ok (.bl (eqD x y)))
noncomputable def dNe(x y:D):R D:=R.guard (D.lay 40 x=true/\D.lay 40 y=true) (.ok (.bl (!eqD x y)))
noncomputable def ixN(n:Nat)(i:Int):Option Nat:=if 0<=i then (if i<n then some i.toNat else none) else if -(n:Int)<=i then some (i+n).toNat else none
noncomputable def atI{α:Type}(xs:List α)(i:Int):Option α:=(ixN xs.length i).bind fun j=>xs[j]?
theorem z4i{α:Type}{ds:List α}(i:Nat):atI ds (i:Int)=ds[i]?:=by
 unfold atI ixN
 rw[if_pos (by lia)]
 by_cases h:(i:Int)<ds.length
 ·rw[if_pos h];simp
 ·rw[if_neg h]
  have:ds.length<=i:=by lia
  rw[List.getElem?_eq_none this];rfl
theorem y3x{α:Type}{ds:List α}{i:Int}(h:0<=i):atI ds i=ds[i.toNat]?:=by
 obtain⟨n,rfl⟩:∃n:Nat,i=(n:Int):=⟨i.toNat,by lia⟩
 rw[z4i];rfl
theorem z4h{α:Type}(a:α)(ds:List α):atI (a::ds) 0=some a:=z4i 0
theorem z5h{α:Type}(a b:α)(ds:List α):atI (a::b::ds) 1=some b:=z4i 1
theorem z5g{α:Type}(a b c:α)(ds:List α):atI (a::b::c::ds) 2=some c:=z4i 2
theorem z3l{α:Type}(a b c d:α)(ds:List α):atI (a::b::c::d::ds) 3=some d:=z4i 3
noncomputable def dIx(x y:D):R D:=match x,y with
 | .tup ds,.int i=>(match atI ds i with | some d=>.ok d | none=>.no)
 | .lst ds,.int i=>(match atI ds i with | some d=>.ok d | none=>.no)
 | _,_=>.no
noncomputable def sIx(n d:Nat):Option Int->Nat
 | none=>d
 | some v=>if v<0 then (v+(n:Int)).toNat else min v.toNat n
theorem sIx_none(n d:Nat):sIx n d none=d:=rfl
theorem sIx_nat(n d k:Nat):sIx n d (some (k:Int))=min k n:=by
 show(if (k:Int)<0 then ((k:Int)+(n:Int)).toNat else min (k:Int).toNat n)=min k n
 rw[if_neg (by lia),Int.toNat_natCast]
noncomputable def cutL{α:Type}(xs:List α)(lo hi:Option Int):List α:=(xs.drop (sIx xs.length 0 lo)).take (sIx xs.length xs.length hi-sIx xs.length 0 lo)
noncomputable def gON:G->R (Option Int):=fun _=>.ok none
noncomputable def dOS(d:D):R (Option Int):=match d with | .int i=>.ok (some i) | _=>.no
noncomputable def gOS(g:G->R D):G->R (Option Int):=fun Γ=>g Γ>>=dOS
noncomputable def dCut(d:D)(lo hi:Option Int):R D:=match d with
 | .tup xs=>.ok (.tup (cutL xs lo hi))
 | .lst xs=>.ok (.lst (cutL xs lo hi))
 | _=>.no
noncomputable def gSl(ga:G->R D)(lo hi:G->R (Option Int)):G->R D:=fun Γ=>ga Γ>>=fun d=>lo Γ>>=fun l=>hi Γ>>=fun h=>dCut d l h
theorem x1s{α β:Type}(f:α->β)(xs:List α)(lo hi:Option Int):cutL (xs.map f) lo hi=(cutL xs lo hi).map f:=by
 unfold cutL;rw[List.length_map,List.map_take,List.map_drop]
theorem z4g{α:Type}(xs:List α)(k:Nat):cutL xs (some (k:Int)) none=xs.drop k:=by
 unfold cutL
 rw[sIx_none,sIx_nat]
 by_cases h:k<=xs.length
 ·rw[Nat.min_eq_left h,List.take_of_length_le (by rw[List.length_drop];lia)]
 ·rw[Nat.min_eq_right (by lia),List.drop_length,List.drop_of_length_le (by lia)];simp
theorem z5x{α:Type}(xs:List α)(k:Nat):cutL xs none (some (k:Int))=xs.take k:=by
 unfold cutL
 rw[sIx_none,sIx_nat,Nat.sub_zero,List.drop_zero]
 by_cases h:k<=xs.length
 ·rw[Nat.min_eq_left h]
 ·rw[Nat.min_eq_right (by lia),List.take_length,List.take_of_length_le (by lia)]
inductive Cl where
 | noPrime | noNumber | noProgram | tooLong | lossy | noText | longError | valueError
noncomputable def z0i(g:List D->R D)(gs:G->R (List D)):G->R D:=fun Γ=>gs Γ>>=g
noncomputable def dLen(ds:List D):R D:=match ds with
 | [.tup xs]=>.ok (.int xs.length)
 | [.lst xs]=>.ok (.int xs.length)
 | _=>.no
noncomputable def z2o(ds:List D):R D:=match ds with
 | [.tup xs]=>.ok (.tup xs)
 | [.lst xs]=>.ok (.tup xs)
 | _=>.no
noncomputable def dMin(ds:List D):R D:=match ds with
 | [.int i,.int j]=>.ok (.int (if j<i then j else i))
 | _=>.no
noncomputable def ints?:List D->Option (List Int)
 | []=>some []
 | .int i::ds=>(ints? ds).map (i::·)
 | _::_=>none
theorem ints?_some:∀{ds:List D} {ns:List Int},ints? ds=some ns->ds=ns.map D.int
 | [],ns,h=>by unfold ints? at h;cases h;rfl
 | d::ds,ns,h=>by
   cases d with
   | int i =>
     unfold ints? at h
     cases q:ints? ds with
     | none=>rw[q] at h;cases h
     | some ms=>rw[q] at h;cases h;rw[ints?_some q];rfl
   | _=>unfold ints? at h;cases h
theorem ints?_map:∀ns:List Int,ints? (ns.map D.int)=some ns
 | []=>rfl
 | n::ns=>by show(ints? (ns.map D.int)).map (n::·)=_;rw[ints?_map ns];rfl
noncomputable def bools?:List D->Option (List Bool)
 | []=>some []
 | .bl i::ds=>(bools? ds).map (i::·)
 | _::_=>none
theorem bools?_some:∀{ds:List D} {ns:List Bool},bools? ds=some ns->ds=ns.map D.bl
 | [],ns,h=>by unfold bools? at h;cases h;rfl
 | d::ds,ns,h=>by
   cases d with
   | bl i =>
     unfold bools? at h
     cases q:bools? ds with
     | none=>rw[q] at h;cases h
     | some ms=>rw[q] at h;cases h;rw[bools?_some q];rfl
   | _=>unfold bools? at h;cases h
theorem bools?_map:∀ns:List Bool,bools? (ns.map D.bl)=some ns
 | []=>rfl
 | n::ns=>by show(bools? (ns.map D.bl)).map (n::·)=_;rw[bools?_map ns];rfl
noncomputable def dSum(ds:List D):R D:=match ds with
 | [.lst xs]=>(match ints? xs with | some ns=>.ok (.int ns.sum) | none=>.no)
 | _=>.no
theorem z5e(ns:List Int):dSum [.lst (ns.map D.int)] = .ok (.int ns.sum):=by simp only[dSum,ints?_map]
noncomputable def dAny(ds:List D):R D:=match ds with
 | [.lst xs]=>(match bools? xs with | some bs=>.ok (.bl (bs.any (fun b=>b))) | none=>.no)
 | _=>.no
theorem z5f(ns:List Bool):dAny [.lst (ns.map D.bl)] = .ok (.bl (ns.any fun b=>b)):=by simp only[dAny,bools?_map]
noncomputable def dAll(ds:List D):R D:=match ds with
 | [.lst xs]=>(match bools? xs with | some bs=>.ok (.bl (bs.all (fun b=>b))) | none=>.no)
 | _=>.no
theorem z3w(ns:List Bool):dAll [.lst (ns.map D.bl)] = .ok (.bl (ns.all fun b=>b)):=by simp only[dAll,bools?_map]
noncomputable def noEr(φ:List D->R D):List D->R D:=fun ds=>match φ ds with
 | .ok d=>.ok d
 | _=>.no
theorem y8t{φ:List D->R D}{ds:List D}(h:noEr φ ds ≠ .no):∃d,φ ds = .ok d/\noEr φ ds = .ok d:=by
 unfold noEr at h ⊢
 cases q:φ ds with
 | ok d=>exact⟨d,rfl,rfl⟩
 | no=>rw[q] at h;exact absurd rfl h
 | er c=>rw[q] at h;exact absurd rfl h
noncomputable def z5o(φ:List D->R (List D))(gs:G->R (List D)):G->R (List D):=fun Γ=>gs Γ>>=fun ds=>φ ds>>=fun es=>R.guard (D.noLs es=true) (.ok es)
noncomputable def y2a(d:D):R (List D):=match d with
 | .tup ds=>R.guard (D.noLs ds=true) (.ok ds)
 | .lst ds=>R.guard (D.noLs ds=true) (.ok ds)
 | _=>.no
noncomputable def z6o(g:G->R D):G->R (List D):=fun Γ=>g Γ>>=y2a
noncomputable def gCat(ga gb:G->R (List D)):G->R (List D):=fun Γ=>ga Γ>>=fun x=>gb Γ>>=fun y=>R.guard (x.length+y.length<=1000) (.ok (x++y))
noncomputable def y2b(x y:D):R (List D):=match x,y with
 | .lst xs,.lst ys=>R.guard (xs.length+ys.length<=1000/\D.noLs (xs++ys)=true) (.ok (xs++ys))
 | _,_=>.no
noncomputable def z8z(ga gb:G->R D):G->R (List D):=fun Γ=>ga Γ>>=fun x=>gb Γ>>=fun y=>y2b x y
noncomputable def D.ty:D->String
 | .non=>"NoneType"
 | .bl _=>"bool"
 | .int _=>"int"
 | .str _=>"str"
 | .tup _=>"tuple"
 | .lst _=>"list"
 | .dct=>"dict"
 | .exc _=>""
noncomputable def D.noX:D->Bool
 | .exc _=>false
 | _=>true
noncomputable def dIsi(f:String->Bool)(d:D):R D:=match d with
 | .exc _=>.no
 | d=>.ok (.bl (f d.ty))
noncomputable def gIsi(f:String->Bool)(g:G->R D):G->R D:=fun Γ=>g Γ>>=dIsi f
theorem x4r{f:String->Bool}{d:D}(h:dIsi f d ≠ .no):d.noX=true/\dIsi f d = .ok (.bl (f d.ty)):=by
 cases d<;>first | exact⟨rfl,rfl⟩ | exact absurd rfl h
noncomputable def z6p(t:String):Bool:=t=="int"||t=="bool"
noncomputable def z4s(t:String):Bool:=t=="bool"
noncomputable def z2m(t:String):Bool:=t=="tuple"
noncomputable def dSeq(d:D):R (List D):=match d with
 | .tup ds=>.ok ds
 | .lst ds=>.ok ds
 | _=>.no
noncomputable def gSeq(g:G->R D):G->R (List D):=fun Γ=>g Γ>>=dSeq
noncomputable def z7a(g:G->R D):G->R (List D):=fun Γ=>g Γ>>=fun d=>dSeq d>>=fun ds=>R.guard (D.noLs ds=true) (.ok ds)
noncomputable def z4b(lo:Int)(n:Nat):List D:=(List.range n).map fun(i:Nat)=>D.int (lo+(i:Int))
theorem z0w(lo:Int)(n:Nat):(z4b lo n).length=n:=by unfold z4b;simp
theorem z8g(lo:Int)(n i:Nat)(h:i<n):(z4b lo n)[i]? = some (.int (lo+(i:Int))):=by unfold z4b;simp[h]
theorem z2t(lo:Int):z4b lo 0=[]:=rfl
noncomputable def z8f(lo:Int)(step:Int)(n:Nat):List D:=(List.range n).map fun(i:Nat)=>D.int (lo+step*(i:Int))
noncomputable def z7o(lo hi step:Int):Nat:=((hi-lo+step-1)/step).toNat
noncomputable def z5n(g:G->R D):G->R (List D):=fun Γ=>g Γ>>=fun d=>match d with
 | .int j=>R.guard (y6n j) (.ok (z4b 0 j.toNat))
 | _=>.no
noncomputable def z8y(ga gb:G->R D):G->R (List D):=fun Γ=>ga Γ>>=fun d=>gb Γ>>=fun d'=>match d,d' with
 | .int i,.int j=>R.guard (y6n i/\y6n j) (.ok (z4b i (j-i).toNat))
 | _,_=>.no
noncomputable def y0q(ga gb gc:G->R D):G->R (List D):=fun Γ=>ga Γ>>=fun d=>gb Γ>>=fun d'=>gc Γ>>=fun d''=>match d,d',d'' with
 | .int i,.int j,.int k=>R.guard ((-1073741824<=i/\i<1073741824)/\(-1073741824<=j/\j<1073741824)/\0<k/\k<1073741824) (.ok (z8f i k (z7o i j k)))
 | _,_,_=>.no
noncomputable def z1g(f:D->R (Option D)):List D->List D->R (List D)
 | [],acc=>.ok acc
 | d::r,acc=>match f d with
   | .ok (some e)=>z1g f r (acc++[e])
   | .ok none=>z1g f r acc
   | _=>.no
theorem z3k(f:D->R (Option D))(acc:List D):z1g f [] acc = .ok acc:=rfl
theorem z7n(f:D->R (Option D))(d:D)(r acc:List D):z1g f (d::r) acc=match f d with
 | .ok (some e)=>z1g f r (acc++[e])
 | .ok none=>z1g f r acc
 | _=>.no:=rfl
theorem z6r{f:D->R (Option D)}:∀{ds acc:List D},z1g f ds acc ≠ .no->∃es,z1g f ds acc = .ok es
 | [],acc,_=>⟨acc,rfl⟩
 | d::r,acc,h=>by
   unfold z1g at h ⊢
   cases q:f d with
   | no=>rw[q] at h;exact absurd rfl h
   | er c=>rw[q] at h;exact absurd rfl h
   | ok o =>
     rw[q] at h
     cases o with
     | none=>exact z6r h
     | some e=>exact z6r h
theorem z2w{α:Type}{f:D->R (Option D)}{k h:α->D}{l:List α}(q:∀x∈l,f (k x) = .ok (some (h x))):z1g f (l.map k) [] = .ok (l.map h):=by
 suffices H:∀(l:List α) (acc:List D),(∀x∈l,f (k x) = .ok (some (h x)))->z1g f (l.map k) acc = .ok (acc++l.map h) by
  have:=H l [] q;simpa using this
 intro l
 induction l with
 | nil=>intro acc _;simp[z1g]
 | cons x l ih =>
   intro acc q
   rw[List.map_cons,z7n,q x List.mem_cons_self]
   simp only
   rw[ih _ fun y hy=>q y (List.mem_cons_of_mem _ hy)]
   simp
theorem y0s{α:Type}{f:D->R (Option D)}{k:α->D}{h:α->Option D}{l:List α}(q:∀x∈l,f (k x) = .ok (h x)):z1g f (l.map k) [] = .ok (l.filterMap h):=by
 suffices H:∀(l:List α) (acc:List D),(∀x∈l,f (k x) = .ok (h x))->z1g f (l.map k) acc = .ok (acc++l.filterMap h) by
  have:=H l [] q;simpa using this
 intro l
 induction l with
 | nil=>intro acc _;simp[z1g]
 | cons x l ih =>
   intro acc q
   rw[List.map_cons,z7n,q x List.mem_cons_self]
   cases e:h x with
   | none=>simp only;rw[ih _ fun y hy=>q y (List.mem_cons_of_mem _ hy)];simp[e]
   | some z=>simp only;rw[ih _ fun y hy=>q y (List.mem_cons_of_mem _ hy)];simp[e]
theorem z2g{f:D->R (Option D)}{lo:Int}{n:Nat}{h:Nat->D}(q:∀i,i<n->f (.int (lo+(i:Int))) = .ok (some (h i))):z1g f (z4b lo n) [] = .ok ((List.range n).map h) :=
 z2w (k:=fun(i:Nat)=>D.int (lo+(i:Int))) fun i hi=>q i (List.mem_range.mp hi)
noncomputable def fElt(ge:G->R D):D->G->R (Option D):=fun d Γ=>ge (.ro d::Γ)>>=fun e=>.ok (some e)
noncomputable def z7m(gc:G->R Bool)(ge:G->R D):D->G->R (Option D):=fun d Γ=>gc (.ro d::Γ)>>=fun k=>if k=true then ge (.ro d::Γ)>>=fun e=>.ok (some e) else .ok none
noncomputable def z3m(gi:G->R (List D))(f:D->G->R (Option D)):G->R (List D):=fun Γ=>gi Γ>>=fun items=>R.guard (items.length<=100000) (z1g (fun d=>f d Γ) items [])
inductive Fl where
 | nx (Γ:G) | rt (d:D) | rtF (ds:List D) | bk (Γ:G) | ct (Γ:G) | ex (c:Er) (Γ:G)
noncomputable def lift{α:Type}(r:R α)(Γ:G)(k:α->R Fl):R Fl:=match r with
 | .no=>.no
 | .er c=>.ok (.ex c Γ)
 | .ok a=>k a
theorem z2c{α:Type}{r:R α}{Γ:G}{k:α->R Fl}(h:lift r Γ k ≠ .no):r ≠ .no:=fun e=>h (by rw[e];rfl)
theorem z3r{α:Type}{r:R α}{Γ:G}{k:α->R Fl}{a:α}(e:r = .ok a):lift r Γ k=k a:=by rw[e];rfl
theorem z7w{α:Type}{r:R α}{Γ:G}{k:α->R Fl}{a:α}(h:lift r Γ k ≠ .no)(e:r = .ok a):k a ≠ .no:=by rw[e] at h;exact h
theorem z3f{α:Type}(a:α)(Γ:G)(k:α->R Fl):lift (.ok a) Γ k=k a:=rfl
theorem z5a{α:Type}(c:Er)(Γ:G)(k:α->R Fl):lift (.er c:R α) Γ k = .ok (.ex c Γ):=rfl
noncomputable def frz(i:Nat)(Γ:G):G:=match Γ[i]? with
 | some (.own ds)=>Γ.set i (.ro (.lst ds))
 | _=>Γ
noncomputable def z2l:G->R Fl:=fun Γ=>.ok (.nx Γ)
noncomputable def gSt(t u:G->R Fl):G->R Fl:=fun Γ=>t Γ>>=fun r=>match r with
 | .nx Γ'=>u Γ'
 | r=>.ok r
noncomputable def z7y(g:G->R (List D)):G->R Fl:=fun Γ=>lift (g Γ) Γ fun ds=>.ok (.rtF ds)
noncomputable def y0b(i:Nat):G->R Fl:=fun Γ=>match Γ[i]? with
 | some (.own ds)=>.ok (.rtF ds)
 | _=>.no
noncomputable def setAll:List Nat->List D->G->G
 | i::is,d::ds,Γ=>setAll is ds (Γ.set i (.ro d))
 | _,_,Γ=>Γ
noncomputable def gUnp(is:List Nat)(g:G->R D):G->R Fl:=fun Γ=>lift (g Γ) Γ fun d=>lift (dSeq d) Γ fun ds=>R.guard (ds.length=is.length/\D.noLs ds=true) (.ok (.nx (setAll is ds Γ)))
noncomputable def z6n(c:Er):G->R Fl:=fun Γ=>.ok (.ex c Γ)
noncomputable def gRet(g:G->R D):G->R Fl:=fun Γ=>lift (g Γ) Γ fun d=>.ok (.rt d)
noncomputable def gIfS(gc:G->R Bool)(t u:G->R Fl):G->R Fl:=fun Γ=>lift (gc Γ) Γ fun k=>if k=true then t Γ else u Γ
noncomputable def gSet(i:Nat)(g:G->R D):G->R Fl:=fun Γ=>lift (g Γ) Γ fun d=>.ok (.nx (Γ.set i (.ro d)))
noncomputable def z4r(i:Nat)(g:G->R (List D)):G->R Fl:=fun Γ=>lift (g Γ) Γ fun ds=>.ok (.nx (Γ.set i (.own ds)))
noncomputable def gApp(i:Nat)(g:G->R D):G->R Fl:=fun Γ=>match Γ[i]? with
 | some (.own ds)=>lift (g Γ) Γ fun d=>R.guard (ds.length<=100000) (.ok (.nx (Γ.set i (.own (ds++[d])))))
 | _=>.no
noncomputable def gPut(i:Nat)(gi g:G->R D):G->R Fl:=fun Γ=>match Γ[i]? with
 | some (.own ds)=>lift (g Γ) Γ fun d=>lift (gi Γ) Γ fun k=>(match k with
   | .int j=>(match ixN ds.length j with | some j'=>.ok (.nx (Γ.set i (.own (ds.set j' d)))) | none=>.no)
   | _=>.no)
 | _=>.no
noncomputable def z3n(gb:G->R Fl)(i:Nat):List D->G->R Fl
 | [],Γ=>.ok (.nx Γ)
 | d::r,Γ=>match gb (Γ.set i (.ro d)) with
   | .ok (.nx Γ')=>z3n gb i r Γ'
   | .ok (.ct Γ')=>z3n gb i r Γ'
   | .ok (.bk Γ')=>.ok (.nx Γ')
   | .ok (.rt d)=>.ok (.rt d)
   | .ok (.rtF d)=>.ok (.rtF d)
   | .ok (.ex c Γ')=>.ok (.ex c Γ')
   | _=>.no
noncomputable def gFor(i:Nat)(gi:G->R (List D))(gb:G->R Fl):G->R Fl:=fun Γ=>lift (gi Γ) Γ fun ds=>z3n gb i ds Γ
noncomputable def whGo(gc:G->R Bool)(gb:G->R Fl):Nat->G->R Fl
 | 0,_=>.no
 | n+1,Γ=>lift (gc Γ) Γ fun k=>if k=true then (match gb Γ with
    | .ok (.nx Γ')=>whGo gc gb n Γ'
    | .ok (.ct Γ')=>whGo gc gb n Γ'
    | .ok (.bk Γ')=>.ok (.nx Γ')
    | .ok (.rt d)=>.ok (.rt d)
    | .ok (.rtF d)=>.ok (.rtF d)
    | .ok (.ex c Γ')=>.ok (.ex c Γ')
    | _=>.no) else .ok (.nx Γ)
theorem z4f(gb:G->R Fl)(i:Nat)(Γ:G):z3n gb i [] Γ = .ok (.nx Γ):=rfl
theorem z5p(gb:G->R Fl)(i:Nat)(d:D)(ds:List D)(Γ:G):z3n gb i (d::ds) Γ=match gb (Γ.set i (.ro d)) with
 | .ok (.nx Γ')=>z3n gb i ds Γ'
 | .ok (.ct Γ')=>z3n gb i ds Γ'
 | .ok (.bk Γ')=>.ok (.nx Γ')
 | .ok (.rt d)=>.ok (.rt d)
 | .ok (.rtF d)=>.ok (.rtF d)
 | .ok (.ex c Γ')=>.ok (.ex c Γ')
 | _=>.no:=rfl
theorem z7z{gb:G->R Fl}{i:Nat}(I:Nat->G->Prop):∀(ds:List D) (k:Nat) (Γ:G),I k Γ ->
 (∀(j:Nat) (d:D) (Γ:G),ds[j]? = some d->I (k+j) Γ->∃Γ',(gb (Γ.set i (.ro d)) = .ok (.nx Γ')∨gb (Γ.set i (.ro d)) = .ok (.ct Γ'))/\I (k+j+1) Γ') ->
 ∃Γ',z3n gb i ds Γ = .ok (.nx Γ')/\I (k+ds.length) Γ'
 | [],k,Γ,h,_=>⟨Γ,rfl,h⟩
 | d::ds,k,Γ,h,q=>by
   obtain⟨Γ1,e1,h1⟩:=q 0 d Γ rfl h
   obtain⟨Γ2,e2,h2⟩:=z7z I ds (k+1) Γ1 h1 fun j d' Γ' hd hI=>by
    have:=q (j+1) d' Γ' (by simpa using hd) (by rw[show k+(j+1)=k+1+j by lia];exact hI)
    rw[show k+(j+1)=k+1+j by lia] at this
    exact this
   refine⟨Γ2,?_,by rw[List.length_cons,show k+(ds.length+1)=k+1+ds.length by lia];exact h2⟩
   rw[z5p]
   rcases e1 with e1 | e1<;>rw[e1]<;>exact e2
theorem y9m{gb:G->R Fl}{i:Nat}(S:Nat->G)(ds:List D)(q:∀(j:Nat) (d:D),ds[j]? = some d->gb ((S j).set i (.ro d)) = .ok (.nx (S (j+1)))):z3n gb i ds (S 0) = .ok (.nx (S ds.length)):=by
 obtain⟨Γ',e,h⟩:=z7z (gb:=gb) (i:=i) (fun k Γ=>Γ=S k) ds 0 (S 0) rfl fun j d Γ hd hI=>by
  rw[Nat.zero_add] at hI ⊢
  subst hI
  exact⟨_,.inl (q j d hd),rfl⟩
 rw[Nat.zero_add] at h
 rw[e,h]
theorem y7b{gb:G->R Fl}{i:Nat}{Γ:G}(S:Nat->G){ds:List D}(h0:Γ=S 0)(q:∀(j:Nat) (d:D),ds[j]? = some d->gb ((S j).set i (.ro d)) = .ok (.nx (S (j+1)))):z3n gb i ds Γ = .ok (.nx (S ds.length)):=by
 rw[h0];exact y9m S ds q
theorem y4s{gb:G->R Fl}{i:Nat}{Γ:G}(S:Nat->G){lo:Int}{n:Nat}(h0:Γ=S 0)(q:∀(j:Nat),j<n->gb ((S j).set i (.ro (.int (lo+(j:Int))))) = .ok (.nx (S (j+1)))):z3n gb i (z4b lo n) Γ = .ok (.nx (S n)):=by
 rw[y7b S h0,z0w]
 intro j d hd
 have hj:j<n:=by
  have:=(List.getElem?_eq_some_iff.mp hd).1
  rw[z0w] at this;exact this
 rw[z8g lo _ _ hj] at hd
 cases hd
 exact q j hj
theorem y7n(gc:G->R Bool)(gb:G->R Fl)(n:Nat)(Γ:G):whGo gc gb (n+1) Γ=lift (gc Γ) Γ fun k=>if k=true then (match gb Γ with
 | .ok (.nx Γ')=>whGo gc gb n Γ'
 | .ok (.ct Γ')=>whGo gc gb n Γ'
 | .ok (.bk Γ')=>.ok (.nx Γ')
 | .ok (.rt d)=>.ok (.rt d)
 | .ok (.rtF d)=>.ok (.rtF d)
 | .ok (.ex c Γ')=>.ok (.ex c Γ')
 | _=>.no) else .ok (.nx Γ):=rfl
theorem y1h{gc:G->R Bool}{gb:G->R Fl}(I:Nat->G->Prop)(Q:R Fl->Prop)(q:∀m Γ,I m Γ->(gc Γ = .ok false/\Q (.ok (.nx Γ)))∨(gc Γ = .ok true /\
 ((∃Γ' m',m'<m/\(gb Γ = .ok (.nx Γ')∨gb Γ = .ok (.ct Γ'))/\I m' Γ')∨(∃Γ',gb Γ = .ok (.bk Γ')/\Q (.ok (.nx Γ')))∨(∃d,gb Γ = .ok (.rt d)/\Q (.ok (.rt d)))∨(∃d,gb Γ = .ok (.rtF d)/\Q (.ok (.rtF d)))∨(∃c Γ',gb Γ = .ok (.ex c Γ')/\Q (.ok (.ex c Γ')))))) :
 ∀(n m:Nat) (Γ:G),m<n->I m Γ->Q (whGo gc gb n Γ)
 | 0,m,Γ,h,_=>absurd h (Nat.not_lt_zero _)
 | n+1,m,Γ,h,hI=>by
   rw[y7n]
   rcases q m Γ hI with ⟨e,hq⟩ | ⟨e,h2⟩
   ·rw[e,z3f,if_neg Bool.false_ne_true];exact hq
   ·rw[e,z3f,if_pos rfl]
    rcases h2 with ⟨Γ',m',hm,e',h'⟩ | ⟨Γ',e',h'⟩ | ⟨d,e',h'⟩ | ⟨d,e',h'⟩ | ⟨c,Γ',e',h'⟩
    ·rcases e' with e' | e'<;>rw[e']<;>exact y1h I Q q n m' Γ' (by lia) h'
    ·rw[e'];exact h'
    ·rw[e'];exact h'
    ·rw[e'];exact h'
    ·rw[e'];exact h'
noncomputable def ini(n:Nat)(ds:List D):G:=ds.map En.ro++List.replicate (n-ds.length) En.no
noncomputable def fin(r:R Fl):R D:=match r with
 | .ok (.rt d)=>.ok d
 | .ok (.nx _)=>.ok .non
 | .ok (.ex c _)=>.er c
 | _=>.no
noncomputable def finF(r:R Fl):R (List D):=match r with
 | .ok (.rtF d)=>.ok d
 | .ok (.ex c _)=>.er c
 | _=>.no
noncomputable def fnC(p n:Nat)(g:G->R Fl):List D->R D:=fun ds=>if ds.length=p then fin (g (ini n ds)) else .no
theorem z0h{p n:Nat}{g:G->R Fl}{ds:List D}(h:fnC p n g ds ≠ .no):ds.length=p:=by
 unfold fnC at h
 by_cases q:ds.length=p
 ·exact q
 ·rw[if_neg q] at h;exact absurd rfl h
theorem z1d{p n:Nat}{g:G->R Fl}{ds:List D}(h:ds.length=p):fnC p n g ds=fin (g (ini n ds)):=if_pos h
noncomputable def fnF(p n:Nat)(g:G->R Fl):List D->R (List D):=fun ds=>if ds.length=p then finF (g (ini n ds)) else .no
theorem z8k{p n:Nat}{g:G->R Fl}{ds:List D}(h:fnF p n g ds ≠ .no):ds.length=p:=by
 unfold fnF at h
 by_cases q:ds.length=p
 ·exact q
 ·rw[if_neg q] at h;exact absurd rfl h
theorem y5x{p n:Nat}{g:G->R Fl}{ds:List D}(h:ds.length=p):fnF p n g ds=finF (g (ini n ds)):=if_pos h
theorem y3d:((0:Nat):Int)=0:=rfl
theorem y3c:((1:Nat):Int)=1:=rfl
theorem y3b:((2:Nat):Int)=2:=rfl
theorem y3a:((3:Nat):Int)=3:=rfl
theorem y2z:((4:Nat):Int)=4:=rfl
end
noncomputable def maxI:List Int->Int
 | []=>0
 | [a]=>a
 | a::b::r=>if maxI (b::r)>a then maxI (b::r) else a
theorem y5o:∀{ns:List Int},ns≠[]->maxI ns∈ns
 | [a],_=>by simp[maxI]
 | a::b::r,_=>by
   have ih:=y5o (ns:=b::r) (by simp)
   unfold maxI
   split
   ·exact List.mem_cons_of_mem _ ih
   ·exact List.mem_cons_self
theorem y8x:∀{ns:List Int} {a:Int},a∈ns->a<=maxI ns
 | [b],a,h=>by simp only[List.mem_singleton] at h;subst h;exact Int.le_refl _
 | b::c::r,a,h=>by
   unfold maxI
   rcases List.mem_cons.mp h with rfl | h
   ·split<;>lia
   ·have:=y8x h
    split<;>lia
theorem y3e{ns:List Int}{m:Int}(h:m∈ns)(g:∀a∈ns,a<=m):m=maxI ns:=Int.le_antisymm (y8x h) (g _ (y5o fun z=>by rw[z] at h;cases h))
noncomputable def y7e(ds:List D):R D:=match ds with
 | [.lst xs]=>(match ints? xs with | some (n::ns)=>.ok (.int (maxI (n::ns))) | _=>.no)
 | [.int i,.int j]=>.ok (.int (if j>i then j else i))
 | _=>.no
theorem z8a(n:Int)(ns:List Int):y7e [.lst (D.int n::ns.map D.int)] = .ok (.int (maxI (n::ns))):=by
 have h:=ints?_map (n::ns)
 rw[List.map_cons] at h
 simp only[y7e,h]
noncomputable def dInt(ds:List D):R D:=match ds with
 | [.int i]=>.ok (.int i)
 | [.bl b]=>.ok (.int (if b then 1 else 0))
 | _=>.no
noncomputable def bigN:Nat:=10^1200
noncomputable def y5n(i j:Int):Prop:=i.natAbs<bigN/\j.natAbs<bigN
noncomputable instance (i j:Int):Decidable (y5n i j):=by unfold y5n;exact inferInstance
noncomputable def D.isNon:D->Bool
 | .non=>true
 | _=>false
noncomputable def dIsN(x y:D):R D:=match y with
 | .non=>.ok (.bl x.isNon)
 | _=>.no
noncomputable def y1z(x y:D):R D:=match y with
 | .non=>.ok (.bl (!x.isNon))
 | _=>.no
noncomputable def gRep(ga:G->R (List D))(gb:G->R D):G->R (List D):=fun Γ=>ga Γ>>=fun xs=>gb Γ>>=fun d=>match d with
 | .int k=>R.guard (0<=k/\k<1000000/\xs.length*k.toNat<=1000) (.ok (List.replicate k.toNat xs).flatten)
 | _=>.no
noncomputable def x0f(n:Int):Nat:=if n==0 then 0 else n.natAbs.log2+1
noncomputable def y9w(d:D):R D:=match d with
 | .int n=>.ok (.int (x0f n))
 | _=>.no
noncomputable def y7a(ga:G->R D):G->R D:=fun Γ=>ga Γ>>=y9w
noncomputable def dShr(x y:D):R D:=match x,y with
 | .int i,.int j=>R.guard (0<=i/\0<=j) (.ok (.int (i/2^j.toNat)))
 | _,_=>.no
noncomputable def y1b(gc:G->R Bool)(ge:G->R D):D->D->G->R (Option D):=fun d d2 Γ=>gc (.ro d :: .ro d2::Γ)>>=fun k=>if k=true then ge (.ro d :: .ro d2::Γ)>>=fun e=>.ok (some e) else .ok none
noncomputable def z8w(f:D->D->G->R (Option D))(Γ:G)(d:D):R (Option D):=match d with
 | .tup [a,b]=>f a b Γ
 | _=>.no
noncomputable def y5u(gi:G->R (List D))(f:D->D->G->R (Option D)):G->R (List D):=fun Γ=>gi Γ>>=fun items=>R.guard (items.length<=100000) (z1g (z8w f Γ) items [])
noncomputable def z3e(gb:G->R Fl)(i j:Nat):List D->G->R Fl
 | [],Γ=>.ok (.nx Γ)
 | .tup [a,b]::ds,Γ=>match gb ((Γ.set i (.ro a)).set j (.ro b)) with
   | .ok (.nx Γ')=>z3e gb i j ds Γ'
   | .ok (.ct Γ')=>z3e gb i j ds Γ'
   | .ok (.bk Γ')=>.ok (.nx Γ')
   | .ok (.rt d)=>.ok (.rt d)
   | .ok (.rtF d)=>.ok (.rtF d)
   | .ok (.ex c Γ')=>.ok (.ex c Γ')
   | _=>.no
 | _::_,_=>.no
noncomputable def y9l(i j:Nat)(gs:G->R (List D))(gb:G->R Fl):G->R Fl:=fun Γ=>lift (gs Γ) Γ fun ds=>z3e gb i j ds Γ
noncomputable def z4l:Nat->List D->List D
 | _,[]=>[]
 | k,x::xs=>.tup [.int k,x]::z4l (k+1) xs
noncomputable def y6z(ga:G->R D):G->R (List D):=fun Γ=>ga Γ>>=fun a=>match a with
 | .lst xs=>R.guard (D.noLs xs=true) (.ok (z4l 0 xs))
 | _=>.no
noncomputable def z2x(f:D->R (Option D)):List D->List D->R (List D)
 | [],acc=>.ok acc
 | d::ds,acc=>match f d with
   | .no=>.no
   | .er c=>.er c
   | .ok none=>z2x f ds acc
   | .ok (some e)=>z2x f ds (acc++[e])
noncomputable def z8p(gi:G->R (List D))(f:D->G->R (Option D)):G->R (List D):=fun Γ=>gi Γ>>=fun items=>R.guard (items.length<=100000) (z2x (fun d=>f d Γ) items [])
noncomputable def gRev(g:G->R D):G->R (List D):=fun Γ=>g Γ>>=fun d=>match d with
 | .tup ds=>R.guard (D.noLs ds=true) (.ok ds.reverse)
 | _=>.no
noncomputable def y5t(g:G->R D):G->R (List D):=fun Γ=>g Γ>>=fun d=>match d with
 | .tup ds=>.ok (z4l 0 ds)
 | _=>.no
end L3
namespace L3
section
variable {Γ Γ':G}{i:Nat}{g gk:G->R D}{gs:G->R (List D)}{gc:G->R Bool}{t u e gb:G->R Fl}{r:R Fl}{d k:D}{ds:List D}{c:Er}
theorem z8c(h:t Γ = .ok (.nx Γ'))(h2:u Γ'=r):gSt t u Γ=r:=by unfold gSt;rw[h];exact h2
theorem z9c(h:t Γ = .ok (.rt d)):gSt t u Γ = .ok (.rt d):=by unfold gSt;rw[h];rfl
theorem x4x(h:t Γ = .ok (.ex c Γ')):gSt t u Γ = .ok (.ex c Γ'):=by unfold gSt;rw[h];rfl
theorem y1t(h:g Γ = .ok d):gSet i g Γ = .ok (.nx (Γ.set i (.ro d))):=by unfold gSet;rw[h];rfl
theorem x6f(h:gs Γ = .ok ds):z4r i gs Γ = .ok (.nx (Γ.set i (.own ds))):=by unfold z4r;rw[h];rfl
theorem x7p(ho:Γ[i]? = some (.own ds))(h:g Γ = .ok d)(hl:ds.length<=100000):gApp i g Γ = .ok (.nx (Γ.set i (.own (ds++[d])))):=by
 unfold gApp;rw[ho];simp only[h,z3f,z1w hl]
theorem x4e{j:Int}{n:Nat}(ho:Γ[i]? = some (.own ds))(h:g Γ = .ok d)(hk:gk Γ = .ok (.int j))(hn:ixN ds.length j=some n):gPut i gk g Γ = .ok (.nx (Γ.set i (.own (ds.set n d)))):=by
 unfold gPut;rw[ho];simp only[h,hk,z3f,hn]
theorem z5m(hc:gc Γ = .ok true)(h:t Γ=r):gIfS gc t u Γ=r:=by unfold gIfS;rw[hc];exact h
theorem x6g(hc:gc Γ = .ok false)(h:u Γ=r):gIfS gc t u Γ=r:=by unfold gIfS;rw[hc];exact h
theorem y3j(hc:gc Γ = .ok false):gIfS gc t z2l Γ = .ok (.nx Γ):=x6g hc rfl
theorem x6h(hi:gs Γ = .ok ds)(h:z3n gb i ds Γ=r):gFor i gs gb Γ=r:=by unfold gFor;rw[hi];exact h
theorem z1z(h:g Γ = .ok d):gRet g Γ = .ok (.rt d):=by unfold gRet;rw[h];rfl
theorem y9d(h:gs Γ = .ok ds):z7y gs Γ = .ok (.rtF ds):=by unfold z7y;rw[h];rfl
theorem z1e(hg:g Γ = .ok d)(h:u (Γ.set i (.ro d))=r):gSt (gSet i g) u Γ=r:=z8c (y1t hg) h
theorem z6s(hg:gs Γ = .ok ds)(h:u (Γ.set i (.own ds))=r):gSt (z4r i gs) u Γ=r:=z8c (x6f hg) h
theorem z1q(hc:gc Γ = .ok false)(h:u Γ=r):gSt (gIfS gc t z2l) u Γ=r:=z8c (y3j hc) h
theorem x6w(hc:gc Γ = .ok true)(ht:t Γ = .ok (.nx Γ'))(h:u Γ'=r):gSt (gIfS gc t e) u Γ=r:=z8c (z5m hc ht) h
theorem y5z(hi:gs Γ = .ok ds)(hf:z3n gb i ds Γ = .ok (.nx Γ'))(h:u Γ'=r):gSt (gFor i gs gb) u Γ=r:=z8c (x6h hi hf) h
theorem z1l{p n:Nat}(hl:ds.length=p)(h:t (ini n ds) = .ok (.rt d)):fnC p n t ds = .ok d:=by rw[z1d hl,h];rfl
theorem y1a{p n:Nat}(hl:ds.length=p)(h:t (ini n ds) = .ok (.ex c Γ)):fnC p n t ds = .er c:=by rw[z1d hl,h];rfl
theorem y5w{p n:Nat}{es:List D}(hl:ds.length=p)(h:t (ini n ds) = .ok (.rtF es)):fnF p n t ds = .ok es:=by rw[y5x hl,h];rfl
noncomputable def Ends(r:R Fl)(I:G->Prop):Prop:=∃Γ',(r = .ok (.nx Γ')∨r = .ok (.ct Γ'))/\I Γ'
theorem Ends.nx{I:G->Prop}{r:R Fl}(h:r = .ok (.nx Γ))(hI:I Γ):Ends r I:=⟨Γ,.inl h,hI⟩
theorem y4y(I:Nat->G->Prop)(hi:gs Γ = .ok ds)(h0:I 0 Γ)(hq:∀(j:Nat) (d:D) (Γ:G),ds[j]? = some d->I j Γ->Ends (gb (Γ.set i (.ro d))) (I (j+1)))(h:∀Γ',I ds.length Γ'->u Γ'=r):gSt (gFor i gs gb) u Γ=r:=by
 obtain⟨Γ',e,h'⟩:=z7z I ds 0 Γ h0 fun j d Γ hd hI=>by rw[Nat.zero_add] at hI ⊢;exact hq j d Γ hd hI
 rw[Nat.zero_add] at h'
 exact y5z hi e (h Γ' h')
end
noncomputable def sumN(f:Nat->Int):Nat->Int
 | 0=>0
 | n+1=>sumN f n+f n
theorem y7v(f:Nat->Int):sumN f 0=0:=rfl
theorem z1s(f:Nat->Int)(n:Nat):sumN f (n+1)=sumN f n+f n:=rfl
theorem z3h{f g:Nat->Int}:∀{n:Nat},(∀i,i<n->f i=g i)->sumN f n=sumN g n
 | 0,_=>rfl
 | n+1,h=>by rw[z1s,z1s,z3h fun i hi=>h i (by lia),h n (by lia)]
theorem y1k(f g:Nat->Int):∀n:Nat,sumN (fun i=>f i+g i) n=sumN f n+sumN g n
 | 0=>rfl
 | n+1=>by rw[z1s,z1s,z1s,y1k f g n];lia
theorem z9k(c:Int)(f:Nat->Int):∀n:Nat,sumN (fun i=>c*f i) n=c*sumN f n
 | 0=>by simp[sumN]
 | n+1=>by rw[z1s,z1s,z9k c f n,Int.mul_add]
theorem y7x(c:Int)(f:Nat->Int)(n:Nat):sumN (fun i=>f i*c) n=sumN f n*c:=by
 rw[z3h (g:=fun i=>c*f i) fun i _=>Int.mul_comm _ _,z9k,Int.mul_comm]
theorem z5t:∀n:Nat,sumN (fun _=>0) n=0
 | 0=>rfl
 | n+1=>by rw[z1s,z5t n];rfl
theorem y2l(f:Nat->Nat->Int)(m:Nat):∀n:Nat,sumN (fun i=>sumN (fun j=>f i j) m) n=sumN (fun j=>sumN (fun i=>f i j) n) m
 | 0=>by simp only[y7v,z5t]
 | n+1=>by
   rw[z1s,y2l f m n,<-y1k]
   rfl
theorem z7i{f:Nat->Int}{k:Nat}:∀{n:Nat},k<n->(∀i,i<n->i≠k->f i=0)->sumN f n=f k
 | 0,h,_=>absurd h (Nat.not_lt_zero _)
 | n+1,h,q=>by
   rw[z1s]
   by_cases e:k=n
   ·subst e
    rw[z3h (g:=fun _=>0) fun i hi=>q i (by lia) (by lia),z5t];lia
   ·rw[z7i (by lia) fun i hi hk=>q i (by lia) hk,q n (by lia) (Ne.symm e)];lia
theorem y7w{f:Nat->Int}{n:Nat}(q:∀i,i<n->f i=0):sumN f n=0:=by
 rw[z3h (g:=fun _=>0) q,z5t]
theorem z9j(f:Nat->Int):∀n:Nat,((List.range n).map f).sum=sumN f n
 | 0=>rfl
 | n+1=>by rw[List.range_succ,List.map_append,List.sum_append,z9j f n,z1s];simp
noncomputable def cg(P a b:Int):Prop:=a%P=b%P
theorem cg.refl{P a:Int}:cg P a a:=rfl
theorem cg.symm{P a b:Int}(h:cg P a b):cg P b a:=Eq.symm h
theorem cg.trans{P a b c:Int}(h:cg P a b)(g:cg P b c):cg P a c:=Eq.trans h g
theorem cg.of_eq{P a b:Int}(h:a=b):cg P a b:=by rw[h];exact cg.refl
theorem z6d{P a:Int}:cg P (a%P) a:=by unfold cg;exact Int.emod_emod_of_dvd a (Int.dvd_refl P)
theorem cg.add{P a b c d:Int}(h:cg P a b)(g:cg P c d):cg P (a+c) (b+d):=by unfold cg at *;rw[Int.add_emod,h,g,<-Int.add_emod]
theorem cg.sub{P a b c d:Int}(h:cg P a b)(g:cg P c d):cg P (a-c) (b-d):=by unfold cg at *;rw[Int.sub_emod,h,g,<-Int.sub_emod]
theorem cg.mul{P a b c d:Int}(h:cg P a b)(g:cg P c d):cg P (a*c) (b*d):=by unfold cg at *;rw[Int.mul_emod,h,g,<-Int.mul_emod]
theorem cg.sumN{P:Int}{f g:Nat->Int}:∀{n:Nat},(∀i,i<n->cg P (f i) (g i))->cg P (L3.sumN f n) (L3.sumN g n)
 | 0,_=>cg.refl
 | n+1,h=>(cg.sumN fun i hi=>h i (by lia)).add (h n (by lia))
theorem cg.eq_of{P a b:Int}(h:cg P a b)(ha:0<=a)(ha':a<P)(hb:0<=b)(hb':b<P):a=b:=by
 unfold cg at h;rw[Int.emod_eq_of_lt ha ha',Int.emod_eq_of_lt hb hb'] at h;exact h
theorem x6s{P a b:Int}:cg P a b↔(a-b)%P=0:=by
 unfold cg
 constructor
 ·intro h;rw[Int.sub_emod,h,Int.sub_self,Int.zero_emod]
 ·intro h
  have:cg P (a-b+b) (0+b):=cg.add (by unfold cg;rw[h,Int.zero_emod]) cg.refl
  unfold cg at this
  rw[show a-b+b=a by lia,Int.zero_add] at this
  exact this
theorem z3u{w P:Int}(h:0<P):0<=w%P:=Int.emod_nonneg _ (by lia)
theorem z3v{w P:Int}(h:0<P):w%P<P:=Int.emod_lt_of_pos _ h
end L3
namespace L3
open PySem
noncomputable section
noncomputable def g_t:G->R Fl :=
 (gSt (gIfS (gT (gBin dLt (gV 1) (z0i dLen (gCons (gV 0) gNil)))) (gRet (gBin dIx (gV 0) (gV 1))) z2l)
 (gRet (gC (.int 0))))
noncomputable def c_t:List D->R D:=fnC 2 2 g_t
noncomputable def g_i:G->R Fl :=
 (gSt (z4r 3 (gLst gNil))
 (gSt (gFor 4 (z5n (gV 2))
 (gSt (gApp 3 (gNL (gBin dMod (gV 0) (gV 1))))
 (gSet 0 (gNL (gBin dDiv (gV 0) (gV 1))))))
 (gRet (z0i z2o (gCons (gV 3) gNil)))))
noncomputable def c_i:List D->R D:=fnC 3 5 g_i
noncomputable def g_r:G->R Fl :=
 (gSt (gIfS (gT (gBin dEq (gBin dMod (gV 0) (gC (.int 2))) (gC (.int 0)))) (gRet (gBin dIx (gTup (y1v [3,5,7,11,13,17,19,23])) (gBin dMod (gBin dDiv (gV 0) (gC (.int 2))) (gC (.int 8))))) z2l)
 (gSt (gSet 1 (gNL (gBin dAdd (gC (.int 3)) (gBin dMod (gBin dDiv (gV 0) (gC (.int 2))) (gC (.int 9971))))))
 (gSt (whGo (gT (z0i dAny (gCons (gL (z3m (z8y (gC (.int 2)) (gC (.int 100))) (z7m (gT (gBin dLt (gV 0) (gV 2))) (gNL (gBin dEq (gBin dMod (gV 2) (gV 0)) (gC (.int 0))))))) gNil))) (gSet 1 (gNL (gBin dAdd (gV 1) (gC (.int 1))))) 10000)
 (gRet (gV 1)))))
noncomputable def c_r:List D->R D:=fnC 1 2 g_r
noncomputable def g_s:G->R Fl :=
 (gRet (z9a (gIsi z6p (gV 0)) (y0r (gIsi z4s (gV 0)))))
noncomputable def c_s:List D->R D:=fnC 1 1 g_s
noncomputable def g_on:G->R Fl :=
 (gRet (gBin dMod (gV 1) (gV 0)))
noncomputable def c_on:List D->R D:=fnC 2 2 g_on
noncomputable def g_F:G->R Fl :=
 (gSt (gSet 3 (gNL (z0i dLen (gCons (gV 2) gNil))))
 (gRet (z0i c_on (gCons (gV 0) (gCons (gBin dAdd (z0i dSum (gCons (gL (z3m (z5n (gV 3)) (fElt (gNL (gBin dMul (gBin dIx (gV 2) (gV 0)) (gBin dIx (gV 3) (gV 0))))))) gNil)) (gBin dIx (gV 1) (gV 3))) gNil)))))
noncomputable def c_F:List D->R D:=fnC 3 4 g_F
noncomputable def g_A:G->R Fl :=
 (gRet (z0i z2o (gCons (gL (z3m (z7a (gV 1)) (fElt (gNL (z0i (noEr c_F) (gCons (gV 1) (gCons (gV 0) (gCons (gV 3) gNil)))))))) gNil)))
noncomputable def c_A:List D->R D:=fnC 3 3 g_A
noncomputable def g_m:G->R Fl :=
 (gRet (z0i dSum (gCons (gL (z3m (z5n (z0i dLen (gCons (gV 1) gNil))) (fElt (gNL (gBin dMul (gBin dIx (gV 1) (gV 0)) (gBin dIx (gBin dIx (gV 2) (gV 0)) (gV 3))))))) gNil)))
noncomputable def c_m:List D->R D:=fnC 3 3 g_m
noncomputable def g_p:G->R Fl :=
 (gSt (gSet 3 (gNL (z0i dLen (gCons (gV 1) gNil))))
 (gSt (z4r 4 (z3m (z5n (gBin dAdd (gV 3) (gC (.int 1)))) (fElt (gNL (z0i (noEr c_m) (gCons (gV 3) (gCons (gV 2) (gCons (gV 0) gNil))))))))
 (gSt (gPut 4 (gV 3) (gNL (gBin dAdd (gBin dIx (gV 4) (gV 3)) (gBin dIx (gV 2) (gV 3)))))
 (gRet (z0i z2o (gCons (gL (z3m (z7a (gV 4)) (fElt (gNL (z0i (noEr c_on) (gCons (gV 1) (gCons (gV 0) gNil))))))) gNil))))))
noncomputable def c_p:List D->R D:=fnC 3 5 g_p
noncomputable def g_I:G->R Fl :=
 (gRet (z0i z2o (gCons (gL (z3m (z7a (gV 2)) (fElt (gNL (z0i (noEr c_p) (gCons (gV 1) (gCons (gV 2) (gCons (gV 0) gNil)))))))) gNil)))
noncomputable def c_I:List D->R D:=fnC 3 3 g_I
noncomputable def g_z:G->R Fl :=
 (gRet (z0i z2o (gCons (gL (z3m (z5n (gV 0)) (fElt (gNL (gIf (gT (gBin dEq (gV 0) (gV 2))) (gC (.int 1)) (gC (.int 0))))))) gNil)))
noncomputable def c_z:List D->R D:=fnC 2 2 g_z
noncomputable def g_K:G->R Fl :=
 (gRet (z0i z2o (gCons (gL (z3m (z5n (gV 0)) (fElt (gNL (z0i (noEr c_z) (gCons (gBin dAdd (gV 1) (gC (.int 1))) (gCons (gV 0) gNil))))))) gNil)))
noncomputable def c_K:List D->R D:=fnC 1 1 g_K
noncomputable def g_y:G->R Fl :=
 (gSt (z4r 3 (z6o (z0i c_K (gCons (gV 0) gNil))))
 (gSt (gPut 3 (gV 1) (gNL (z0i z2o (gCons (gV 2) gNil))))
 (gRet (z0i z2o (gCons (gV 3) gNil)))))
noncomputable def c_y:List D->R D:=fnC 3 4 g_y
noncomputable def g_H:G->R Fl :=
 (gSt (gSet 2 (gNL (z0i c_on (gCons (gV 0) (gCons (gV 1) gNil)))))
 (gSt (gIfS (gT (gBin dEq (gV 2) (gC (.int 0)))) (z6n .noNumber) z2l)
 (gSt (gSet 3 (gNL (gC (.int 1))))
 (gSt (whGo (gT (gBin dNe (gV 2) (gC (.int 1)))) (gSt (gSet 3 (gNL (z0i c_on (gCons (gV 0) (gCons (gBin dMul (gNeg (gV 3)) (gBin dDiv (gV 0) (gV 2))) gNil)))))
 (gSet 2 (gNL (gBin dMod (gV 0) (gV 2))))) 100000)
 (gRet (gV 3))))))
noncomputable def c_H:List D->R D:=fnC 2 4 g_H
end
def wkL (e : String) : Lean.MacroM (Lean.TSyntax `tactic) := do let l <- (("L3.fin L3.finF L3.fnC L3.fnF L3.gV L3.gVr L3.gC L3.gNil L3.y1v L3.z2l L3.gSt L3.gSet L3.z4r L3.gNL L3.z0i L3.z5o L3.gCons L3.gRet L3.z7y L3.y0b L3.gUnp L3.setAll L3.gBin L3.gL L3.z3m L3.z5n L3.z8y L3.y0q L3.fElt L3.z7m L3.gT L3.gAnd L3.gOr L3.gNot L3.z9a L3.y0r L3.gNeg L3.dNeg L3.gIf L3.gIfS L3.z7e L3.gTup L3.gLst L3.gSeq L3.z7a L3.dSeq L3.gFor L3.gApp L3.gPut L3.gIsi L3.dIsi L3.z6n L3.gSl L3.gON L3.gOS L3.dOS L3.dCut L3.gCat L3.z8z L3.y2b L3.z6o L3.y2a L3.D.ty L3.z6p L3.z4s L3.z2m L3.z3f L3.z5a L3.y3f L3.z8n L3.z6l L3.z8m L3.z4z L3.ini L3.dLen L3.z2o L3.dAdd L3.dSub L3.dMul L3.dDiv L3.dMod L3.dPow L3.dLt L3.dLe L3.dGt L3.dEq L3.dNe L3.dIx L3.dMin L3.noEr L3.z8u R.bind_ok R.bind_er R.bind_no L3.z1w L3.z2z L3.z4f Bool.not_true Bool.not_false if_true if_false Bool.false_eq_true beq_self_eq_true ite_true ite_false Int.reduceToNat L3.z0w L3.y3d L3.y3c L3.y3b L3.y3a L3.y2z L3.z2q L3.z4n L3.z6i L3.z6j L3.z4y L3.z5w L3.z8o and_true true_and and_self List.map_cons List.map_nil List.length_cons List.length_nil List.length_map List.length_range List.length_set List.length_append List.length_replicate List.cons_append List.nil_append List.append_assoc List.replicate List.set_cons_zero List.set_cons_succ List.getElem?_cons_zero List.getElem?_cons_succ L3.ints?_map L3.bools?_map L3.z5e L3.z5f L3.z3w L3.z6q L3.z8s Nat.reduceAdd Nat.reduceSub Nat.reduceMul Int.reduceAdd Int.reduceSub Int.reduceMul Int.reduceNeg Int.toNat_natCast L3.z2t L3.z3k L3.z4h L3.z5h L3.z5g L3.z3l Option.map_some Int.add_zero Nat.reduceEqDiff Nat.reduceLeDiff Nat.zero_add Nat.add_zero Nat.sub_zero Nat.sub_self" ++ e).splitOn " ").toArray.mapM fun n => `(Lean.Parser.Tactic.simpLemma| $(Lean.mkIdent n.toName):term); `(tactic| try simp (disch := first | decide | omega | exact z2q _ | exact z4n _ | exact z3q _ | exact z1t _ | exact z4a _ _ | exact z1b (by omega) | exact ⟨z1b (by omega), z1b (by omega)⟩ | exact z4e (by first | assumption | exact z1x (by omega)) | exact z4d (by first | assumption | exact z1x (by omega)) | assumption) only [$l,*])
local macro_rules | `(tactic| walk_at "ev") => wkL ""
noncomputable def y0t(ns:List Int)(k:Int):Int:=(ns[k.toNat]?).getD 0
theorem y4x{ns:List Int}{k:Int}(h0:0<=k)(h:k<(ns.length:Int)):atI (ns.map D.int) k=some (.int (y0t ns k)):=by
 rw[y3x h0,List.getElem?_map]
 unfold y0t
 rw[List.getElem?_eq_getElem (by lia)];rfl
theorem x1w{ns:List Int}{k:Int}(h0:0<=k)(h:¬k<(ns.length:Int)):y0t ns k=0:=by
 unfold y0t
 rw[List.getElem?_eq_none (by lia)];rfl
theorem z9l{ns:List Int}{k:Int}(h0:0<=k):c_t [.lst (ns.map D.int),.int k] = .ok (.int (y0t ns k)):=by
 unfold c_t g_t
 by_cases h:k<(ns.length:Int)
 ·have e1:=y4x h0 h
  have e2:decide (k<(ns.length:Int))=true:=decide_eq_true h
  walk_at "ev"
  simp only[e1,e2]
  walk_at "ev"
 ·have e2:decide (k<(ns.length:Int))=false:=decide_eq_false h
  have e3:=x1w h0 h
  walk_at "ev"
  simp only[e2,e3]
  walk_at "ev"
noncomputable def z5c:D->Bool
 | .int _=>true
 | _=>false
theorem x3c{d:D}(h:d.noX=true):c_s [d] = .ok (.bl (z5c d)):=by
 unfold c_s g_s
 cases d<;>first | rfl | (simp[D.noX] at h)
theorem z4u(i:Int):c_s [.int i] = .ok (.bl true):=x3c rfl
noncomputable def z5k(P:Int):Nat->Int->List Int
 | 0,_=>[]
 | n+1,c=>c%P::z5k P n (c/P)
theorem z7g(P:Int):∀(n:Nat) (c:Int),(z5k P n c).length=n
 | 0,_=>rfl
 | n+1,c=>by rw[z5k,List.length_cons,z7g P n]
noncomputable def onW(P:Int)(ns:List Int):Prop:=∀n∈ns,0<=n/\n<P
theorem y1c{P:Int}(hp:0<P):∀(n:Nat) (c:Int),onW P (z5k P n c)
 | 0,_=>fun x hx=>by simp[z5k] at hx
 | n+1,c=>fun x hx=>by
   rw[z5k] at hx
   rcases List.mem_cons.mp hx with e | e
   ·subst e;exact⟨z3u hp,z3v hp⟩
   ·exact y1c hp n _ x e
noncomputable def divs(P:Int):Nat->Int->Int
 | 0,c=>c
 | n+1,c=>divs P n c/P
noncomputable def digs(P:Int)(n:Nat)(c:Int):List Int:=(List.range n).map fun i=>divs P i c%P
theorem y9u(P:Int)(n:Nat)(c:Int):digs P (n+1) c=digs P n c++[divs P n c%P]:=by
 unfold digs;rw[List.range_succ,List.map_append];rfl
theorem y9t(P:Int):∀(n:Nat) (c:Int),divs P (n+1) c=divs P n (c/P)
 | 0,c=>rfl
 | n+1,c=>by rw[divs,y9t P n c];rfl
theorem y9v(P:Int):∀(n:Nat) (c:Int),digs P n c=z5k P n c
 | 0,c=>rfl
 | n+1,c=>by
   rw[z5k,<-y9v P n (c/P)]
   unfold digs
   rw[List.range_succ_eq_map,List.map_cons,List.map_map]
   congr 1
   apply List.map_congr_left
   intro i _
   show divs P (i+1) c%P=_
   rw[y9t]
theorem z5u{c P n:Int}(h1:0<P)(h2:P<1000000)(h3:0<=n)(h4:n<=20):c_i [.int c,.int P,.int n] = .ok (.tup ((z5k P n.toNat c).map D.int)):=by
 unfold c_i g_i
 walk_at "ev"
 rw[y4s (fun j=>[.ro (.int (divs P j c)),.ro (.int P),.ro (.int n),.own ((digs P j c).map D.int),(match j with | 0=>.no | k+1=>.ro (.int (0+(k:Int))))])]
 ·walk_at "ev"
  rw[y9v]
 ·rfl
 ·intro j hj
  have hl:(digs P j c).length<=100000:=by unfold digs;simp;lia
  walk_at "ev"
  rw[y9u]
  simp[divs]
noncomputable def z3t(n:Int):Bool:=((List.range 98).filterMap fun(i:Nat)=>if 2+(i:Int)<n then some (n%(2+(i:Int))==0) else none).any fun b=>b
theorem y6y(n:Int):z3t n=true↔∃b:Int,2<=b/\b<100/\b<n/\n%b=0:=by
 unfold z3t
 simp only[List.any_eq_true,List.mem_filterMap,List.mem_range]
 constructor
 ·rintro⟨x,⟨i,hi,e⟩,hx⟩
  by_cases q:2+(i:Int)<n
  ·rw[if_pos q] at e;cases e
   exact⟨2+i,by lia,by lia,q,by simpa using hx⟩
  ·rw[if_neg q] at e;cases e
 ·rintro⟨b,h1,h2,h3,h4⟩
  refine⟨true,⟨(b-2).toNat,by lia,?_⟩,rfl⟩
  have e:(2+(((b-2).toNat:Nat):Int))=b:=by lia
  rw[e,if_pos h3,h4];rfl
theorem y3o{f:D->R (Option D)}{lo:Int}{n:Nat}{h:Nat->Option Bool}(q:∀i,i<n->f (.int (lo+(i:Int))) = .ok ((h i).map D.bl)):z1g f (z4b lo n) [] = .ok (((List.range n).filterMap h).map D.bl):=by
 unfold z4b
 rw[y0s (h:=fun i=>(h i).map D.bl) fun i hi=>q i (List.mem_range.mp hi),List.map_filterMap]
theorem x1r{n c:Int}(Γ:G):gT (z0i dAny (gCons (gL (z3m (z8y (gC (.int 2)) (gC (.int 100))) (z7m (gT (gBin dLt (gV 0) (gV 2))) (gNL (gBin dEq (gBin dMod (gV 2) (gV 0)) (gC (.int 0))))))) gNil)) (.ro (.int c) :: .ro (.int n)::Γ) = .ok (z3t n):=by
 walk_at "ev"
 rw[y3o (h:=fun(i:Nat)=>if 2+(i:Int)<n then some (n%(2+(i:Int))==0) else none)]
 ·walk_at "ev";rfl
 ·intro i hi
  walk_at "ev"
  by_cases q:2+(i:Int)<n
  ·simp only[decide_eq_true q,if_pos q]
   walk_at "ev"
  ·simp only[decide_eq_false q,if_neg q]
   rfl
theorem y2o{k:Int}(h0:0<=k)(h1:k<8):∃p:Int,atI (([3,5,7,11,13,17,19,23]:List Int).map D.int) k=some (.int p)/\3<=p/\p<=23/\z3t p=false:=by
 have:k=0∨k=1∨k=2∨k=3∨k=4∨k=5∨k=6∨k=7:=by lia
 rcases this with rfl | rfl | rfl | rfl | rfl | rfl | rfl | rfl
 ·exact⟨3,rfl,by decide,by decide,by decide +kernel⟩
 ·exact⟨5,rfl,by decide,by decide,by decide +kernel⟩
 ·exact⟨7,rfl,by decide,by decide,by decide +kernel⟩
 ·exact⟨11,rfl,by decide,by decide,by decide +kernel⟩
 ·exact⟨13,rfl,by decide,by decide,by decide +kernel⟩
 ·exact⟨17,rfl,by decide,by decide,by decide +kernel⟩
 ·exact⟨19,rfl,by decide,by decide,by decide +kernel⟩
 ·exact⟨23,rfl,by decide,by decide,by decide +kernel⟩
theorem x3d(c:Int):∃p:Int,c_r [.int c] = .ok (.int p)/\3<=p/\p<=9973/\z3t p=false:=by
 unfold c_r g_r
 by_cases h:c%2=0
 ·have h0:0<=c/2%8:=by lia
  obtain⟨p,e,h1,h2,h3⟩:=y2o (k:=c/2%8) (by lia) (by lia)
  refine⟨p,?_,h1,by lia,h3⟩
  have hb:(c%2==0)=true:=by simpa using h
  have hm:0<=c/2%8/\c/2%8<8:=by lia
  walk_at "ev"
  simp only[hb]
  simp only[List.map_cons,List.map_nil] at e
  walk_at "ev"
  simp only[e]
  rfl
 ·have hb:(c%2==0)=false:=by simpa using h
  have key:∀(n m:Nat) (Γ:G),m<n->(∃z:Int,Γ=[.ro (.int c),.ro (.int z)]/\3<=z/\z<=9973/\(9973-z).toNat=m) ->
   ∃z:Int,whGo (gT (z0i dAny (gCons (gL (z3m (z8y (gC (.int 2)) (gC (.int 100))) (z7m (gT (gBin dLt (gV 0) (gV 2))) (gNL (gBin dEq (gBin dMod (gV 2) (gV 0)) (gC (.int 0))))))) gNil))) (gSet 1 (gNL (gBin dAdd (gV 1) (gC (.int 1))))) n Γ = .ok (.nx [.ro (.int c),.ro (.int z)])/\3<=z/\z<=9973/\z3t z=false:=by
   refine y1h _ (fun r=>∃z:Int,r = .ok (.nx [.ro (.int c),.ro (.int z)])/\3<=z/\z<=9973/\z3t z=false) ?_
   rintro m Γ ⟨z,rfl,h1,h2,h3⟩
   rw[x1r]
   cases q:z3t z with
   | false=>exact .inl ⟨rfl,z,rfl,h1,h2,q⟩
   | true =>
     have hz:z≠9973:=fun e=>by rw[e] at q;exact absurd q (by decide +kernel)
     refine .inr ⟨rfl,.inl ⟨[.ro (.int c),.ro (.int (z+1))],(9973-(z+1)).toNat,by lia,.inl ?_,z+1,rfl,by lia,by lia,rfl⟩⟩
     walk_at "ev"
  have hz:3<=3+c/2%9971/\3+c/2%9971<=9973:=by lia
  obtain⟨z,e,h1,h2,h3⟩:=key 10000 (9973-(3+c/2%9971)).toNat [.ro (.int c),.ro (.int (3+c/2%9971))] (by lia) ⟨_,rfl,hz.1,hz.2,rfl⟩
  refine⟨z,?_,h1,h2,h3⟩
  walk_at "ev"
  simp only[hb]
  walk_at "ev"
  rw[e]
  walk_at "ev"
noncomputable def z0j(f s:List Int):Int:=sumN (fun i=>(f[i]?).getD 0*(s[i]?).getD 0) s.length+(f[s.length]?).getD 0
theorem s_on{P n:Int}(h:0<P):c_on [.int P,.int n] = .ok (.int (n%P)):=by
 unfold c_on g_on
 walk_at "ev"
theorem atD{l:List Int}{i:Nat}(h:i<l.length):atI (l.map D.int) (i:Int)=some (.int ((l[i]?).getD 0)):=by
 rw[z4i,List.getElem?_map,List.getElem?_eq_getElem h];rfl
noncomputable def fits(l:List Int):Prop:=∀n∈l,z9b n
theorem y9o{l:List Int}(h:fits l)(i:Nat):z9b ((l[i]?).getD 0):=by
 by_cases q:i<l.length
 ·rw[List.getElem?_eq_getElem q];exact h _ (List.getElem_mem q)
 ·rw[List.getElem?_eq_none (by lia)];exact⟨by decide,by decide⟩
theorem onW.fits{P:Int}{l:List Int}(h:onW P l)(hp:P<18446744073709551616):fits l:=fun n hn=>by
 have:=h n hn
 exact⟨by lia,by lia⟩
theorem s_F{P:Int}{fs ss:List Int}(hp:0<P)(hf:fits fs)(hl:fs.length=ss.length+1)(hn:ss.length<=1000):c_F [.int P,.tup (fs.map D.int),.tup (ss.map D.int)] = .ok (.int (z0j fs ss%P)):=by
 unfold c_F g_F
 walk_at "ev"
 rw[z2g (h:=fun i=>D.int ((fs[i]?).getD 0*(ss[i]?).getD 0))]
 ·have e1:((List.range ss.length).map fun i=>D.int ((fs[i]?).getD 0*(ss[i]?).getD 0))=((List.range ss.length).map fun i=>(fs[i]?).getD 0*(ss[i]?).getD 0).map D.int:=by rw[List.map_map];rfl
  rw[e1]
  have e2:=atD (l:=fs) (i:=ss.length) (by lia)
  walk_at "ev"
  simp only[e2]
  walk_at "ev"
  rw[s_on hp,z9j]
  rfl
 ·intro i hi
  have e1:=atD (l:=fs) (i:=i) (by lia)
  have e2:=atD (l:=ss) (i:=i) (by lia)
  have e3:=y9o hf i
  walk_at "ev"
  simp only[Int.zero_add,e1,e2]
  walk_at "ev"
noncomputable def rowD(r:List Int):D:=.tup (r.map D.int)
theorem z0l(r:List Int):rowD r = .tup (r.map D.int):=rfl
theorem z1f(r:List Int):(rowD r).noL=true:=z3q r
theorem z4x(t:List (List Int)):D.noLs (t.map rowD)=true:=z7v fun r _=>z3q r
theorem z6h(t:List (List Int)):D.noL (.tup (t.map rowD))=true:=by rw[z9v];exact z4x t
theorem z3c(n:Nat)(r:List Int):D.lay (n+1) (rowD r)=true:=z4a n r
theorem x4d(n:Nat)(t:List (List Int)):D.lay (n+2) (.tup (t.map rowD))=true:=by
 rw[y9b,List.all_map,List.all_eq_true];intro x _;exact z4a n x
theorem x2f(r:List Int):D.pl (rowD r)=true:=y8l r
theorem x2e(t:List (List Int)):D.pl (.tup (t.map rowD))=true:=by
 rw[x2d,List.all_map,List.all_eq_true];intro x _;exact y8l x
theorem z9x:∀{a b:List Int},a.map D.int=b.map D.int->a=b
 | [],[],_=>rfl
 | [],_::_,h=>by simp at h
 | _::_,[],h=>by simp at h
 | x::a,y::b,h=>by simp at h;rw[h.1,z9x h.2]
theorem y5h{a b:List Int}(h:rowD a=rowD b):a=b:=z9x (by unfold rowD at h;simpa using h)
theorem z9w:∀{a b:List (List Int)},a.map rowD=b.map rowD->a=b
 | [],[],_=>rfl
 | [],_::_,h=>by simp at h
 | _::_,[],h=>by simp at h
 | x::a,y::b,h=>by simp only[List.map_cons,List.cons.injEq] at h;rw[y5h h.1,z9w h.2]
theorem z3d(a b:List Int):eqD (rowD a) (rowD b)=decide (a=b):=y9s (x2f a) (x2f b) ⟨y5h,fun h=>by rw[h]⟩
theorem z6y(a b:List Int):eqD (.tup (a.map D.int)) (.tup (b.map D.int))=decide (a=b):=z3d a b
theorem x4n(a b:List (List Int)):eqD (.tup (a.map rowD)) (.tup (b.map rowD))=decide (a=b):=y9s (x2e a) (x2e b) ⟨fun h=>z9w (by simpa using h),fun h=>by rw[h]⟩
theorem atT{t:List (List Int)}{i:Nat}(h:i<t.length):atI (t.map rowD) (i:Int)=some (rowD ((t[i]?).getD [])):=by
 rw[z4i,List.getElem?_map,List.getElem?_eq_getElem h];rfl
noncomputable def y6m(P:Int)(n:Nat)(r:List Int):Prop:=onW P r/\r.length=n+1
noncomputable def z2e(P:Int)(n:Nat)(t:List (List Int)):Prop:=t.length=n/\∀r∈t,y6m P n r
noncomputable def z0z(P:Int)(t:List (List Int))(s:List Int):List Int:=t.map fun r=>z0j r s%P
theorem z1k(P:Int)(t:List (List Int))(s:List Int):(z0z P t s).length=t.length:=by unfold z0z;simp
theorem z9e{P:Int}(hp:0<P)(t:List (List Int))(s:List Int):onW P (z0z P t s):=fun n hn=>by
 unfold z0z at hn
 obtain⟨r,_,rfl⟩:=List.mem_map.mp hn
 exact⟨z3u hp,z3v hp⟩
theorem s_A{P:Int}{ts:List (List Int)}{ss:List Int}(hp:0<P)(hp2:P<18446744073709551616)(ht:z2e P ss.length ts)(hn:ss.length<=1000):c_A [.int P,.tup (ts.map rowD),.tup (ss.map D.int)] = .ok (.tup ((z0z P ts ss).map D.int)):=by
 unfold c_A g_A
 have hlt:ts.length<=100000:=by rw[ht.1];lia
 have hnl:=z4x ts
 walk_at "ev"
 rw[z2w (h:=fun r=>D.int (z0j r ss%P))]
 ·walk_at "ev"
  unfold z0z
  rw[List.map_map];rfl
 ·intro r hr
  have q:=ht.2 r hr
  have e1:c_F [D.int P,rowD r,D.tup (ss.map D.int)]=R.ok (D.int (z0j r ss%P)):=s_F hp (q.1.fits hp2) q.2 hn
  rw[e1]
  walk_at "ev"
noncomputable def x7o(c:List D->R D):Prop:=∀ns:List Int,ns.length<=63->c [.lst (ns.map D.int)] = .ok (.bl true)
theorem y0a{α:Type}{l:List α}{i:Nat}{d:α}(h:i<l.length):(l[i]?).getD d=l[i]:=by rw[List.getElem?_eq_getElem h];rfl
noncomputable def z4t(P:Int)(t:List (List Int))(f:List Int):List Int:=(List.range (t.length+1)).map fun place =>
 (sumN (fun x=>(f[x]?).getD 0*(((t[x]?).getD [])[place]?).getD 0) t.length+(if place=t.length then (f[t.length]?).getD 0 else 0))%P
noncomputable def z1m(P:Int)(a b:List (List Int)):List (List Int):=b.map (z4t P a)
theorem y2f(P:Int)(t:List (List Int))(f:List Int):(z4t P t f).length=t.length+1:=by unfold z4t;simp
theorem x0k{P:Int}(hp:0<P)(t:List (List Int))(f:List Int):onW P (z4t P t f):=fun n hn=>by
 unfold z4t at hn
 obtain⟨r,_,rfl⟩:=List.mem_map.mp hn
 exact⟨z3u hp,z3v hp⟩
theorem z2a{P:Int}(hp:0<P){n:Nat}{a b:List (List Int)}(ha:a.length=n)(hb:b.length=n):z2e P n (z1m P a b):=by
 unfold z1m
 refine⟨by rw[List.length_map,hb],fun r hr=>?_⟩
 obtain⟨f,_,rfl⟩:=List.mem_map.mp hr
 exact⟨x0k hp _ _,by rw[y2f,ha]⟩
theorem y4a{P:Int}{t:List (List Int)}{f:List Int}{k:Nat}(h:k<=t.length):((z4t P t f)[k]?).getD 0=(sumN (fun x=>(f[x]?).getD 0*(((t[x]?).getD [])[k]?).getD 0) t.length+(if k=t.length then (f[t.length]?).getD 0 else 0))%P:=by
 unfold z4t
 rw[List.getElem?_map,List.getElem?_range (by lia)];rfl
theorem y4b{P:Int}{t:List (List Int)}{f s:List Int}(hs:s.length=t.length):cg P (z0j (z4t P t f) s) (z0j f (z0z P t s)):=by
 unfold z0j
 rw[z1k,hs]
 have h1:cg P (sumN (fun i=>((z4t P t f)[i]?).getD 0*(s[i]?).getD 0) t.length+((z4t P t f)[t.length]?).getD 0)
  (sumN (fun i=>sumN (fun x=>(f[x]?).getD 0*(((t[x]?).getD [])[i]?).getD 0) t.length*(s[i]?).getD 0) t.length+(sumN (fun x=>(f[x]?).getD 0*(((t[x]?).getD [])[t.length]?).getD 0) t.length+(f[t.length]?).getD 0)):=by
  refine cg.add (cg.sumN fun i hi=>cg.mul ?_ cg.refl) ?_
  ·rw[y4a (by lia),if_neg (by lia),Int.add_zero];exact z6d
  ·rw[y4a (Nat.le_refl _),if_pos rfl];exact z6d
 have h2:cg P (sumN (fun i=>(f[i]?).getD 0*((z0z P t s)[i]?).getD 0) t.length+(f[t.length]?).getD 0)
  (sumN (fun x=>(f[x]?).getD 0*(sumN (fun i=>(((t[x]?).getD [])[i]?).getD 0*(s[i]?).getD 0) t.length+(((t[x]?).getD [])[t.length]?).getD 0)) t.length+(f[t.length]?).getD 0):=by
  refine cg.add (cg.sumN fun x hx=>cg.mul cg.refl ?_) cg.refl
  unfold z0z
  rw[List.getElem?_map,List.getElem?_eq_getElem hx]
  show cg P (z0j t[x] s%P) _
  refine z6d.trans (cg.of_eq ?_)
  unfold z0j
  rw[hs];rfl
 refine h1.trans (cg.trans (cg.of_eq ?_) h2.symm)
 have e1:sumN (fun i=>sumN (fun x=>(f[x]?).getD 0*(((t[x]?).getD [])[i]?).getD 0) t.length*(s[i]?).getD 0) t.length=sumN (fun x=>(f[x]?).getD 0*sumN (fun i=>(((t[x]?).getD [])[i]?).getD 0*(s[i]?).getD 0) t.length) t.length:=by
  rw[z3h (g:=fun i=>sumN (fun x=>(f[x]?).getD 0*((((t[x]?).getD [])[i]?).getD 0*(s[i]?).getD 0)) t.length) fun i _=>by
   rw[<-y7x];exact z3h fun x _=>Int.mul_assoc _ _ _]
  rw[y2l]
  exact z3h fun x _=>z9k _ _ _
 rw[e1,z3h (f:=fun x=>(f[x]?).getD 0*(sumN (fun i=>(((t[x]?).getD [])[i]?).getD 0*(s[i]?).getD 0) t.length+(((t[x]?).getD [])[t.length]?).getD 0)) (g:=fun x=>(f[x]?).getD 0*sumN (fun i=>(((t[x]?).getD [])[i]?).getD 0*(s[i]?).getD 0) t.length+(f[x]?).getD 0*(((t[x]?).getD [])[t.length]?).getD 0) fun x _=>Int.mul_add _ _ _,y1k]
 lia
noncomputable def z2h(n:Nat):List Int:=List.replicate n 0
noncomputable def z1r(n k:Nat):List Int:=(List.range n).map fun i=>if i=k then 1 else 0
theorem z2f(n:Nat):(z2h n).length=n:=by unfold z2h;simp
theorem z1j(n k:Nat):(z1r n k).length=n:=by unfold z1r;simp
theorem y5a(n i:Nat):((z2h n)[i]?).getD 0=0:=by
 unfold z2h
 rw[List.getElem?_replicate];split<;>rfl
theorem z5r{n k i:Nat}(h:i<n):((z1r n k)[i]?).getD 0=if i=k then 1 else 0:=by
 unfold z1r
 rw[List.getElem?_map,List.getElem?_range h];rfl
theorem z8d(f:List Int)(n:Nat):z0j f (z2h n)=(f[n]?).getD 0:=by
 unfold z0j
 rw[z2f,y7w fun i _=>by rw[y5a,Int.mul_zero]];lia
theorem z8e(f:List Int){n k:Nat}(h:k<n):z0j f (z1r n k)=(f[k]?).getD 0+(f[n]?).getD 0:=by
 unfold z0j
 rw[z1j,z7i h fun i hi hk=>by rw[z5r hi,if_neg hk,Int.mul_zero]]
 rw[z5r h,if_pos rfl,Int.mul_one]
theorem z8i{P:Int}{f:List Int}(hp:0<P)(h:onW P f)(k:Nat):0<=(f[k]?).getD 0/\(f[k]?).getD 0<P:=by
 by_cases q:k<f.length
 ·rw[y0a q];exact h _ (List.getElem_mem q)
 ·rw[List.getElem?_eq_none (by lia)];exact⟨by simp,by simpa using hp⟩
theorem y1y{a b:List Int}(hl:a.length=b.length)(h:∀k,k<a.length->(a[k]?).getD 0=(b[k]?).getD 0):a=b:=by
 apply List.ext_getElem hl
 intro k h1 h2
 have:=h k h1
 rw[y0a h1,y0a h2] at this
 exact this
theorem y5v{P:Int}{n:Nat}{f g:List Int}(hp:0<P)(hf:y6m P n f)(hg:y6m P n g)(h0:cg P (z0j f (z2h n)) (z0j g (z2h n)))(h1:∀k,k<n->cg P (z0j f (z1r n k)) (z0j g (z1r n k))):f=g:=by
 have e0:(f[n]?).getD 0=(g[n]?).getD 0:=by
  rw[z8d,z8d] at h0
  exact h0.eq_of (z8i hp hf.1 n).1 (z8i hp hf.1 n).2 (z8i hp hg.1 n).1 (z8i hp hg.1 n).2
 refine y1y (by rw[hf.2,hg.2]) fun k hk=>?_
 rw[hf.2] at hk
 by_cases q:k=n
 ·rw[q];exact e0
 ·have hk':k<n:=by lia
  have h2:=h1 k hk'
  rw[z8e f hk',z8e g hk',e0] at h2
  have h3:=h2.sub (cg.refl (P:=P) (a:=(g[n]?).getD 0))
  rw[show(f[k]?).getD 0+(g[n]?).getD 0-(g[n]?).getD 0=(f[k]?).getD 0 by lia,show(g[k]?).getD 0+(g[n]?).getD 0-(g[n]?).getD 0=(g[k]?).getD 0 by lia] at h3
  exact h3.eq_of (z8i hp hf.1 k).1 (z8i hp hf.1 k).2 (z8i hp hg.1 k).1 (z8i hp hg.1 k).2
theorem turn_I{P:Int}{n:Nat}{a b:List (List Int)}{s:List Int}(ha:a.length=n)(hs:s.length=n):z0z P (z1m P a b) s=z0z P b (z0z P a s):=by
 unfold z1m
 show(b.map (z4t P a)).map (fun r=>z0j r s%P)=b.map fun r=>z0j r (z0z P a s)%P
 rw[List.map_map]
 apply List.map_congr_left
 intro f _
 exact y4b (by rw[hs,ha])
theorem y4d{P:Int}{n:Nat}{a b:List (List Int)}(hp:0<P)(ha:z2e P n a)(hb:z2e P n b)(h:∀s,s.length=n->z0z P a s=z0z P b s):a=b:=by
 apply List.ext_getElem (by rw[ha.1,hb.1])
 intro k h1 h2
 have hw:∀s,s.length=n->cg P (z0j a[k] s) (z0j b[k] s):=fun s hs=>by
  have e:=congrArg (fun l=>(l[k]?).getD 0) (h s hs)
  unfold z0z at e
  simp only[List.getElem?_map,List.getElem?_eq_getElem h1,List.getElem?_eq_getElem h2,Option.map_some,Option.getD_some] at e
  exact e
 exact y5v hp (ha.2 _ (List.getElem_mem h1)) (hb.2 _ (List.getElem_mem h2)) (hw _ (z2f n)) fun j _=>hw _ (z1j n j)
theorem z2y{P:Int}{n:Nat}{a b c:List (List Int)}(hp:0<P)(ha:a.length=n)(hb:b.length=n)(hc:c.length=n):z1m P (z1m P a b) c=z1m P a (z1m P b c):=by
 have h1:=(z2a hp ha hb).1
 have h2:=(z2a hp hb hc).1
 refine y4d hp (z2a hp h1 hc) (z2a hp ha h2) fun s hs=>?_
 rw[turn_I h1 hs,turn_I ha hs,turn_I ha hs,turn_I hb (by rw[z1k,ha])]
noncomputable def z2d(n:Nat):List (List Int):=(List.range n).map fun x=>z1r (n+1) x
theorem z2u(n:Nat):(z2d n).length=n:=by unfold z2d;simp
theorem z5d{P:Int}(hp:1<P)(n:Nat):z2e P n (z2d n):=by
 refine⟨z2u n,fun r hr=>?_⟩
 unfold z2d at hr
 obtain⟨x,_,rfl⟩:=List.mem_map.mp hr
 refine⟨fun z hz=>?_,by rw[z1j]⟩
 unfold z1r at hz
 obtain⟨i,_,rfl⟩:=List.mem_map.mp hz
 split<;>lia
theorem worth_K{n x:Nat}{s:List Int}(h:x<n)(hs:s.length=n):z0j (z1r (n+1) x) s=(s[x]?).getD 0:=by
 unfold z0j
 rw[hs,z7i h fun i hi hk=>by rw[z5r (by lia),if_neg hk,Int.zero_mul],z5r (by lia),if_pos rfl,z5r (by lia),if_neg (by lia)]
 lia
theorem turn_K{P:Int}{n:Nat}{s:List Int}(hs:s.length=n)(ho:onW P s):z0z P (z2d n) s=s:=by
 refine y1y (by rw[z1k,z2u,hs]) fun k hk=>?_
 rw[z1k,z2u] at hk
 have e:((z0z P (z2d n) s)[k]?).getD 0=z0j (z1r (n+1) k) s%P:=by
  unfold z0z z2d
  rw[List.map_map,List.getElem?_map,List.getElem?_range hk];rfl
 rw[e,worth_K hk hs]
 have h2:k<s.length:=by lia
 rw[y0a h2]
 have:=ho _ (List.getElem_mem h2)
 exact Int.emod_eq_of_lt this.1 this.2
theorem y7m{P:Int}{f s:List Int}:cg P (z0j f (s.map (·%P))) (z0j f s):=by
 unfold z0j
 rw[List.length_map]
 refine cg.add (cg.sumN fun i hi=>cg.mul cg.refl ?_) cg.refl
 rw[List.getElem?_map,List.getElem?_eq_getElem hi]
 exact z6d
theorem y5f{P:Int}{t:List (List Int)}{s:List Int}:z0z P t (s.map (·%P))=z0z P t s:=by
 unfold z0z
 exact List.map_congr_left fun r _=>y7m
theorem y6g{P:Int}{n:Nat}{s:List Int}(hp:0<P)(hs:s.length=n):z0z P (z2d n) s=s.map (·%P):=by
 rw[<-y5f,turn_K (by rw[List.length_map,hs])]
 intro z hz
 obtain⟨y,_,rfl⟩:=List.mem_map.mp hz
 exact⟨z3u hp,z3v hp⟩
theorem idle_I{P:Int}{n:Nat}{t:List (List Int)}(hp:1<P)(ht:z2e P n t):z1m P (z2d n) t=t:=by
 refine y4d (by lia) (z2a (by lia) (z2u n) ht.1) ht fun s hs=>?_
 rw[turn_I (z2u n) hs,y6g (by lia) hs,y5f]
theorem then_K{P:Int}{n:Nat}{t:List (List Int)}(hp:1<P)(ht:z2e P n t):z1m P t (z2d n)=t:=by
 refine y4d (by lia) (z2a (by lia) ht.1 (z2u n)) ht fun s hs=>?_
 rw[turn_I ht.1 hs,turn_K (by rw[z1k,ht.1]) (z9e (by lia) _ _)]
local macro_rules | `(tactic| walk_at "evs") => wkL " L3.z9l L3.z5u L3.z4u L3.s_on L3.z5c"
theorem z4p{α:Type}(l:List α)(f:α->Int):l.map (fun x=>D.int (f x))=(l.map f).map D.int:=by rw[List.map_map];rfl
theorem y4o{α:Type}(l:List α)(f:α->List Int):l.map (fun x=>rowD (f x))=(l.map f).map rowD:=by rw[List.map_map];rfl
theorem x5e{P:Int}{n k:Nat}{t:List (List Int)}(ht:z2e P n t)(hk:k<n):y6m P n ((t[k]?).getD []):=by
 rw[y0a (by rw[ht.1];exact hk)]
 exact ht.2 _ (List.getElem_mem _)
theorem s_m{P:Int}{n k:Nat}{f:List Int}{t:List (List Int)}(hf:fits f)(hl:n<=f.length)(ht:z2e P n t)(hn:n<=1000)(hk:k<=n):c_m [.tup (f.map D.int),.tup (t.map rowD),.int k] = .ok (.int (sumN (fun x=>(f[x]?).getD 0*(((t[x]?).getD [])[k]?).getD 0) n)):=by
 refine z1l rfl ?_
 delta g_m
 refine z1z ?_
 have htl:=ht.1
 walk_at "evs"
 rw[z2g (h:=fun x=>D.int ((f[x]?).getD 0*(((t[x]?).getD [])[k]?).getD 0)),z4p]
 ·walk_at "evs"
  rw[z9j,htl]
 ·intro x hx
  have hr:=x5e ht (k:=x) (by lia)
  have e1:=atD (l:=f) (i:=x) (by lia)
  have e2:=atT (t:=t) (i:=x) (by lia)
  have e3:=atD (l:=(t[x]?).getD []) (i:=k) (by rw[hr.2];lia)
  have e4:=y9o hf x
  walk_at "evs"
  simp only[Int.zero_add,e1,e2]
  walk_at "evs"
  simp only[z0l,e3]
  walk_at "evs"
theorem s_p{P:Int}{n:Nat}{f:List Int}{t:List (List Int)}(hp:0<P)(hp2:P<1000000)(hf:y6m P n f)(ht:z2e P n t)(hn:n<=100):c_p [.int P,.tup (t.map rowD),.tup (f.map D.int)] = .ok (rowD (z4t P t f)):=by
 have htl:=ht.1
 refine z1l rfl ?_
 delta g_p
 refine z1e (d:=.int n) (by walk_at "evs";rw[htl]) ?_
 refine z6s (ds:=((List.range (n+1)).map fun k=>sumN (fun x=>(f[x]?).getD 0*(((t[x]?).getD [])[k]?).getD 0) n).map D.int) ?_ ?_
 ·walk_at "evs"
  rw[show((n:Int)+1).toNat=n+1 by lia,z2g (h:=fun k=>D.int (sumN (fun x=>(f[x]?).getD 0*(((t[x]?).getD [])[k]?).getD 0) n)),z4p]
  intro k hk
  have e:=s_m (f:=f) (k:=k) (hf.1.fits (by lia)) (by rw[hf.2];lia) ht (by lia) (by lia)
  walk_at "evs"
  simp only[Int.zero_add,e]
  walk_at "evs"
 have e1:=atD (l:=f) (i:=n) (by rw[hf.2];lia)
 have e2:=atD (l:=(List.range (n+1)).map fun k=>sumN (fun x=>(f[x]?).getD 0*(((t[x]?).getD [])[k]?).getD 0) n) (i:=n) (by simp)
 have e3:((((List.range (n+1)).map fun k=>sumN (fun x=>(f[x]?).getD 0*(((t[x]?).getD [])[k]?).getD 0) n)[n]?).getD 0)=sumN (fun x=>(f[x]?).getD 0*(((t[x]?).getD [])[n]?).getD 0) n:=by
  rw[List.getElem?_map,List.getElem?_range (by lia)];rfl
 rw[e3] at e2
 generalize hL:((List.range (n+1)).map fun k=>sumN (fun x=>(f[x]?).getD 0*(((t[x]?).getD [])[k]?).getD 0) n)=L at *
 have hLl:L.length=n+1:=by rw[<-hL];simp
 refine z8c (x4e (ds:=L.map D.int) (j:=n) (n:=n) (d:=.int (sumN (fun x=>(f[x]?).getD 0*(((t[x]?).getD [])[n]?).getD 0) n+(f[n]?).getD 0)) ?_ ?_ ?_ ?_) ?_
 ·rfl
 ·walk_at "evs"
  simp only[e1,e2]
  walk_at "evs"
 ·walk_at "evs"
 ·rw[List.length_map,hLl]
  unfold ixN
  rw[if_pos (by lia),if_pos (by lia)];simp
 refine z1z ?_
 have e4:(L.map D.int).set n (.int (sumN (fun x=>(f[x]?).getD 0*(((t[x]?).getD [])[n]?).getD 0) n+(f[n]?).getD 0))=((List.range (n+1)).map fun k=>D.int (sumN (fun x=>(f[x]?).getD 0*(((t[x]?).getD [])[k]?).getD 0) n+(if k=n then (f[n]?).getD 0 else 0))):=by
  rw[<-hL]
  apply List.ext_getElem (by simp)
  intro k h1 h2
  rw[List.getElem_set]
  by_cases q:n=k
  ·subst q;simp
  ·rw[if_neg q];simp[Ne.symm q]
 walk_at "evs"
 rw[e4]
 have e5:D.noLs ((List.range (n+1)).map fun k=>D.int (sumN (fun x=>(f[x]?).getD 0*(((t[x]?).getD [])[k]?).getD 0) n+(if k=n then (f[n]?).getD 0 else 0)))=true:=z7v fun _ _=>z2q _
 rw[z1w e5]
 walk_at "evs"
 rw[z2w (h:=fun k=>D.int ((sumN (fun x=>(f[x]?).getD 0*(((t[x]?).getD [])[k]?).getD 0) n+(if k=n then (f[n]?).getD 0 else 0))%P))]
 ·walk_at "evs"
  unfold z4t
  rw[htl]
  unfold rowD
  rw[List.map_map];rfl
 ·intro k hk
  walk_at "evs"
theorem s_I{P:Int}{n:Nat}{a b:List (List Int)}(hp:0<P)(hp2:P<1000000)(ha:z2e P n a)(hb:z2e P n b)(hn:n<=100):c_I [.int P,.tup (a.map rowD),.tup (b.map rowD)] = .ok (.tup ((z1m P a b).map rowD)):=by
 refine z1l rfl ?_
 delta g_I
 refine z1z ?_
 have h1:=z4x b
 have h2:b.length<=100000:=by rw[hb.1];lia
 walk_at "evs"
 rw[z2w (h:=fun f=>rowD (z4t P a f))]
 ·walk_at "evs"
  unfold z1m
  rw[List.map_map];rfl
 ·intro f hf
  have e:=s_p hp hp2 (hb.2 f hf) ha hn
  have e2:=z1f (z4t P a f)
  walk_at "evs"
  simp only[z0l f,e]
  walk_at "evs"
theorem s_z{n x:Nat}(hn:n<=1000):c_z [.int n,.int x] = .ok (rowD (z1r n x)):=by
 refine z1l rfl ?_
 delta g_z
 refine z1z ?_
 walk_at "evs"
 rw[z2g (h:=fun i=>D.int (if i=x then 1 else 0)),z4p]
 ·walk_at "evs";rfl
 ·intro i hi
  walk_at "evs"
  by_cases q:i=x
  ·subst q
   have e:((0:Int)+(i:Int)==(i:Int))=true:=by simp
   simp only[e]
   walk_at "evs"
  ·have e:((0:Int)+(i:Int)==(x:Int))=false:=by simp;lia
   simp only[e,if_neg q]
   walk_at "evs"
theorem s_K{n:Nat}(hn:n<=100):c_K [.int n] = .ok (.tup ((z2d n).map rowD)):=by
 refine z1l rfl ?_
 delta g_K
 refine z1z ?_
 walk_at "evs"
 rw[z2g (h:=fun x=>rowD (z1r (n+1) x)),y4o]
 ·walk_at "evs";rfl
 ·intro x hx
  have e:=s_z (n:=n+1) (x:=x) (by lia)
  rw[show(((n+1:Nat):Int))=(n:Int)+1 by lia] at e
  have e2:=z1f (z1r (n+1) x)
  walk_at "evs"
  simp only[Int.zero_add,e]
  walk_at "evs"
noncomputable def tabD(t:List (List Int)):D:=.tup (t.map rowD)
theorem y1j(t:List (List Int)):tabD t = .tup (t.map rowD):=rfl
theorem z6v(t:List (List Int)):(tabD t).noL=true:=z6h t
theorem y2y(l:List (List (List Int))):D.noLs (l.map tabD)=true:=z7v fun t _=>z6h t
theorem z6w(n:Nat)(t:List (List Int)):D.lay (n+2) (tabD t)=true:=x4d n t
theorem z6x(a b:List (List Int)):eqD (tabD a) (tabD b)=decide (a=b):=x4n a b
theorem y2n(lo st:Int)(n:Nat):(z8f lo st n).length=n:=by unfold z8f;simp
theorem y7z{lo st:Int}{n j:Nat}{d:D}(h:(z8f lo st n)[j]? = some d):j<n/\d = .int (lo+st*(j:Int)):=by
 have hj:j<n:=by
  have:=(List.getElem?_eq_some_iff.mp h).1
  rw[y2n] at this;exact this
 refine⟨hj,?_⟩
 unfold z8f at h
 rw[List.getElem?_map,List.getElem?_range hj] at h
 cases h;rfl
theorem y4g{lo:Int}{n j:Nat}{d:D}(h:(z4b lo n)[j]? = some d):j<n/\d = .int (lo+(j:Int)):=by
 have hj:j<n:=by
  have:=(List.getElem?_eq_some_iff.mp h).1
  rw[z0w] at this;exact this
 rw[z8g lo _ _ hj] at h
 cases h;exact⟨hj,rfl⟩
end L3
namespace L3
open PySem
local macro_rules | `(tactic| walk_at "evs") => wkL " L3.z9l L3.z5u L3.z4u L3.s_on L3.z5c L3.z6v L3.z6w L3.z6x L3.z3c L3.z3d L3.z6y L3.z1f"
theorem y7c(k:Nat):(List.replicate k [D.int 0]).flatten=(List.replicate k (0:Int)).map D.int:=by
 induction k with
 | zero=>rfl
 | succ k ih=>rw[List.replicate_succ,List.flatten_cons,ih,List.replicate_succ,List.map_cons];rfl
noncomputable def z2s(n:Nat):List (List Int):=z2h n::(List.range n).map (z1r n)
theorem s_y{n x:Nat}{f:List Int}(hn:n<=100)(hx:x<n):c_y [.int n,.int x,rowD f] = .ok (tabD ((z2d n).set x f)):=by
 refine z1l rfl ?_
 delta g_y
 have e:=s_K hn
 have hnl:=z4x (z2d n)
 refine z6s (ds:=(z2d n).map rowD) (by walk_at "evs";simp only[e];walk_at "evs") ?_
 refine z8c (x4e (ds:=(z2d n).map rowD) (j:=x) (n:=x) (d:=rowD f) rfl (by simp only[z0l];walk_at "evs") (by walk_at "evs") ?_) ?_
 ·rw[List.length_map,z2u]
  unfold ixN
  rw[if_pos (by lia),if_pos (by lia)];simp
 refine z1z ?_
 walk_at "evs"
 unfold tabD
 rw[List.map_set]
noncomputable section
noncomputable def g_o:G->R Fl :=
 (gRet (gBin dIx (gL (gLst (gCons (gBin dMod (gBin dDiv (gV 0) (gC (.int 3))) (gC (.int 5))) (gCons (gBin dMod (gBin dDiv (gV 0) (gC (.int 3))) (gC (.int 1000))) (gCons (gBin dMod (gBin dDiv (gV 0) (gC (.int 3))) (gBin dAdd (gBin dPow (gC (.int 10)) (gC (.int 30))) (gC (.int 1)))) gNil))))) (gBin dMod (gV 0) (gC (.int 3)))))
noncomputable def c_o:List D->R D:=fnC 1 1 g_o
noncomputable def g_v:G->R Fl :=
 (gSt (gSet 4 (gNL (gBin dMod (gV 0) (gV 3))))
 (gSt (gSet 5 (gNL (z0i c_i (gCons (gV 1) (gCons (gV 2) (gCons (gBin dAdd (gV 3) (gC (.int 1))) gNil))))))
 (gSt (gIfS (gAnd (gT (gBin dEq (gBin dIx (gV 5) (gV 4)) (gC (.int 0)))) (gT (gBin dGt (gBin dMod (gBin dDiv (gV 0) (gC (.int 3))) (gC (.int 6))) (gC (.int 0))))) (gSet 5 (gNL (gBin dAdd (gBin dAdd (gSl (gV 5) gON (gOS (gV 4))) (gTup (gCons (gBin dAdd (gC (.int 1)) (gBin dMod (gBin dDiv (gV 0) (gC (.int 18))) (gBin dSub (gV 2) (gC (.int 1))))) gNil))) (gSl (gV 5) (gOS (gBin dAdd (gV 4) (gC (.int 1)))) gON)))) z2l)
 (gRet (gTup (gCons (gC (.str "set")) (gCons (gV 4) (gCons (gV 5) gNil))))))))
noncomputable def c_v:List D->R D:=fnC 4 6 g_v
noncomputable def g_n:G->R Fl :=
 (gSt (z4r 4 (gLst gNil))
 (gSt (z4r 5 (gLst gNil))
 (gSt (gFor 6 (y0q (gC (.int 0)) (gBin dSub (z0i dMin (gCons (z0i dLen (gCons (gV 0) gNil)) (gCons (gC (.int 60)) gNil))) (gC (.int 1))) (gC (.int 2)))
 (gSt (gSet 7 (gNL (gBin dSub (z0i dLen (gCons (gV 4) gNil)) (z0i dMin (gCons (gBin dMod (gBin dDiv (gBin dIx (gV 0) (gV 6)) (gC (.int 4))) (gC (.int 4))) (gCons (z0i dLen (gCons (gV 4) gNil)) gNil))))))
 (gSt (gSet 8 (gNL (gBin dAdd (gC (.int 1)) (z0i y7e (gCons (gL (z8z (gL (gLst (gCons (gC (.int 0)) gNil))) (gSl (gV 5) (gOS (gV 7)) gON))) gNil)))))
 (gIfS (gAnd (gT (gBin dEq (gBin dMod (gBin dIx (gV 0) (gV 6)) (gC (.int 4))) (gC (.int 3)))) (gAnd (gT (gBin dLt (gV 8) (gC (.int 4)))) (gT (gBin dGt (gV 3) (gC (.int 0)))))) (gSt (z4r 4 (z8z (gSl (gV 4) gON (gOS (gV 7))) (gL (gLst (gCons (gTup (gCons (gC (.str "again")) (gCons (z0i c_o (gCons (gBin dIx (gV 0) (gBin dAdd (gV 6) (gC (.int 1)))) gNil)) (gCons (z0i z2o (gCons (gSl (gV 4) (gOS (gV 7)) gON) gNil)) gNil)))) gNil)))))
 (gSt (z4r 5 (z8z (gSl (gV 5) gON (gOS (gV 7))) (gL (gLst (gCons (gV 8) gNil)))))
 (gSet 3 (gNL (gBin dSub (gV 3) (gC (.int 1))))))) (gSt (gApp 4 (gNL (z0i c_v (gCons (gBin dDiv (gBin dIx (gV 0) (gV 6)) (gC (.int 4))) (gCons (gBin dIx (gV 0) (gBin dAdd (gV 6) (gC (.int 1)))) (gCons (gV 1) (gCons (gV 2) gNil)))))))
 (gApp 5 (gNL (gC (.int 0)))))))))
 (gRet (z0i z2o (gCons (gV 4) gNil))))))
noncomputable def c_n:List D->R D:=fnC 4 9 g_n
end
noncomputable section
noncomputable def g_B:G->R Fl :=
 (gSt (z4r 3 (gLst gNil))
 (gSt (gSet 4 (gNL (gV 1)))
 (gSt (gFor 5 (z5n (y7a (gV 2)))
 (gSt (gApp 3 (gNL (gV 4)))
 (gSet 4 (gNL (z0i c_I (gCons (gV 0) (gCons (gV 4) (gCons (gV 4) gNil))))))))
 (y0b 3))))
noncomputable def c_B:List D->R (List D):=fnF 3 6 g_B
noncomputable def g_u:G->R Fl :=
 (z7y (y5u (y6z (gV 0)) (y1b (gT (gBin dEq (gBin dMod (gBin dShr (gV 3) (gV 0)) (gC (.int 2))) (gC (.int 1)))) (gNL (gV 1)))))
noncomputable def c_u:List D->R (List D):=fnF 2 2 g_u
noncomputable def g_D:G->R Fl :=
 (gSt (gSet 3 (gNL (z0i c_K (gCons (z0i dLen (gCons (gV 1) gNil)) gNil))))
 (gSt (gFor 4 (gSeq (gL (z5o c_u (gCons (gL (z5o c_B (gCons (gV 0) (gCons (gV 1) (gCons (gV 2) gNil))))) (gCons (gV 2) gNil)))))
 (gSet 3 (gNL (z0i c_I (gCons (gV 0) (gCons (gV 3) (gCons (gV 4) gNil)))))))
 (gRet (gV 3))))
noncomputable def c_D:List D->R D:=fnC 3 5 g_D
noncomputable def g_w(rec_w:List D->R D)(rec_b:List D->R D):G->R Fl :=
 (gSt (gSet 3 (gNL (z0i c_K (gCons (gV 1) gNil))))
 (gSt (gFor 4 (gSeq (gVr 2))
 (gSet 3 (gNL (z0i c_I (gCons (gV 0) (gCons (gV 3) (gCons (z0i rec_b (gCons (gV 0) (gCons (gV 1) (gCons (gV 4) gNil)))) gNil)))))))
 (gRet (gV 3))))
noncomputable def g_b(rec_w:List D->R D)(rec_b:List D->R D):G->R Fl :=
 (gSt (gIfS (gT (gBin dEq (gBin dIx (gV 2) (gC (.int 0))) (gC (.str "set")))) (gRet (z0i c_y (gCons (gV 1) (gCons (gBin dIx (gV 2) (gC (.int 1))) (gCons (gBin dIx (gV 2) (gC (.int 2))) gNil))))) z2l)
 (gRet (z0i c_D (gCons (gV 0) (gCons (z0i rec_w (gCons (gV 0) (gCons (gV 1) (gCons (gBin dIx (gV 2) (gC (.int 2))) gNil)))) (gCons (gBin dIx (gV 2) (gC (.int 1))) gNil))))))
mutual
noncomputable def c_w:Nat->List D->R D
 | 0=>fun _=>.no
 | n+1=>fnC 3 5 (g_w (c_w n) (c_b n))
noncomputable def c_b:Nat->List D->R D
 | 0=>fun _=>.no
 | n+1=>fnC 3 3 (g_b (c_w n) (c_b n))
end
end
end L3
namespace L3
open PySem
local macro_rules | `(tactic| walk_at "evs") => wkL " L3.z9l L3.z5u L3.z4u L3.s_on L3.z5c L3.z6v L3.z6w L3.z6x L3.z3c L3.z3d L3.z6y L3.z1f L3.z8a L3.dInt L3.y7a L3.y9w"
inductive Item where
 | set (x:Int) (f:List Int)
 | again (n:Int) (its:List Item)
mutual
noncomputable def Item.d:Item->D
 | .set x f=>.tup [.str "set",.int x,rowD f]
 | .again n its=>.tup [.str "again",.int n,.tup (Item.ds its)]
noncomputable def Item.ds:List Item->List D
 | []=>[]
 | a::r=>a.d::Item.ds r
end
theorem Item.ds_map:∀its:List Item,Item.ds its=its.map Item.d
 | []=>rfl
 | a::r=>by rw[Item.ds,Item.ds_map r];rfl
mutual
noncomputable def Item.deep:Item->Nat
 | .set _ _=>0
 | .again _ its=>1+Item.deeps its
noncomputable def Item.deeps:List Item->Nat
 | []=>0
 | a::r=>max a.deep (Item.deeps r)
end
mutual
noncomputable def Item.many:Item->Nat
 | .set _ _=>1
 | .again _ its=>1+Item.manys its
noncomputable def Item.manys:List Item->Nat
 | []=>0
 | a::r=>a.many+Item.manys r
end
mutual
noncomputable def Item.ok(P many:Int):Item->Prop
 | .set x f=>0<=x/\x<many/\(f.length:Int)=many+1/\onW P f
 | .again n its=>0<=n/\n<=10^30/\Item.oks P many its
noncomputable def Item.oks(P many:Int):List Item->Prop
 | []=>True
 | a::r=>a.ok P many/\Item.oks P many r
end
theorem Item.oks_iff{P many:Int}:∀{its:List Item},Item.oks P many its↔∀a∈its,a.ok P many
 | []=>by simp[Item.oks]
 | a::r=>by simp[Item.oks,Item.oks_iff (its:=r)]
theorem Item.deeps_le{k:Nat}:∀{its:List Item},Item.deeps its<=k↔∀a∈its,a.deep<=k
 | []=>by simp[Item.deeps]
 | a::r=>by
   have:=Item.deeps_le (k:=k) (its:=r)
   simp only[Item.deeps,List.mem_cons,forall_eq_or_imp,<-this]
   lia
theorem Item.manys_append:∀{a b:List Item},Item.manys (a++b)=Item.manys a+Item.manys b
 | [],b=>by simp[Item.manys]
 | x::a,b=>by simp[Item.manys,Item.manys_append (a:=a)];lia
theorem Item.many_pos:∀a:Item,0<a.many
 | .set _ _=>by simp[Item.many]
 | .again _ _=>by simp[Item.many];lia
theorem Item.manys_length:∀its:List Item,its.length<=Item.manys its
 | []=>Nat.le_refl _
 | a::r=>by have:=a.many_pos;have:=Item.manys_length r;simp only[Item.manys,List.length_cons];lia
mutual
theorem Item.noL:∀a:Item,a.d.noL=true
 | .set x f=>by
   have:=z1f f
   simp[Item.d,D.noL,D.noLs,this]
 | .again n its=>by
   have:=Item.noLs its
   simp[Item.d,D.noL,D.noLs,this]
theorem Item.noLs:∀its:List Item,D.noLs (Item.ds its)=true
 | []=>rfl
 | a::r=>by
   have h1:=Item.noL a
   have h2:=Item.noLs r
   simp[Item.ds,D.noLs,h1,h2]
end
theorem Item.noLs'(its:List Item):D.noLs (its.map Item.d)=true:=by rw[<-Item.ds_map];exact Item.noLs its
theorem x3f(c:Int):∃n:Int,c_o [.int c] = .ok (.int n)/\0<=n/\n<=10^30:=by
 have hw:c%3=0∨c%3=1∨c%3=2:=by lia
 have t30:(0:Int)<10^30+1:=by decide
 have n3:D.noLs [D.int (c/3%5),D.int (c/3%1000),D.int (c/3%(10^30+1))]=true:=z1t [_,_,_]
 obtain⟨n,e,h1,h2⟩:∃n:Int,atI [D.int (c/3%5),D.int (c/3%1000),D.int (c/3%(10^30+1))] (c%3)=some (.int n)/\0<=n/\n<=10^30:=by
  rcases hw with w | w | w<;>rw[w]
  ·exact⟨_,rfl,by omega,by have:(5:Int)<=10^30:=by decide
                           lia⟩
  ·exact⟨_,rfl,by omega,by have:(1000:Int)<=10^30:=by decide
                           lia⟩
  ·refine⟨_,rfl,Int.emod_nonneg _ (by lia),?_⟩
   have:=Int.emod_lt_of_pos (c/3) t30
   exact Int.lt_add_one_iff.mp this
 refine⟨n,z1l rfl (z1z ?_),h1,h2⟩
 walk_at "evs"
 simp only[e]
theorem x3a{f:List Int}{x:Nat}{v P:Int}(hx:x<f.length)(hf:onW P f)(h0:0<=v)(hv:v<P):∃g:List Int,f.take x++[v]++f.drop (x+1)=g/\g.length=f.length/\onW P g/\g[x]? = some v:=by
 refine⟨_,rfl,?_,fun n hn=>?_,?_⟩
 ·simp only[List.length_append,List.length_take,List.length_drop,List.length_cons,List.length_nil];lia
 ·simp only[List.mem_append,List.mem_singleton] at hn
  rcases hn with (h | h) | h
  ·exact hf n (List.mem_of_mem_take h)
  ·rw[h];exact⟨h0,hv⟩
  ·exact hf n (List.mem_of_mem_drop h)
 ·rw[List.append_assoc,List.getElem?_append_right (by rw[List.length_take];lia),List.length_take,Nat.min_eq_left (by lia),Nat.sub_self];rfl
theorem x6y{c m P many:Int}(p1:3<=P)(p2:P<=9973)(m1:1<=many)(m2:many<=3):∃(x:Int) (f:List Int),c_v [.int c,.int m,.int P,.int many] = .ok (Item.set x f).d/\(Item.set x f).ok P many:=by
 have hl:=z7g P (many+1).toNat m
 have ho:=y1c (P:=P) (by lia) (many+1).toNat m
 have hx0:=z3u (w:=c) (P:=many) (by lia)
 have hx1:=z3v (w:=c) (P:=many) (by lia)
 generalize hf:z5k P (many+1).toNat m=f at hl ho
 obtain⟨x,ex⟩:∃x:Nat,c%many=(x:Int):=⟨(c%many).toNat,by lia⟩
 have hx:x<f.length:=by lia
 have start:∀u r,u [.ro (.int c),.ro (.int m),.ro (.int P),.ro (.int many),.ro (.int x),.ro (rowD f)]=r->gSt (gSet 4 (gNL (gBin dMod (gV 0) (gV 3)))) (gSt (gSet 5 (gNL (z0i c_i (gCons (gV 1) (gCons (gV 2) (gCons (gBin dAdd (gV 3) (gC (.int 1))) gNil)))))) u) [.ro (.int c),.ro (.int m),.ro (.int P),.ro (.int many),.no,.no]=r:=fun u r h=>by
  refine z1e (d:=.int x) (by walk_at "evs";rw[ex]) (z1e (d:=rowD f) (by walk_at "evs";rw[hf];rfl) h)
 have at0:atI (f.map D.int) (x:Int)=some (.int (f[x]'hx)):=by
  rw[y3x (by lia),List.getElem?_map,Int.toNat_natCast,List.getElem?_eq_getElem hx];rfl
 by_cases hz:(f[x]'hx==0&&decide (0<c/3%6))=true
 ·have hv0:=z3u (w:=c/18) (P:=P-1) (by lia)
  have hv1:=z3v (w:=c/18) (P:=P-1) (by lia)
  obtain⟨g,eg,gl,go,_⟩:=x3a (v:=1+c/18%(P-1)) hx ho (by lia) (by lia)
  rw[Bool.and_eq_true] at hz
  refine⟨x,g,z1l rfl ?_,by simp only[Item.ok];exact⟨by lia,by lia,by lia,go⟩⟩
  delta g_v
  refine start _ _ (x6w (Γ':=[.ro (.int c),.ro (.int m),.ro (.int P),.ro (.int many),.ro (.int x),.ro (rowD g)]) ?_ ?_ ?_)
  ·walk_at "evs"
   simp only[rowD,dIx,at0]
   walk_at "evs"
   simp only[hz.1,hz.2]
   walk_at "evs"
  ·refine(y1t (d:=rowD g) ?_).trans rfl
   have ex1:(x:Int)+1=((x+1:Nat):Int):=rfl
   have hlen:f.length<=4:=by lia
   walk_at "evs"
   simp only[rowD,dCut,R.bind_ok]
   rw[ex1,z5x,z4g,<-List.map_take,<-List.map_drop]
   have lt:(f.take x).length<=4:=by rw[List.length_take];lia
   have ld:(f.drop (x+1)).length<=4:=by rw[List.length_drop];lia
   have e2:(f.take x).map D.int++(D.int (1+c/18%(P-1))::(f.drop (x+1)).map D.int)=g.map D.int:=by rw[<-eg];simp
   have n2:=z3q g
   walk_at "evs"
   rw[e2]
   walk_at "evs"
  ·exact z1z (by walk_at "evs";rfl)
 ·refine⟨x,f,z1l rfl ?_,by simp only[Item.ok];exact⟨by lia,by lia,by lia,ho⟩⟩
  delta g_v
  refine start _ _ (z1q ?_ (z1z (by walk_at "evs";rfl)))
  walk_at "evs"
  simp only[rowD,dIx,at0]
  walk_at "evs"
  cases q:(f[x]'hx==0) with
  | false=>simp
  | true =>
    rw[q,Bool.true_and] at hz
    simp[hz]
noncomputable def z2v(its:List Item):List Int:=its.map fun a=>(a.deep:Int)
theorem y7d(its:List Item):maxI (0::z2v its)=(Item.deeps its:Int):=by
 refine Eq.symm (y3e ?_ ?_)
 ·induction its with
  | nil=>simp[Item.deeps]
  | cons a r ih =>
    simp only[Item.deeps,z2v,List.map_cons,List.mem_cons]
    by_cases h:Item.deeps r<=a.deep
    ·rw[Nat.max_eq_left h];exact .inr (.inl rfl)
    ·rw[Nat.max_eq_right (by lia)]
     rcases List.mem_cons.mp ih with e | e
     ·exact .inl e
     ·exact .inr (.inr e)
 ·intro b hb
  rcases List.mem_cons.mp hb with rfl | hb
  ·lia
  ·obtain⟨a,ha,rfl⟩:=List.mem_map.mp hb
   have:=Item.deeps_le.mp (Nat.le_refl (Item.deeps its)) a ha
   lia
theorem forI{gb:G->R Fl}{i:Nat}{ds:List D}{Γ:G}(I:Nat->G->Prop)(h0:I 0 Γ)(hq:∀(j:Nat) (d:D) (Γ:G),ds[j]? = some d->I j Γ->Ends (gb (Γ.set i (.ro d))) (I (j+1))):∃Γ',z3n gb i ds Γ = .ok (.nx Γ')/\I ds.length Γ':=by
 obtain⟨Γ',e,h'⟩:=z7z I ds 0 Γ h0 fun j d Γ hd hI=>by rw[Nat.zero_add] at hI ⊢;exact hq j d Γ hd hI
 rw[Nat.zero_add] at h'
 exact⟨Γ',e,h'⟩
theorem x4w{gs:G->R (List D)}{gb u:G->R Fl}{i:Nat}{ds:List D}{Γ:G}(T:R Fl->Prop)(I:Nat->G->Prop)(hi:gs Γ = .ok ds)(h0:I 0 Γ)(hq:∀(j:Nat) (d:D) (Γ:G),ds[j]? = some d->I j Γ->Ends (gb (Γ.set i (.ro d))) (I (j+1)))(h:∀Γ',I ds.length Γ'->T (u Γ')):T (gSt (gFor i gs gb) u Γ):=by
 obtain⟨Γ',e,h'⟩:=forI I h0 hq
 rw[y5z hi e rfl];exact h Γ' h'
theorem x0t{cs:List Int}{P many ag:Int}(p1:3<=P)(p2:P<=9973)(m1:1<=many)(m2:many<=3)(hcs:cs.length<=63) :
 ∃its:List Item,c_n [.lst (cs.map D.int),.int P,.int many,.int ag] = .ok (.tup (its.map Item.d))/\Item.oks P many its/\Item.deeps its<=3/\Item.manys its<=30/\2*Item.manys its<=cs.length:=by
 suffices h:∃its:List Item,g_n [.ro (.lst (cs.map D.int)),.ro (.int P),.ro (.int many),.ro (.int ag),.no,.no,.no,.no,.no] = .ok (.rt (.tup (its.map Item.d)))/\Item.oks P many its/\Item.deeps its<=3/\Item.manys its<=30/\2*Item.manys its<=cs.length by
  obtain⟨its,e,h'⟩:=h
  exact⟨its,z1l rfl e,h'⟩
 delta g_n
 rw[z6s (ds:=[]) (by walk_at "evs") rfl,z6s (ds:=[]) (by walk_at "evs") rfl]
 let I:Nat->G->Prop:=fun j Γ=>∃(its:List Item) (a:Int) (x6 x7 x8:En),Γ=[.ro (.lst (cs.map D.int)),.ro (.int P),.ro (.int many),.ro (.int a),.own (its.map Item.d),.own ((z2v its).map D.int),x6,x7,x8]/\Item.oks P many its/\Item.deeps its<=3/\Item.manys its<=j
 obtain⟨n,hn,hn2,en⟩:∃n:Nat,n<=30/\2*n<=cs.length/\z7o 0 ((if (60:Int)<cs.length then 60 else (cs.length:Int))-1) 2=n:=by
  refine⟨_,?_,?_,rfl⟩<;>unfold z7o<;>split<;>lia
 have hsl:(z8f 0 2 n).length=n:=by unfold z8f;simp
 refine x4w (ds:=z8f 0 2 n) (fun r=>∃its:List Item,r = .ok (.rt (.tup (its.map Item.d)))/\Item.oks P many its/\Item.deeps its<=3/\Item.manys its<=30/\2*Item.manys its<=cs.length) I ?_ ⟨[],ag,.no,.no,.no,rfl,True.intro,Nat.zero_le _,Nat.zero_le _⟩ ?turn ?_
 ·walk_at "evs"
  have r1:(-1073741824:Int)<=(if (60:Int)<cs.length then 60 else (cs.length:Int))-1/\(if (60:Int)<cs.length then 60 else (cs.length:Int))-1<1073741824:=by split<;>lia
  walk_at "evs"
  rw[en]
 case turn =>
  clear en hsl
  rintro j d Γ hd ⟨its,a,x6,x7,x8,rfl,h1,h2,h3⟩
  obtain⟨hj,rfl⟩:=y7z hd
  have hil:=Item.manys_length its
  have e0:(0:Int)+2*(j:Int)=((2*j:Nat):Int):=by lia
  rw[e0]
  have c0:=y4x (ns:=cs) (k:=((2*j:Nat):Int)) (by lia) (by lia)
  have c1:=y4x (ns:=cs) (k:=((2*j:Nat):Int)+1) (by lia) (by lia)
  generalize y0t cs ((2*j:Nat):Int)=y at c0
  generalize y0t cs (((2*j:Nat):Int)+1)=z at c1
  clear e0
  obtain⟨w,hw,ew⟩:∃w:Nat,w<=its.length/\(its.length:Int)-(if (its.length:Int)<y/4%4 then (its.length:Int) else y/4%4)=w:=by
   refine⟨((its.length:Int)-(if (its.length:Int)<y/4%4 then (its.length:Int) else y/4%4)).toNat,?_,?_⟩<;>split<;>lia
  have hd2:(z2v its).drop w=z2v (its.drop w):=by unfold z2v;rw[List.map_drop]
  have n0:D.noLs [D.int 0]=true:=z1t [0]
  have nd:D.noLs (D.int 0::(z2v (its.drop w)).map D.int)=true:=z1t (0::z2v (its.drop w))
  have ll:(z2v (its.drop w)).length<=30:=by unfold z2v;rw[List.length_map,List.length_drop];lia
  rw[z1e (d:=.int w) (by walk_at "evs";simp only[dIx,c0];walk_at "evs";rw[ew]) rfl]
  rw[z1e (d:=.int (1+(Item.deeps (its.drop w):Int))) (by
   walk_at "evs"
   rw[z4g,<-List.map_drop,hd2]
   walk_at "evs"
   rw[z1w ⟨by lia,nd⟩]
   walk_at "evs"
   rw[y7d]) rfl]
  generalize hk:Item.deeps (its.drop w)=lv
  by_cases hc:y%4=3/\lv<3/\0<a
  ·obtain⟨hc1,hc2,hc3⟩:=hc
   have b1:(y%4==3)=true:=by simpa using hc1
   have b2:decide (1+(lv:Int)<4)=true:=decide_eq_true (by lia)
   have b3:decide (0<a)=true:=decide_eq_true hc3
   obtain⟨m,em,m3,m4⟩:=x3f z
   have d4:(Item.again m (its.drop w)).d = .tup [.str "again",.int m,.tup ((its.drop w).map Item.d)]:=by rw[Item.d,Item.ds_map]
   have q4:D.noLs [(Item.again m (its.drop w)).d]=true:=by have:=Item.noL (Item.again m (its.drop w));simp only[D.noLs,this,Bool.and_true]
   have q5:D.noLs ((its.take w).map Item.d++[(Item.again m (its.drop w)).d])=true:=by have:=Item.noLs' (its.take w++[Item.again m (its.drop w)]);rwa [List.map_append] at this
   have l4:((its.take w).map Item.d).length<=30:=by rw[List.length_map,List.length_take];lia
   refine .nx (Γ:=[.ro (.lst (cs.map D.int)),.ro (.int P),.ro (.int many),.ro (.int (a-1)),.own ((its.take w++[Item.again m (its.drop w)]).map Item.d),.own ((z2v (its.take w++[Item.again m (its.drop w)])).map D.int),.ro (.int ((2*j:Nat):Int)),.ro (.int w),.ro (.int (1+(lv:Int)))]) (z5m ?_ (z6s (ds:=(its.take w++[Item.again m (its.drop w)]).map Item.d) ?_ (z6s (ds:=(z2v (its.take w++[Item.again m (its.drop w)])).map D.int) ?_ ((y1t (d:=.int (a-1)) ?_).trans rfl)))) ⟨_,_,_,_,_,rfl,?_,?_,?_⟩
   ·walk_at "evs"
    simp only[dIx,c0]
    walk_at "evs"
    simp only[b1,b2,b3]
    walk_at "evs"
   ·walk_at "evs"
    simp only[dIx,c1,R.bind_ok,em]
    walk_at "evs"
    rw[z4g,z5x,<-List.map_drop,<-List.map_take,<-d4,z1w q4]
    walk_at "evs"
    rw[z1w ⟨by rw[List.length_map] at l4;lia,q5⟩,List.map_append]
    rfl
   ·have n1:D.noLs [D.int (1+(lv:Int))]=true:=z1t [_]
    have e5:(z2v (its.take w++[Item.again m (its.drop w)])).map D.int=((z2v its).take w).map D.int++[D.int (1+(lv:Int))]:=by
     unfold z2v
     rw[List.map_append,List.map_append,List.map_take]
     simp only[List.map_cons,List.map_nil,Item.deep,hk]
     push_cast
     rfl
    have n5:=z1t (z2v (its.take w++[Item.again m (its.drop w)]))
    have l5:((z2v its).take w).length<=30:=by unfold z2v;rw[List.length_take,List.length_map];lia
    rw[e5] at n5 ⊢
    walk_at "evs"
    rw[z5x,<-List.map_take,z1w ⟨by rw[List.length_map];lia,n5⟩]
   ·walk_at "evs"
   ·rw[Item.oks_iff] at h1 ⊢
    intro b hb
    rcases List.mem_append.mp hb with hb | hb
    ·exact h1 b (List.mem_of_mem_take hb)
    ·rw[List.mem_singleton.mp hb,Item.ok]
     exact⟨m3,m4,Item.oks_iff.mpr fun b hb=>h1 b (List.mem_of_mem_drop hb)⟩
   ·rw[Item.deeps_le] at h2 ⊢
    intro b hb
    rcases List.mem_append.mp hb with hb | hb
    ·exact h2 b (List.mem_of_mem_take hb)
    ·rw[List.mem_singleton.mp hb,Item.deep,hk];lia
   ·have e1:Item.manys its=Item.manys (its.take w)+Item.manys (its.drop w):=by rw[<-Item.manys_append,List.take_append_drop]
    rw[Item.manys_append]
    simp only[Item.manys,Item.many]
    lia
  ·obtain⟨x,f,es,hx⟩:=x6y (c:=y/4) (m:=z) p1 p2 m1 m2
   have nx:=Item.noL (Item.set x f)
   have l6:(its.map Item.d).length<=30:=by rw[List.length_map];lia
   have l7:((z2v its).map D.int).length<=30:=by unfold z2v;rw[List.length_map,List.length_map];lia
   refine .nx (Γ:=[.ro (.lst (cs.map D.int)),.ro (.int P),.ro (.int many),.ro (.int a),.own ((its++[Item.set x f]).map Item.d),.own ((z2v (its++[Item.set x f])).map D.int),.ro (.int ((2*j:Nat):Int)),.ro (.int w),.ro (.int (1+(lv:Int)))]) (x6g ?_ (z8c (Γ':=[.ro (.lst (cs.map D.int)),.ro (.int P),.ro (.int many),.ro (.int a),.own ((its++[Item.set x f]).map Item.d),.own ((z2v its).map D.int),.ro (.int ((2*j:Nat):Int)),.ro (.int w),.ro (.int (1+(lv:Int)))]) ?_ ?_)) ⟨_,_,_,_,_,rfl,?_,?_,?_⟩
   ·walk_at "evs"
    simp only[dIx,c0]
    walk_at "evs"
    cases b1:(y%4==3) with
    | false=>rfl
    | true =>
      simp only[if_true]
      have:¬(1+(lv:Int)<4/\0<a):=fun z=>hc ⟨by simpa using b1,by lia,z.2⟩
      by_cases b2:1+(lv:Int)<4
      ·have b3:decide (0<a)=false:=decide_eq_false fun z=>this ⟨b2,z⟩
       simp only[decide_eq_true b2,b3,if_true]
      ·simp only[decide_eq_false b2]
       rfl
   ·rw[List.map_append]
    walk_at "evs"
    simp only[dIx,c0,c1]
    walk_at "evs"
    simp only[es]
    walk_at "evs"
   ·unfold z2v
    rw[List.map_append,List.map_append]
    simp only[List.map_cons,List.map_nil,Item.deep]
    walk_at "evs"
    simp
   ·rw[Item.oks_iff] at h1 ⊢
    intro b hb
    rcases List.mem_append.mp hb with hb | hb
    ·exact h1 b hb
    ·rw[List.mem_singleton.mp hb];exact hx
   ·rw[Item.deeps_le] at h2 ⊢
    intro b hb
    rcases List.mem_append.mp hb with hb | hb
    ·exact h2 b hb
    ·rw[List.mem_singleton.mp hb,Item.deep];lia
   ·rw[Item.manys_append]
    simp only[Item.manys,Item.many]
    lia
 ·rintro Γ ⟨its,a,x6,x7,x8,rfl,h1,h2,h3⟩
  rw[hsl] at h3
  exact⟨its,z1z (by walk_at "evs"),h1,h2,by lia,by lia⟩
theorem x3e{cs:List Int}{P many ag:Int}(p1:3<=P)(p2:P<=9973)(m1:1<=many)(m2:many<=3)(hcs:cs.length<=63) :
 ∃its:List Item,c_n [.lst (cs.map D.int),.int P,.int many,.int ag] = .ok (.tup (its.map Item.d))/\Item.oks P many its/\Item.deeps its<=3/\Item.manys its<=30 :=
 let ⟨its,e,h1,h2,h3,_⟩:=x0t (ag:=ag) p1 p2 m1 m2 hcs;⟨its,e,h1,h2,h3⟩
theorem x2a:((Str.ofString "set")==(Str.ofString "again"))=false:=by decide +kernel
theorem x2b:((Str.ofString "again")==(Str.ofString "set"))=false:=by decide +kernel
theorem y9c(n:Nat):D.lay n (.str (Str.ofString "set"))=true:=by rw[y4q];decide +kernel
theorem y3i(n:Nat):D.lay n (.str (Str.ofString "again"))=true:=by rw[y4q];decide +kernel
theorem Item.many_mem:∀{its:List Item} {a:Item},a∈its->a.many<=Item.manys its
 | b::r,a,h=>by
   rcases List.mem_cons.mp h with rfl | h
   ·simp only[Item.manys];lia
   ·have:=Item.many_mem h
    simp only[Item.manys];lia
noncomputable def powZ(P:Int)(n:Nat)(t:List (List Int)):Nat->List (List Int)
 | 0=>z2d n
 | k+1=>z1m P (powZ P n t k) t
section
variable {P:Int}{n:Nat}{t:List (List Int)}
theorem z4k(hp:1<P)(ht:z2e P n t):∀k,z2e P n (powZ P n t k)
 | 0=>z5d hp n
 | k+1=>z2a (by lia) (z4k hp ht k).1 ht.1
theorem y5l(hp:1<P)(ht:z2e P n t):powZ P n t 1=t:=idle_I hp ht
theorem z9h(hp:1<P)(ht:z2e P n t)(a:Nat):∀b,powZ P n t (a+b)=z1m P (powZ P n t a) (powZ P n t b)
 | 0=>(then_K hp (z4k hp ht a)).symm
 | b+1=>by
   show z1m P (powZ P n t (a+b)) t=z1m P (powZ P n t a) (z1m P (powZ P n t b) t)
   rw[z9h hp ht a b,z2y (by lia) (z4k hp ht a).1 (z4k hp ht b).1 ht.1]
theorem y6q(hp:1<P)(ht:z2e P n t)(k:Nat):z1m P (powZ P n t k) (powZ P n t k)=powZ P n t (2*k):=by
 rw[<-z9h hp ht,Nat.two_mul]
end
noncomputable def figZ(n:Nat):Nat:=if n=0 then 0 else n.log2+1
theorem x2r{n j:Nat}:j<figZ n↔2^j<=n:=by
 unfold figZ
 by_cases h:n=0
 ·rw[if_pos h,h]
  have:0<2^j:=Nat.two_pow_pos j
  lia
 ·rw[if_neg h,Nat.lt_succ_iff,Nat.le_log2 h]
theorem x2s{n k:Nat}(h:n<2^k):figZ n<=k:=by
 rcases Nat.lt_or_ge k (figZ n) with z | z
 ·have:=x2r.mp z
  lia
 ·exact z
noncomputable def z6z(P:Int)(m:Nat)(t:List (List Int))(n:Nat):List (List (List Int)):=(List.range n).map fun j=>powZ P m t (2^j)
theorem y6l(P:Int)(m:Nat)(t:List (List Int))(n:Nat):z6z P m t (n+1)=z6z P m t n++[powZ P m t (2^n)]:=by
 unfold z6z;rw[List.range_succ,List.map_append];rfl
theorem x1z(n:Nat):x0f (n:Int)=figZ n:=by
 unfold x0f figZ
 by_cases h:n=0
 ·subst h;rfl
 ·rw[if_neg h,Int.natAbs_natCast,if_neg]
  intro z
  have:(n:Int)=0:=by simpa using z
  lia
theorem s_B{P:Int}{m n:Nat}{t:List (List Int)}(p1:3<=P)(p2:P<=9973)(hm:m<=3)(ht:z2e P m t)(hn:n<2^150):c_B [.int P,tabD t,.int n] = .ok ((z6z P m t (figZ n)).map tabD):=by
 refine y5w rfl ?_
 delta g_B
 have hp:1<P:=by lia
 have hF:=x2s hn
 refine z6s (ds:=[]) (by walk_at "evs") ?_
 refine z1e (d:=tabD (powZ P m t (2^0))) (by rw[Nat.pow_zero,y5l hp ht];walk_at "evs") ?_
 refine y4y (ds:=z4b 0 (figZ n)) (fun j Γ=>∃x5,Γ=[.ro (.int P),.ro (tabD t),.ro (.int n),.own ((z6z P m t j).map tabD),.ro (tabD (powZ P m t (2^j))),x5]) ?_ ⟨_,rfl⟩ ?_ ?_
 ·walk_at "evs"
  rw[x1z]
  walk_at "evs"
 ·rintro j d Γ hd ⟨x5,rfl⟩
  obtain⟨hj,rfl⟩:=y4g hd
  have hl:((z6z P m t j).map tabD).length<=200:=by unfold z6z;rw[List.length_map,List.length_map,List.length_range];lia
  have eth:=s_I (P:=P) (n:=m) (by lia) (by lia) (z4k hp ht (2^j)) (z4k hp ht (2^j)) (by lia)
  rw[y6q hp ht] at eth
  refine .nx (z8c (x7p (d:=tabD (powZ P m t (2^j))) rfl (by walk_at "evs") (by lia)) ((y1t (d:=tabD (powZ P m t (2^(j+1)))) ?_).trans ?_)) ⟨.ro (.int (0+(j:Int))),rfl⟩
  ·walk_at "evs"
   simp only[tabD,eth,Nat.pow_succ,Nat.mul_comm _ 2]
   have:=z6h (powZ P m t (2*2^j))
   walk_at "evs"
  ·rw[y6l,List.map_append]
   rfl
 ·rintro Γ ⟨x5,rfl⟩
  rw[z0w]
  walk_at "evs"
theorem x1h(n j:Nat):n%2^(j+1)=n%2^j+(n/2^j%2)*2^j:=by
 rw[Nat.pow_succ,Nat.mod_mul,Nat.mul_comm (2^j)]
theorem x4m(n:Nat):n%2^figZ n=n:=Nat.mod_eq_of_lt (by
 rcases Nat.lt_or_ge n (2^figZ n) with z | z
 ·exact z
 ·exact absurd (x2r.mpr z) (Nat.lt_irrefl _))
noncomputable def z9t(n j:Nat):Bool:=n/2^j%2==1
noncomputable def twos(n k:Nat):List Nat:=(List.range k).filter (z9t n)
noncomputable def z5l:List Nat->Nat
 | []=>0
 | j::js=>2^j+z5l js
theorem z5s:∀(a b:List Nat),z5l (a++b)=z5l a+z5l b
 | [],b=>(Nat.zero_add _).symm
 | j::a,b=>by rw[List.cons_append,z5l,z5l,z5s a b,Nat.add_assoc]
theorem y5e(n:Nat):∀k,z5l (twos n k)=n%2^k
 | 0=>by rw[Nat.pow_zero,Nat.mod_one];rfl
 | k+1=>by
   have h:twos n (k+1)=twos n k++(if z9t n k then [k] else []):=by
    unfold twos
    rw[List.range_succ,List.filter_append]
    cases q:z9t n k<;>simp[q]
   rw[h,z5s,y5e n k,x1h]
   have w:n/2^k%2=0∨n/2^k%2=1:=by lia
   rcases w with w | w
   ·have:z9t n k=false:=by unfold z9t;rw[w];rfl
    rw[this,w,Nat.zero_mul];rfl
   ·have:z9t n k=true:=by unfold z9t;rw[w];rfl
    rw[this,w,Nat.one_mul];rfl
noncomputable def y4i(p:Nat->Bool):Nat->List D->List D
 | _,[]=>[]
 | k,x::xs=>if p k=true then x::y4i p (k+1) xs else y4i p (k+1) xs
theorem y0j{f:D->D->G->R (Option D)}{Γ:G}(p:Nat->Bool):∀(xs:List D) (k:Nat) (acc:List D),(∀j x,xs[j]? = some x->f (.int ((k+j:Nat):Int)) x Γ = .ok (if p (k+j)=true then some x else none)) ->
 z1g (z8w f Γ) (z4l k xs) acc = .ok (acc++y4i p k xs)
 | [],k,acc,_=>by rw[z4l,y4i,List.append_nil];rfl
 | x::xs,k,acc,h=>by
   have h0:=h 0 x rfl
   have ih:=fun acc=>y0j p xs (k+1) acc (fun j y hy=>by
    have:=h (j+1) y hy
    rw[show k+1+j=k+(j+1) by lia];exact this)
   rw[z4l,z7n,show z8w f Γ (.tup [.int (k:Int),x])=f (.int (k:Int)) x Γ from rfl,show f (.int (k:Int)) x Γ=_ from h0]
   rw[Nat.add_zero,y4i]
   by_cases q:p k=true
   ·rw[if_pos q,if_pos q]
    show z1g (z8w f Γ) (z4l (k+1) xs) (acc++[x])=_
    rw[ih,List.append_assoc];rfl
   ·rw[if_neg q,if_neg q]
    exact ih acc
theorem z9r(p:Nat->Bool)(F:Nat->D):∀(l s:Nat),y4i p s ((List.range' s l).map F)=((List.range' s l).filter p).map F
 | 0,s=>rfl
 | l+1,s=>by
   rw[List.range'_succ,List.map_cons,y4i,z9r p F l (s+1),List.filter_cons]
   by_cases q:p s=true
   ·rw[if_pos q,if_pos q,List.map_cons]
   ·rw[if_neg q,if_neg q]
theorem y8g(P:Int)(m:Nat)(t:List (List Int))(k:Nat):(z6z P m t k).map tabD=(List.range k).map fun j=>tabD (powZ P m t (2^j)):=by
 unfold z6z;rw[List.map_map];rfl
theorem z8t:∀(k:Nat) (xs:List D),(z4l k xs).length=xs.length
 | _,[]=>rfl
 | k,a::xs=>by rw[z4l,List.length_cons,z8t (k+1) xs,List.length_cons]
theorem s_u{P:Int}{m n k:Nat}{t:List (List Int)}(hk:k<=1000):c_u [.lst ((z6z P m t k).map tabD),.int n] = .ok ((twos n k).map fun j=>tabD (powZ P m t (2^j))):=by
 refine y5w rfl (y9d ?_)
 have nt:=y2y (z6z P m t k)
 have hl:((z6z P m t k).map tabD).length=k:=by unfold z6z;simp
 show(y6z (gV 0) _>>=fun items=>R.guard _ _)=_
 have e1:y6z (gV 0) (ini 2 [.lst ((z6z P m t k).map tabD),.int n]) = .ok (z4l 0 ((z6z P m t k).map tabD)):=by
  show(R.guard _ _:R (List D))=_
  rw[z1w nt]
 rw[e1]
 show R.guard _ _=_
 rw[z1w (by rw[z8t,hl];lia),y0j (z9t n),List.nil_append,y8g,List.range_eq_range',z9r]
 ·unfold twos;rw[List.range_eq_range']
 ·intro j x hx
  have nx:D.noL x=true:=x1g nt (List.mem_of_getElem? hx)
  rw[Nat.zero_add]
  have e2:(n:Int)/2^j%2=((n/2^j%2:Nat):Int):=by
   rw[Int.natCast_emod,Int.natCast_ediv,Int.natCast_pow];rfl
  have e3:((n:Int)/2^j%2==1)=z9t n j:=by
   rw[e2];unfold z9t
   cases q:(n/2^j%2==1) with
   | true=>rw[beq_iff_eq] at q;rw[q];rfl
   | false =>
     have:n/2^j%2=0:=by
      have h1:n/2^j%2≠1:=by simpa using q
      lia
     rw[this];rfl
  have e4:dShr (.int (n:Int)) (.int ((j:Nat):Int)) = .ok (.int ((n:Int)/2^j)):=by
   show R.guard _ (R.ok (D.int ((n:Int)/2^((j:Nat):Int).toNat)))=_
   rw[z1w ⟨Int.natCast_nonneg n,Int.natCast_nonneg j⟩,Int.toNat_natCast]
  unfold y1b
  walk_at "evs"
  rw[e4]
  walk_at "evs"
  rw[e3]
  cases q:z9t n j with
  | true=>walk_at "evs"
  | false=>rfl
theorem x0n{n k i:Nat}{d:D}{F:Nat->D}(h:((twos n k).map F)[i]? = some d):∃j,(twos n k)[i]? = some j/\d=F j:=by
 rw[List.getElem?_map] at h
 cases q:(twos n k)[i]? with
 | none=>rw[q] at h;cases h
 | some j=>rw[q] at h;injection h with h;exact⟨j,rfl,h.symm⟩
theorem y4e{l:List Nat}{i j:Nat}(h:l[i]? = some j):z5l (l.take (i+1))=z5l (l.take i)+2^j:=by
 rw[List.take_add_one,h,z5s]
 show _+(2^j+0)=_
 rw[Nat.add_zero]
theorem s_D{P:Int}{m n:Nat}{t:List (List Int)}(p1:3<=P)(p2:P<=9973)(hm:m<=3)(ht:z2e P m t)(hn:n<2^150):c_D [.int P,tabD t,.int n] = .ok (tabD (powZ P m t n)):=by
 refine z1l rfl ?_
 delta g_D
 have hp:1<P:=by lia
 have el:=s_B p1 p2 hm ht hn
 have ei:=s_K (n:=m) (by lia)
 have hF:=x2s hn
 have er:=s_u (P:=P) (m:=m) (n:=n) (k:=figZ n) (t:=t) (by lia)
 refine z1e (d:=tabD (powZ P m t 0)) ?_ ?_
 ·have:=z6h (z2d m)
  simp only[tabD,powZ]
  walk_at "evs"
  rw[show(t.length:Int)=(m:Int) by rw[ht.1]]
  simp only[ei]
  walk_at "evs"
 refine y4y (ds:=(twos n (figZ n)).map fun j=>tabD (powZ P m t (2^j))) (fun i Γ=>∃x4,Γ=[.ro (.int P),.ro (tabD t),.ro (.int n),.ro (tabD (powZ P m t (z5l ((twos n (figZ n)).take i)))),x4]) ?_ ⟨_,rfl⟩ ?_ ?_
 ·have nt:=y2y (z6z P m t (figZ n))
  walk_at "evs"
  simp only[el]
  walk_at "evs"
  simp only[er]
  have nt2:D.noLs ((twos n (figZ n)).map fun j=>tabD (powZ P m t (2^j)))=true:=z7v fun j _=>z6h _
  walk_at "evs"
 ·rintro i d Γ hd ⟨x4,rfl⟩
  obtain⟨j,hj,rfl⟩:=x0n hd
  have eth:=s_I (P:=P) (n:=m) (by lia) (by lia) (z4k hp ht (z5l ((twos n (figZ n)).take i))) (z4k hp ht (2^j)) (by lia)
  rw[<-z9h hp ht,<-y4e hj] at eth
  refine .nx (y1t (d:=tabD (powZ P m t (z5l ((twos n (figZ n)).take (i+1))))) ?_) ⟨_,rfl⟩
  walk_at "evs"
  simp only[tabD,eth]
  have:=z6h (powZ P m t (z5l ((twos n (figZ n)).take (i+1))))
  walk_at "evs"
 ·rintro Γ ⟨x4,rfl⟩
  refine z1z ?_
  walk_at "evs"
  rw[show((twos n (figZ n)).take (twos n (figZ n)).length)=twos n (figZ n) from List.take_length,y5e,x4m]
end L3
namespace L3
open PySem
local macro_rules | `(tactic| walk_at "evs") => wkL " L3.z9l L3.z5u L3.z4u L3.s_on L3.z5c L3.z6v L3.z6w L3.z6x L3.z3c L3.z3d L3.z6y L3.z1f L3.z8a L3.dInt L3.y7a L3.y9w L3.Item.d L3.Item.ds_map L3.y9q L3.x2a L3.x2b L3.y9c L3.y3i"
mutual
noncomputable def Item.tab(P:Int)(m:Nat):Item->List (List Int)
 | .set x f=>(z2d m).set x.toNat f
 | .again n its=>powZ P m (Item.tabs P m its) n.toNat
noncomputable def Item.tabs(P:Int)(m:Nat):List Item->List (List Int)
 | []=>z2d m
 | a::r=>z1m P (a.tab P m) (Item.tabs P m r)
end
theorem z3i{P:Int}{m x:Nat}{f:List Int}(hp:1<P)(h:y6m P m f):z2e P m ((z2d m).set x f):=by
 obtain⟨h1,h2⟩:=z5d hp m
 refine⟨by rw[List.length_set];exact h1,fun r hr=>?_⟩
 rcases List.mem_or_eq_of_mem_set hr with z | z
 ·exact h2 r z
 ·rw[z];exact h
mutual
theorem Item.tab_ok{P:Int}{m:Nat}(hp:1<P):∀a:Item,a.ok P m->z2e P m (a.tab P m)
 | .set x f,h=>by
   simp only[Item.ok] at h
   exact z3i hp ⟨h.2.2.2,by lia⟩
 | .again n its,h=>by
   simp only[Item.ok] at h
   exact z4k hp (Item.tabs_ok hp its h.2.2) _
theorem Item.tabs_ok{P:Int}{m:Nat}(hp:1<P):∀its:List Item,Item.oks P m its->z2e P m (Item.tabs P m its)
 | [],_=>z5d hp m
 | a::r,h=>by
   simp only[Item.oks] at h
   exact z2a (by lia) (Item.tab_ok hp a h.1).1 (Item.tabs_ok hp r h.2).1
end
theorem Item.oks_append{P many:Int}:∀{a b:List Item},Item.oks P many (a++b)↔Item.oks P many a/\Item.oks P many b
 | [],b=>by simp[Item.oks]
 | x::a,b=>by simp[Item.oks,Item.oks_append (a:=a),and_assoc]
theorem Item.tabs_append{P:Int}{m:Nat}(hp:1<P):∀{a b:List Item},Item.oks P m a->Item.oks P m b->Item.tabs P m (a++b)=z1m P (Item.tabs P m a) (Item.tabs P m b)
 | [],b,_,hb=>(idle_I hp (Item.tabs_ok hp b hb)).symm
 | x::a,b,ha,hb=>by
   simp only[Item.oks] at ha
   show z1m P (x.tab P m) (Item.tabs P m (a++b))=z1m P (z1m P (x.tab P m) (Item.tabs P m a)) (Item.tabs P m b)
   rw[Item.tabs_append hp ha.2 hb,z2y (by lia) (Item.tab_ok hp x ha.1).1 (Item.tabs_ok hp a ha.2).1 (Item.tabs_ok hp b hb).1]
theorem Item.tabs_one{P:Int}{m:Nat}(hp:1<P){a:Item}(h:a.ok P m):Item.tabs P m [a]=a.tab P m:=then_K hp (Item.tab_ok hp a h)
theorem y9k{its:List Item}{j:Nat}{d:D}(h:(its.map Item.d)[j]? = some d):∃a:Item,its[j]? = some a/\d=a.d/\a∈its:=by
 rw[List.getElem?_map] at h
 cases q:its[j]? with
 | none=>rw[q] at h;cases h
 | some a=>rw[q] at h;cases h;exact⟨a,rfl,rfl,List.mem_of_getElem? q⟩
theorem y7t{α:Type}{l:List α}{j:Nat}{a:α}(h:l[j]? = some a):l.take (j+1)=l.take j++[a]:=by
 rw[List.take_add_one,h];rfl
theorem Item.oks_take{P many:Int}{its:List Item}(h:Item.oks P many its)(j:Nat):Item.oks P many (its.take j):=Item.oks_iff.mpr fun a ha=>Item.oks_iff.mp h a (List.mem_of_mem_take ha)
theorem Item.oks_drop{P many:Int}{its:List Item}(h:Item.oks P many its)(j:Nat):Item.oks P many (its.drop j):=Item.oks_iff.mpr fun a ha=>Item.oks_iff.mp h a (List.mem_of_mem_drop ha)
theorem x7f:(10:Int)^30<2^150:=by decide
theorem x1u{n:Int}(h0:0<=n)(h:n<=10^30):∃k:Nat,n=(k:Int)/\n.toNat=k/\k<2^150:=by
 have:=x7f
 exact⟨n.toNat,by lia,rfl,by lia⟩
theorem s_w{P:Int}{m:Nat}(p1:3<=P)(p2:P<=9973)(hm:m<=3):∀(k:Nat) (its:List Item),2*Item.deeps its+2<=k->Item.oks P m its->c_w k [.int P,.int m,.tup (its.map Item.d)] = .ok (tabD (Item.tabs P m its))
 | 0,_,h,_=>by lia
 | 1,_,h,_=>by lia
 | k+2,its,h,ho=>by
   have hp:1<P:=by lia
   show fnC 3 5 (g_w (c_w (k+1)) (c_b (k+1))) _=_
   refine z1l rfl ?_
   delta g_w
   have hn:=Item.noLs' its
   have ei:=s_K (n:=m) (by lia)
   refine z1e (d:=tabD (Item.tabs P m (its.take 0))) ?_ ?_
   ·have:=z6h (z2d m)
    walk_at "evs"
    simp only[ei]
    walk_at "evs"
    rfl
   refine y4y (ds:=its.map Item.d) (fun j Γ=>∃x4,Γ=[.ro (.int P),.ro (.int m),.ro (.tup (its.map Item.d)),.ro (tabD (Item.tabs P m (its.take j))),x4]) (by walk_at "evs") ⟨_,rfl⟩ ?_ ?_
   ·rintro j d Γ hd ⟨x4,rfl⟩
    obtain⟨a,ea,rfl,ha⟩:=y9k hd
    have oka:=Item.oks_iff.mp ho a ha
    have okt:=Item.oks_take ho j
    have e:c_b (k+1) [.int P,.int m,a.d] = .ok (tabD (a.tab P m)):=by
     show fnC 3 3 (g_b (c_w k) (c_b k)) _=_
     refine z1l rfl ?_
     delta g_b
     cases a with
     | set x f =>
       simp only[Item.ok] at oka
       obtain⟨y,rfl⟩:∃y:Nat,x=(y:Int):=⟨x.toNat,by lia⟩
       have es:=s_y (n:=m) (x:=y) (f:=f) (by lia) (by lia)
       refine z9c (z5m (by walk_at "evs") (z1z ?_))
       walk_at "evs"
       simp only[es]
       rfl
     | again n i =>
       have h1:=Item.deeps_le.mp (Nat.le_refl (Item.deeps its)) _ ha
       simp only[Item.deep] at h1
       simp only[Item.ok] at oka
       obtain⟨y,rfl,ey,hy⟩:=x1u oka.1 oka.2.1
       have ih:=s_w p1 p2 hm k i (by lia) oka.2.2
       have er:=s_D (n:=y) p1 p2 hm (Item.tabs_ok hp i oka.2.2) hy
       refine z1q (by walk_at "evs") (z1z ?_)
       walk_at "evs"
       simp only[ih]
       walk_at "evs"
       simp only[er]
       rfl
    have eth:=s_I (P:=P) (n:=m) (by lia) (by lia) (Item.tabs_ok hp _ okt) (Item.tab_ok hp a oka) (by lia)
    have et:Item.tabs P m (its.take (j+1))=z1m P (Item.tabs P m (its.take j)) (a.tab P m):=by
     rw[y7t ea,Item.tabs_append hp okt (by simp only[Item.oks];exact⟨oka,trivial⟩),Item.tabs_one hp oka]
    refine .nx (y1t (d:=tabD (Item.tabs P m (its.take (j+1)))) ?_) ⟨_,rfl⟩
    have:=z6h (z1m P (Item.tabs P m (its.take j)) (a.tab P m))
    walk_at "evs"
    simp only[e]
    walk_at "evs"
    simp only[tabD,eth,et]
    walk_at "evs"
   ·rintro Γ ⟨x4,rfl⟩
    refine z1z ?_
    walk_at "evs"
    rw[List.take_of_length_le (Nat.le_refl _)]
theorem y0h(ns:List Int)(lo hi:Option Int):cutL (ns.map D.int) lo hi=(cutL ns lo hi).map D.int:=x1s D.int ns lo hi
theorem x1t{α:Type}(xs:List α)(lo hi:Option Int):(cutL xs lo hi).length<=xs.length:=by
 unfold cutL;rw[List.length_take,List.length_drop];lia
theorem z6k(its:List Item):(D.tup (its.map Item.d)).noL=true:=by have:=Item.noLs' its;simpa [D.noL] using this
theorem x1k(c:Int):∃m:Nat,1+c%3=(m:Int)/\1<=m/\m<=3:=⟨(1+c%3).toNat,by lia,by lia,by lia⟩
end L3
namespace L3
open PySem
local macro_rules | `(tactic| walk_at "evs") => wkL " L3.z9l L3.z5u L3.z4u L3.s_on L3.z5c L3.z6v L3.z6w L3.z6x L3.z3c L3.z3d L3.z6y L3.z1f"
theorem x6d{P d:Int}(hp:z3t P=false)(h3:3<=P)(h:P<=9973)(h1:2<=d)(h2:d<P):P%d≠0:=by
 intro e
 have hn:¬∃b:Int,2<=b/\b<100/\b<P/\P%b=0:=fun q=>by rw[(y6y P).mpr q] at hp;cases hp
 by_cases hd:d<100
 ·exact hn ⟨d,h1,hd,h2,e⟩
 ·have e1:P=d*(P/d):=by have:=Int.emod_add_mul_ediv P d;lia
  generalize hq:P/d=q at *
  have q0:0<q:=by
   rcases Int.lt_trichotomy 0 q with z | z | z
   ·exact z
   ·rw[<-z] at e1;simp at e1;lia
   ·have:d*q<0:=Int.mul_neg_of_pos_of_neg (by lia) z
    lia
  have q1:q≠1:=fun z=>by rw[z] at e1;lia
  have q2:q<100:=by
   rcases Int.lt_or_le q 100 with z | z
   ·exact z
   ·have:100*100<=d*q:=Int.mul_le_mul (by lia) z (by lia) (by lia)
    lia
  refine hn ⟨q,by lia,q2,?_,?_⟩
  ·have:2*q<=d*q:=Int.mul_le_mul_of_nonneg_right h1 (by lia)
   lia
  ·rw[e1];exact Int.mul_emod_left d q
theorem x0g{P n0:Int}(hp:z3t P=false)(h3:3<=P)(h:P<=9973)(x1:En):∀(k m:Nat) (Γ:G),m<k ->
 (∃a b:Int,Γ=[.ro (.int P),x1,.ro (.int b),.ro (.int a)]/\1<=b/\b<P/\0<=a/\a<P/\cg P (a*n0) b/\b.toNat=m) ->
 ∃a:Int,whGo (gT (gBin dNe (gV 2) (gC (.int 1)))) (gSt (gSet 3 (gNL (z0i c_on (gCons (gV 0) (gCons (gBin dMul (gNeg (gV 3)) (gBin dDiv (gV 0) (gV 2))) gNil))))) (gSet 2 (gNL (gBin dMod (gV 0) (gV 2))))) k Γ = .ok (.nx [.ro (.int P),x1,.ro (.int 1),.ro (.int a)])/\0<=a/\a<P/\cg P (a*n0) 1:=by
 refine y1h _ (fun r=>∃a:Int,r = .ok (.nx [.ro (.int P),x1,.ro (.int 1),.ro (.int a)])/\0<=a/\a<P/\cg P (a*n0) 1) ?_
 rintro m Γ ⟨a,b,rfl,b1,b2,a1,a2,hc,hm⟩
 by_cases hb:b=1
 ·subst hb
  refine .inl ⟨by walk_at "evs",a,rfl,a1,a2,hc⟩
 ·have hbf:(b==1)=false:=by simpa using hb
  have hnd:=x6d hp h3 h (d:=b) (by lia) b2
  have r1:0<=P%b:=z3u (by lia)
  have r2:P%b<b:=z3v (by lia)
  have hq0:0<=P/b:=Int.ediv_nonneg (by lia) (by lia)
  have hq1:P/b<=P:=Int.ediv_le_self b (by lia)
  have he:P%b=P-b*(P/b):=by have:=Int.emod_add_mul_ediv P b;lia
  refine .inr ⟨by walk_at "evs";simp only[hbf];walk_at "evs",.inl ⟨[.ro (.int P),x1,.ro (.int (P%b)),.ro (.int ((-a*(P/b))%P))],(P%b).toNat,by lia,.inl ?_,_,_,rfl,by lia,by lia,z3u (by lia),z3v (by lia),?_,rfl⟩⟩
  ·refine z1e (d:=.int ((-a*(P/b))%P)) (by walk_at "evs") ?_
   refine y1t ?_
   walk_at "evs"
  ·have c1:cg P ((-a*(P/b))%P*n0) (-(P/b)*(a*n0)):=by
    refine(z6d.mul cg.refl).trans (cg.of_eq ?_)
    rw[Int.neg_mul,Int.neg_mul,Int.neg_mul,Int.mul_assoc,Int.mul_left_comm]
   have c2:cg P (-(P/b)*(a*n0)) (-(P/b)*b):=cg.mul cg.refl hc
   refine(c1.trans c2).trans ?_
   rw[he]
   have:cg P (-(P/b)*b) (P-b*(P/b)):=by
    rw[x6s]
    rw[show -(P/b)*b-(P-b*(P/b)) = -P by rw[Int.neg_mul,Int.mul_comm];lia]
    simp
   exact this
theorem s_H{P n:Int}(hp:z3t P=false)(h3:3<=P)(h:P<=9973):(n%P=0->c_H [.int P,.int n] = .er .noNumber)/\(n%P≠0->∃a:Int,c_H [.int P,.int n] = .ok (.int a)/\0<a/\a<P/\(a*n)%P=1):=by
 have r1:0<=n%P:=z3u (by lia)
 have r2:n%P<P:=z3v (by lia)
 refine⟨fun e=>?_,fun e=>?_⟩
 ·refine y1a (Γ:=[.ro (.int P),.ro (.int n),.ro (.int 0),.no]) rfl ?_
  delta g_H
  refine z1e (d:=.int 0) (by walk_at "evs";rw[e];walk_at "evs") ?_
  refine x4x (z5m (by walk_at "evs") ?_)
  rfl
 ·have hbf:(n%P==0)=false:=by simpa using e
  obtain⟨a,ea,a1,a2,ac⟩:=x0g (n0:=n%P) hp h3 h (.ro (.int n)) 100000 (n%P).toNat [.ro (.int P),.ro (.int n),.ro (.int (n%P)),.ro (.int 1)] (by lia) ⟨1,n%P,rfl,by lia,r2,by lia,by lia,cg.of_eq (by lia),rfl⟩
  have hc:cg P (a*n) 1:=(cg.mul cg.refl z6d.symm).trans ac
  have h1:(a*n)%P=1:=by
   unfold cg at hc
   rw[hc,Int.emod_eq_of_lt (by lia) (by lia)]
  have a0:a≠0:=fun z=>by rw[z] at h1;simp at h1
  refine⟨a,?_,by lia,a2,h1⟩
  refine z1l rfl ?_
  delta g_H
  refine z1e (d:=.int (n%P)) (by walk_at "evs") ?_
  refine z1q (by walk_at "evs";simp only[hbf];walk_at "evs") ?_
  refine z1e (d:=.int 1) (by walk_at "evs") ?_
  refine z8c ea ?_
  exact z1z (by walk_at "evs")
noncomputable def vec(r:List Int):Nat->Int:=fun i=>(r[i]?).getD 0
inductive Span (P:Int) (S:List (List Int)):(Nat->Int)->Prop
 | zero {v:Nat->Int}:(∀i,cg P (v i) 0)->Span P S v
 | add {u v:Nat->Int} {c:Int} {r:List Int}:r∈S->Span P S u->(∀i,cg P (v i) (u i+c*vec r i))->Span P S v
section
variable {P:Int}{S T:List (List Int)}{u v:Nat->Int}{c:Int}{r:List Int}
end
noncomputable def z5j(r:List Int):Nat:=r.findIdx (fun x=>!(x==0))
structure Steps (P:Int) (w:Nat) (S:List (List Int)):Prop where
 row:∀r∈S,r.length=w/\onW P r/\z5j r<w/\vec r (z5j r)=1
 pair:S.Pairwise fun r r'=>z5j r<z5j r'/\vec r (z5j r')=0
section
variable {P:Int}{w:Nat}{S T:List (List Int)}{v:Nat->Int}
end
noncomputable def z5z(P:Int)(r:List Int)(c:Int):List Int:=r.map fun n=>(c*n)%P
section
variable {P:Int}{w p:Nat}{r l:List Int}{c:Int}
theorem y0v(i:Nat):vec (z5z P r c) i=(c*vec r i)%P:=by
 unfold vec z5z
 rw[List.getElem?_map]
 cases r[i]? with
 | none=>simp
 | some x=>rfl
theorem z6t:(z5z P r c).length=r.length:=by unfold z5z;simp
theorem y2k(hp:0<P):onW P (z5z P r c):=fun n hn=>by
 obtain⟨x,_,rfl⟩:=List.mem_map.mp hn
 exact⟨z3u hp,z3v hp⟩
end
structure Gone (P:Int) (w p:Nat) (rows left steps:List (List Int)):Prop where
 lft:∀r∈left,r.length=w/\onW P r/\∀i,i<p->vec r i=0
 step:∀r∈steps,r.length=w/\onW P r/\z5j r<p/\vec r (z5j r)=1
 pair:steps.Pairwise fun r r'=>z5j r<z5j r'/\vec r (z5j r')=0
 ofL:∀r∈left,Span P rows (vec r)
 ofS:∀r∈steps,Span P rows (vec r)
 all:∀r∈rows,Span P (left++steps) (vec r)
section
variable {P:Int}{w p:Nat}{rows left steps:List (List Int)}
structure StepsOf (P:Int) (w:Nat) (rows S:List (List Int)):Prop where
 steps:Steps P w S
 ofS:∀r∈S,Span P rows (vec r)
 all:∀r∈rows,Span P S (vec r)
end
noncomputable section
noncomputable def g_G:G->R Fl :=
 (gRet (z0i z2o (gCons (gL (z3m (z7a (gV 1)) (fElt (gNL (z0i (noEr c_on) (gCons (gV 1) (gCons (gBin dMul (gV 3) (gV 0)) gNil))))))) gNil)))
noncomputable def c_G:List D->R D:=fnC 3 3 g_G
end
noncomputable section
end
end L3
namespace L3
open PySem
local macro_rules | `(tactic| walk_at "evs") => wkL " L3.z9l L3.z5u L3.z4u L3.s_on L3.z5c L3.z6v L3.z6w L3.z6x L3.z3c L3.z3d L3.z6y L3.z1f L3.z8a L3.dInt L3.y7a L3.y9w L3.y5u L3.y6z L3.z8w L3.gRep L3.dIsN L3.y1z L3.D.isNon"
theorem s_G{P c:Int}{r:List Int}(hp:0<P)(hc:z9b c)(hr:r.length<=1000):c_G [.int P,rowD r,.int c] = .ok (rowD (z5z P r c)):=by
 refine z1l rfl ?_
 delta g_G
 refine z1z ?_
 simp only[z0l]
 walk_at "evs"
 rw[z2w (h:=fun n=>D.int ((c*n)%P)),z4p]
 ·walk_at "evs"
  rfl
 ·intro n hn
  walk_at "evs"
theorem y5b{r:List Int}{p:Nat}(h:p<r.length):atI (r.map D.int) (p:Int)=some (.int (vec r p)):=atD h
noncomputable section
noncomputable def g_a(rec_a:List D->R D):G->R Fl :=
 (gSt (gFor 1 (z5n (z0i dLen (gCons (gV 0) gNil)))
 (gSt (gIfS (gAnd (gT (gBin dEq (gBin dIx (gBin dIx (gV 0) (gV 1)) (gC (.int 0))) (gC (.str "set")))) (gT (gBin dEq (gBin dIx (gBin dIx (gBin dIx (gV 0) (gV 1)) (gC (.int 2))) (gBin dIx (gBin dIx (gV 0) (gV 1)) (gC (.int 1)))) (gC (.int 0))))) (gRet (gTup (gCons (gV 1) gNil))) z2l)
 (gIfS (gAnd (gT (gBin dEq (gBin dIx (gBin dIx (gV 0) (gV 1)) (gC (.int 0))) (gC (.str "again")))) (gT (gBin dGt (gBin dIx (gBin dIx (gV 0) (gV 1)) (gC (.int 1))) (gC (.int 0))))) (gSt (gSet 2 (gNL (z0i rec_a (gCons (gBin dIx (gBin dIx (gV 0) (gV 1)) (gC (.int 2))) gNil))))
 (gIfS (gT (gBin dNe (gV 2) (gTup gNil))) (gRet (gBin dAdd (gTup (gCons (gV 1) gNil)) (gV 2))) z2l)) z2l)))
 (gRet (gTup gNil)))
noncomputable def c_a:Nat->List D->R D
 | 0=>fun _=>.no
 | n+1=>fnC 1 3 (g_a (c_a n))
noncomputable def g_c:G->R Fl :=
 (gSt (gIfS (gOr (gT (gBin dEq (gBin dMod (gV 1) (gC (.int 2))) (gC (.int 0)))) (gT (gBin dEq (z0i dLen (gCons (gV 0) gNil)) (gC (.int 0))))) (gRet (gV 0)) z2l)
 (gSt (gSet 2 (gNL (gBin dMod (gBin dDiv (gV 1) (gC (.int 2))) (z0i dLen (gCons (gV 0) gNil)))))
 (gSt (gSet 3 (gNL (gBin dIx (gV 0) (gV 2))))
 (gSt (gIfS (gT (gBin dEq (gBin dIx (gV 3) (gC (.int 0))) (gC (.str "set")))) (gSet 3 (gNL (gTup (gCons (gC (.str "set")) (gCons (gBin dIx (gV 3) (gC (.int 1))) (gCons (gBin dAdd (gBin dAdd (gSl (gBin dIx (gV 3) (gC (.int 2))) gON (gOS (gBin dIx (gV 3) (gC (.int 1))))) (gTup (gCons (gC (.int 0)) gNil))) (gSl (gBin dIx (gV 3) (gC (.int 2))) (gOS (gBin dAdd (gBin dIx (gV 3) (gC (.int 1))) (gC (.int 1)))) gON)) gNil)))))) z2l)
 (gRet (gBin dAdd (gBin dAdd (gSl (gV 0) gON (gOS (gV 2))) (gTup (gCons (gV 3) gNil))) (gSl (gV 0) (gOS (gBin dAdd (gV 2) (gC (.int 1)))) gON)))))))
noncomputable def c_c:List D->R D:=fnC 2 4 g_c
noncomputable def g_l:G->R Fl :=
 (gSt (gIfS (gOr (gNot (gT (gIsi z2m (gV 0)))) (gT (gBin dNe (z0i dLen (gCons (gV 0) gNil)) (gV 2)))) (gRet (gC (.bl false))) z2l)
 (gRet (z0i dAll (gCons (gL (z3m (z7a (gV 0)) (fElt (gNL (z9a (z0i (noEr c_s) (gCons (gV 0) gNil)) (z7e dLe dLt (gC (.int 0)) (gV 0) (gV 2))))))) gNil))))
noncomputable def c_l:List D->R D:=fnC 3 3 g_l
noncomputable def g_E:G->R Fl :=
 (z7y (gCat (gLst (gCons (z0i z2o (gCons (gL (gRep (gLst (gCons (gC (.int 0)) gNil)) (gV 0))) gNil)) gNil)) (z3m (z5n (gV 0)) (fElt (gNL (z0i (noEr c_z) (gCons (gV 1) (gCons (gV 0) gNil))))))))
noncomputable def c_E:List D->R (List D):=fnF 1 1 g_E
noncomputable def g_h:G->R Fl :=
 (gSt (gSet 3 (gNL (z0i c_H (gCons (gV 0) (gCons (gBin dIx (gV 2) (gV 1)) gNil)))))
 (gSt (z4r 4 (z6o (z0i c_G (gCons (gV 0) (gCons (gV 2) (gCons (gNeg (gV 3)) gNil))))))
 (gSt (gPut 4 (gV 1) (gNL (gV 3)))
 (gRet (z0i z2o (gCons (gV 4) gNil))))))
noncomputable def c_h:List D->R D:=fnC 3 5 g_h
noncomputable def g_k:G->R Fl :=
 (gSt (gIfS (gT (gBin dEq (gBin dIx (gV 2) (gV 1)) (gC (.int 0)))) (z6n .lossy) z2l)
 (gRet (gTup (gCons (gC (.str "set")) (gCons (gV 1) (gCons (z0i c_h (gCons (gV 0) (gCons (gV 1) (gCons (gV 2) gNil)))) gNil))))))
noncomputable def c_k:List D->R D:=fnC 3 3 g_k
noncomputable def g_C(rec_C:List D->R D)(rec_e:List D->R D)(rec_g:List D->R D):G->R Fl :=
 (gRet (z0i z2o (gCons (gL (z8p (gRev (gV 2)) (fElt (gNL (z0i rec_g (gCons (gV 1) (gCons (gV 2) (gCons (gV 0) gNil)))))))) gNil)))
noncomputable def g_e(rec_C:List D->R D)(rec_e:List D->R D)(rec_g:List D->R D):G->R Fl :=
 (gSt (gIfS (gT (gBin dEq (gV 2) (gC (.int 0)))) (gRet (gTup (gCons (gC (.str "again")) (gCons (gC (.int 0)) (gCons (gTup gNil) gNil))))) z2l)
 (gRet (gTup (gCons (gC (.str "again")) (gCons (gV 2) (gCons (z0i rec_C (gCons (gV 0) (gCons (gV 1) (gCons (gV 3) gNil)))) gNil))))))
noncomputable def g_g(rec_C:List D->R D)(rec_e:List D->R D)(rec_g:List D->R D):G->R Fl :=
 (gSt (gIfS (gT (gBin dEq (gBin dIx (gV 2) (gC (.int 0))) (gC (.str "set")))) (gRet (z0i c_k (gCons (gV 0) (gCons (gBin dIx (gV 2) (gC (.int 1))) (gCons (gBin dIx (gV 2) (gC (.int 2))) gNil))))) z2l)
 (gRet (z0i rec_e (gCons (gV 0) (gCons (gV 1) (gCons (gBin dIx (gV 2) (gC (.int 1))) (gCons (gBin dIx (gV 2) (gC (.int 2))) gNil)))))))
mutual
noncomputable def c_C:Nat->List D->R D
 | 0=>fun _=>.no
 | n+1=>fnC 3 3 (g_C (c_C n) (c_e n) (c_g n))
noncomputable def c_e:Nat->List D->R D
 | 0=>fun _=>.no
 | n+1=>fnC 4 4 (g_e (c_C n) (c_e n) (c_g n))
noncomputable def c_g:Nat->List D->R D
 | 0=>fun _=>.no
 | n+1=>fnC 3 3 (g_g (c_C n) (c_e n) (c_g n))
end
end
noncomputable section
noncomputable def g_q:G->R Fl :=
 (gSt (gSet 2 (gNL (gTup gNil)))
 (gSt (gFor 3 (gSeq (gNL (gSl (gV 1) gON (gOS (gBin dSub (z0i dLen (gCons (gV 1) gNil)) (gC (.int 1)))))))
 (gSt (gSet 2 (gNL (gBin dAdd (gV 2) (gSl (gV 0) gON (gOS (gV 3))))))
 (gSet 0 (gNL (gBin dIx (gBin dIx (gV 0) (gV 3)) (gC (.int 2)))))))
 (gRet (gTup (gCons (gBin dAdd (gV 2) (gSl (gV 0) gON (gOS (gBin dIx (gV 1) (gBin dSub (z0i dLen (gCons (gV 1) gNil)) (gC (.int 1))))))) (gCons (gBin dIx (gV 0) (gBin dIx (gV 1) (gBin dSub (z0i dLen (gCons (gV 1) gNil)) (gC (.int 1))))) gNil))))))
noncomputable def c_q:List D->R D:=fnC 2 4 g_q
noncomputable def g_x(rec_x:List D->R D):G->R Fl :=
 (gSt (gSet 2 (gNL (gBin dIx (gV 0) (gBin dIx (gV 1) (gC (.int 0))))))
 (gSt (gIfS (gT (gBin dEq (z0i dLen (gCons (gV 1) gNil)) (gC (.int 1)))) (gRet (gV 2)) z2l)
 (gRet (z0i rec_x (gCons (gBin dIx (gV 2) (gC (.int 2))) (gCons (gSl (gV 1) (gOS (gC (.int 1))) gON) gNil))))))
noncomputable def c_x:Nat->List D->R D
 | 0=>fun _=>.no
 | n+1=>fnC 2 3 (g_x (c_x n))
noncomputable def g_j(rec_j:List D->R D):G->R Fl :=
 (gSt (gSet 2 (gNL (gSl (gV 0) gON (gOS (gBin dIx (gV 1) (gC (.int 0)))))))
 (gSt (gIfS (gT (gBin dEq (z0i dLen (gCons (gV 1) gNil)) (gC (.int 1)))) (gRet (gV 2)) z2l)
 (gRet (gBin dAdd (gV 2) (z0i rec_j (gCons (gBin dIx (gBin dIx (gV 0) (gBin dIx (gV 1) (gC (.int 0)))) (gC (.int 2))) (gCons (gSl (gV 1) (gOS (gC (.int 1))) gON) gNil)))))))
noncomputable def c_j:Nat->List D->R D
 | 0=>fun _=>.no
 | n+1=>fnC 2 3 (g_j (c_j n))
noncomputable def g_f(rec_f:List D->R D)(rec_d:List D->R D):G->R Fl :=
 (gSt (y9l 1 2 (y5t (gVr 0))
 (gSt (gSet 3 (gNL (z0i rec_d (gCons (gV 2) gNil))))
 (gIfS (gT (gBin y1z (gV 3) (gC .non))) (gRet (gBin dAdd (gTup (gCons (gV 1) gNil)) (gV 3))) z2l)))
 (gRet (gC .non)))
noncomputable def g_d(rec_f:List D->R D)(rec_d:List D->R D):G->R Fl :=
 (gSt (gIfS (gT (gBin dEq (gBin dIx (gV 0) (gC (.int 0))) (gC (.str "set")))) (gRet (gIf (gT (gBin dEq (gBin dIx (gBin dIx (gV 0) (gC (.int 2))) (gBin dIx (gV 0) (gC (.int 1)))) (gC (.int 0)))) (gTup gNil) (gC .non))) z2l)
 (gRet (gIf (gT (gBin dGt (gBin dIx (gV 0) (gC (.int 1))) (gC (.int 0)))) (z0i rec_f (gCons (gBin dIx (gV 0) (gC (.int 2))) gNil)) (gC .non))))
mutual
noncomputable def c_f:Nat->List D->R D
 | 0=>fun _=>.no
 | n+1=>fnC 1 4 (g_f (c_f n) (c_d n))
noncomputable def c_d:Nat->List D->R D
 | 0=>fun _=>.no
 | n+1=>fnC 1 1 (g_d (c_f n) (c_d n))
end
noncomputable def g_J:G->R Fl :=
 (gSt (gSet 3 (gNL (z0i (c_f 12) (gCons (gV 2) gNil))))
 (gSt (gIfS (gT (gBin dIsN (gV 3) (gC .non))) (gRet (gC .non)) z2l)
 (gSt (gSet 4 (gNL (gBin dIx (z0i (c_x 12) (gCons (gV 2) (gCons (gV 3) gNil))) (gC (.int 1)))))
 (gSt (gSet 5 (gNL (z0i (c_w 12) (gCons (gV 0) (gCons (gV 1) (gCons (z0i (c_C 12) (gCons (gV 0) (gCons (gV 1) (gCons (z0i (c_j 12) (gCons (gV 2) (gCons (gV 3) gNil))) gNil)))) gNil))))))
 (gSt (gSet 6 (gNL (z0i c_A (gCons (gV 0) (gCons (gV 5) (gCons (gBin dIx (gL (z5o c_E (gCons (gV 1) gNil))) (gC (.int 0))) gNil))))))
 (gSt (gSet 7 (gNL (z0i c_A (gCons (gV 0) (gCons (gV 5) (gCons (gBin dIx (gL (z5o c_E (gCons (gV 1) gNil))) (gBin dAdd (gC (.int 1)) (gV 4))) gNil))))))
 (gRet (gTup (gCons (gV 3) (gCons (gV 6) (gCons (gV 7) (gCons (z0i c_A (gCons (gV 0) (gCons (z0i (c_w 12) (gCons (gV 0) (gCons (gV 1) (gCons (gV 2) gNil)))) (gCons (gV 6) gNil)))) gNil))))))))))))
noncomputable def c_J:List D->R D:=fnC 3 8 g_J
end
end L3
namespace L3
open PySem
local macro_rules | `(tactic| walk_at "evs") => wkL " L3.z9l L3.z5u L3.z4u L3.s_on L3.z5c L3.z6v L3.z6w L3.z6x L3.z3c L3.z3d L3.z6y L3.z1f L3.z8a L3.dInt L3.y7a L3.y9w L3.Item.d L3.Item.ds_map L3.y9q L3.x2a L3.x2b L3.y9c L3.y3i L3.y5u L3.y6z L3.z8w L3.gRep L3.dIsN L3.y1z L3.D.isNon L3.gRev L3.z8p"
theorem y0c{α:Type}{gb:G->R Fl}{i:Nat}{I:G->Prop}{e:α->D}{res:α->Option D}:∀{l:List α} {Γ:G},I Γ->(∀a∈l,∀Γ,I Γ->(res a=none/\∃Γ',gb (Γ.set i (.ro (e a))) = .ok (.nx Γ')/\I Γ')∨∃v,res a=some v/\gb (Γ.set i (.ro (e a))) = .ok (.rt v))->(l.findSome? res=none/\∃Γ',z3n gb i (l.map e) Γ = .ok (.nx Γ')/\I Γ')∨∃v,l.findSome? res=some v/\z3n gb i (l.map e) Γ = .ok (.rt v)
 | [],Γ,h,_=>.inl ⟨rfl,Γ,rfl,h⟩
 | a::l,Γ,h,q=>by
   rcases q a (by simp) Γ h with ⟨r,Γ',e1,i1⟩ | ⟨v,r,e1⟩
   ·rcases y0c (l:=l) i1 (fun b hb=>q b (List.mem_cons_of_mem _ hb)) with ⟨r2,z⟩ | ⟨v,r2,z⟩
    ·refine .inl ⟨by rw[List.findSome?_cons,r];exact r2,?_⟩
     rw[List.map_cons,z5p,e1];exact z
    ·refine .inr ⟨v,by rw[List.findSome?_cons,r];exact r2,?_⟩
     rw[List.map_cons,z5p,e1];exact z
   ·refine .inr ⟨v,by rw[List.findSome?_cons,r],?_⟩
    rw[List.map_cons,z5p,e1]
theorem x4v{α:Type}{gs:G->R (List D)}{gb u:G->R Fl}{i:Nat}{Γ:G}{r:R Fl}(l:List α)(e:α->D)(res:α->Option D)(I:G->Prop)(hi:gs Γ = .ok (l.map e))(h0:I Γ)(hq:∀a∈l,∀Γ,I Γ->(res a=none/\∃Γ',gb (Γ.set i (.ro (e a))) = .ok (.nx Γ')/\I Γ')∨∃v,res a=some v/\gb (Γ.set i (.ro (e a))) = .ok (.rt v))(hn:l.findSome? res=none->∀Γ',I Γ'->u Γ'=r)(hs:∀v,l.findSome? res=some v->r = .ok (.rt v)):gSt (gFor i gs gb) u Γ=r:=by
 rcases y0c (l:=l) h0 hq with ⟨n,Γ',e1,i1⟩ | ⟨v,n,e1⟩
 ·exact y5z hi e1 (hn n Γ' i1)
 ·rw[hs v n];exact z9c (x6h hi e1)
noncomputable def x2w(n:Nat)(x:Int):List Int:=(List.range n).map fun(i:Nat)=>if (i:Int)=x then 1 else 0
theorem y7o(n k:Nat):x2w n (k:Int)=z1r n k:=by
 unfold x2w z1r
 refine List.map_congr_left fun i _=>?_
 by_cases q:i=k
 ·rw[if_pos q,if_pos (by lia)]
 ·rw[if_neg q,if_neg (by lia)]
theorem y4f(n:Nat):(z2s n).length=n+1:=by unfold z2s;simp
theorem y6d{f:D->R (Option D)}{n:Nat}{x:Int}(h:∀(i:Nat),f (.int (0+(i:Int))) = .ok (some (.int (if (i:Int)==x then 1 else 0)))):z1g f (z4b 0 n) [] = .ok ((x2w n x).map D.int):=by
 rw[z2g (h:=fun i=>D.int (if (i:Int)=x then 1 else 0)),z4p]
 ·rfl
 ·intro i _
  rw[h i]
  by_cases q:(i:Int)=x
  ·rw[if_pos q];simp[q]
  ·rw[if_neg q];simp[q]
theorem y0w{n:Nat}{s:List Int}(h:s∈z2s n):s.length=n/\∀P:Int,1<P->onW P s:=by
 unfold z2s at h
 rcases List.mem_cons.mp h with rfl | h
 ·refine⟨z2f n,fun P hp x hx=>?_⟩
  unfold z2h at hx
  rw[List.eq_of_mem_replicate hx];lia
 ·obtain⟨k,_,rfl⟩:=List.mem_map.mp h
  refine⟨z1j n k,fun P hp x hx=>?_⟩
  unfold z1r at hx
  obtain⟨i,_,rfl⟩:=List.mem_map.mp hx
  split<;>lia
theorem y8e{n:Nat}(hn:n<=100):c_E [.int n] = .ok ((z2s n).map rowD):=by
 refine y5w rfl ?_
 delta g_E
 refine y9d ?_
 have h0:D.noLs [D.tup (List.replicate n [D.int 0]).flatten]=true:=by rw[y7c];exact z4x [z2h n]
 have h00:D.noLs [D.int 0]=true:=rfl
 walk_at "evs"
 rw[z2g (h:=fun k=>rowD (z1r n k))]
 ·walk_at "evs"
  rw[y7c]
  unfold z2s
  rw[List.map_cons,List.map_map];rfl
 ·intro k hk
  have e:=s_z (n:=n) (x:=k) (by lia)
  have hnl:=z1f (z1r n k)
  walk_at "evs"
  simp only[Int.zero_add,e]
  walk_at "evs"
theorem y1n{P:Int}{m:Nat}{s:List Int}(hs:s.length=m)(ho:onW P s)(hm:m<=1000):c_l [rowD s,.int P,.int m] = .ok (.bl true):=by
 refine z1l rfl ?_
 delta g_l
 have hl:(s.length:Int)=m:=by rw[hs]
 refine z1q (by simp only[z0l];walk_at "evs";simp only[hl];walk_at "evs";try simp) ?_
 refine z1z ?_
 simp only[z0l]
 walk_at "evs"
 rw[z2w (k:=D.int) (h:=fun _=>D.bl true)]
 ·walk_at "evs"
  rw[show s.map (fun _=>D.bl true)=(s.map fun _=>true).map D.bl by rw[List.map_map];rfl,z3w]
  simp
 ·intro z hz
  have hz':=ho z hz
  have e1:decide (0<=z)=true:=decide_eq_true hz'.1
  have e2:decide (z<P)=true:=decide_eq_true hz'.2
  walk_at "evs"
  simp only[e1,e2]
  walk_at "evs"
theorem tab_E{P:Int}{n:Nat}{a b:List (List Int)}(hp:0<P)(ha:z2e P n a)(hb:z2e P n b)(h:∀s∈z2s n,z0z P a s=z0z P b s):a=b:=by
 refine List.ext_getElem (by rw[ha.1,hb.1]) fun i h1 h2=>?_
 have at':∀s∈z2s n,cg P (z0j a[i] s) (z0j b[i] s):=fun s hs=>by
  have e:=congrArg (fun l=>l[i]?) (h s hs)
  simp only[z0z,List.getElem?_map,List.getElem?_eq_getElem h1,List.getElem?_eq_getElem h2,Option.map_some,Option.some.injEq] at e
  exact e
 refine y5v hp (ha.2 _ (List.getElem_mem h1)) (hb.2 _ (List.getElem_mem h2)) (at' _ (by unfold z2s;simp)) fun k hk=>at' _ ?_
 unfold z2s
 exact List.mem_cons_of_mem _ (List.mem_map.mpr ⟨k,List.mem_range.mpr hk,rfl⟩)
noncomputable def z4m(P n:Int):Int:=match c_H [.int P,.int n] with | .ok (.int a)=>a | _=>0
theorem y1g{P n:Int}(hD:z3t P=false)(p1:3<=P)(p2:P<=9973)(h0:0<=n)(h:n<P)(hn:n≠0):c_H [.int P,.int n] = .ok (.int (z4m P n))/\0<z4m P n/\z4m P n<P/\cg P (z4m P n*n) 1:=by
 have e:n%P≠0:=by rw[Int.emod_eq_of_lt h0 h];exact hn
 obtain⟨a,ea,a1,a2,a3⟩:=(s_H (P:=P) (n:=n) hD p1 p2).2 e
 have:z4m P n=a:=by unfold z4m;rw[ea]
 rw[this]
 exact⟨ea,a1,a2,by unfold cg;rw[a3,Int.emod_eq_of_lt (by lia) (by lia)]⟩
noncomputable def undF(P:Int)(x:Nat)(f:List Int):List Int:=(z5z P f (-(z4m P (vec f x)))).set x (z4m P (vec f x))
theorem y5d(P:Int)(x:Nat)(f:List Int):(undF P x f).length=f.length:=by unfold undF;rw[List.length_set,z6t]
theorem y4c{l:List Int}{x i:Nat}{v:Int}(h:x<l.length):vec (l.set x v) i=if i=x then v else vec l i:=by
 unfold vec
 rw[List.getElem?_set]
 by_cases q:i=x
 ·subst q;simp[h]
 ·rw[if_neg (Ne.symm q),if_neg q]
theorem onW.set{P:Int}{l:List Int}{x:Nat}{v:Int}(h:onW P l)(h0:0<=v)(hv:v<P):onW P (l.set x v):=fun n hn=>by
 rcases List.mem_or_eq_of_mem_set hn with z | z
 ·exact h n z
 ·rw[z];exact⟨h0,hv⟩
theorem y7u(f s:List Int){x:Nat}{v:Int}(h:x<s.length):∀n:Nat,sumN (fun i=>vec f i*vec (s.set x v) i) n=sumN (fun i=>vec f i*vec s i) n+(if x<n then vec f x*(v-vec s x) else 0)
 | 0=>by simp[sumN]
 | n+1=>by
   rw[z1s,z1s,y7u f s h n,y4c h]
   by_cases q:n=x
   ·subst q
    rw[if_pos rfl,if_neg (Nat.lt_irrefl _),if_pos (Nat.lt_succ_self _)]
    grind
   ·rw[if_neg q]
    by_cases q2:x<n
    ·rw[if_pos q2,if_pos (by lia)];grind
    ·rw[if_neg q2,if_neg (by lia)];grind
theorem y2j{f s:List Int}{x:Nat}{v:Int}(h:x<s.length):z0j f (s.set x v)=z0j f s+vec f x*(v-vec s x):=by
 have e:∀u:List Int,z0j f u=sumN (fun i=>vec f i*vec u i) u.length+vec f u.length:=fun u=>rfl
 rw[e,e,List.length_set,y7u f s h,if_pos h]
 grind
theorem y2i{P:Int}{f s:List Int}{x:Nat}(hx:x<s.length)(hl:f.length=s.length+1):cg P (z0j (undF P x f) s) (-(z4m P (vec f x))*z0j f s+(z4m P (vec f x)+z4m P (vec f x)*vec f x)*vec s x):=by
 generalize hb:z4m P (vec f x)=b
 have hv:∀i,cg P (vec (undF P x f) i) (if i=x then b else -b*vec f i):=fun i=>by
  unfold undF
  rw[hb,y4c (by rw[z6t];lia),y0v]
  split
  ·exact cg.refl
  ·exact z6d
 have e:∀g:List Int,z0j g s=sumN (fun i=>vec g i*vec s i) s.length+vec g s.length:=fun u=>rfl
 have e2:∀n:Nat,sumN (fun i=>(if i=x then b else -b*vec f i)*vec s i) n = -b*sumN (fun i=>vec f i*vec s i) n+(if x<n then (b+b*vec f x)*vec s x else 0):=fun n=>by
  induction n with
  | zero=>simp[sumN]
  | succ n ih =>
    rw[z1s,z1s,ih]
    by_cases q:n=x
    ·subst q
     rw[if_pos rfl,if_neg (Nat.lt_irrefl _),if_pos (Nat.lt_succ_self _)]
     grind
    ·rw[if_neg q]
     by_cases q2:x<n
     ·rw[if_pos q2,if_pos (by lia)];grind
     ·rw[if_neg q2,if_neg (by lia)];grind
 rw[e,e]
 have h1:cg P (sumN (fun i=>vec (undF P x f) i*vec s i) s.length) (sumN (fun i=>(if i=x then b else -b*vec f i)*vec s i) s.length):=cg.sumN fun i _=>(hv i).mul cg.refl
 rw[e2,if_pos hx] at h1
 have h2:=hv s.length
 rw[if_neg (by lia)] at h2
 refine(h1.add h2).trans (cg.of_eq ?_)
 grind
theorem y5g{s:List Int}{x:Nat}(h:x<s.length):s.set x (vec s x)=s:=by
 refine List.ext_getElem (by simp) fun i h1 h2=>?_
 rw[List.getElem_set]
 split
 ·rename_i q;subst q;unfold vec;rw[List.getElem?_eq_getElem h2];rfl
 ·rfl
theorem y7p{P:Int}{f s:List Int}{x:Nat}(p0:0<P)(hb:cg P (z4m P (vec f x)*vec f x) 1)(hx:x<s.length)(hl:f.length=s.length+1)(so:onW P s):(s.set x (z0j f s%P)).set x (z0j (undF P x f) (s.set x (z0j f s%P))%P)=s:=by
 rw[List.set_set]
 have hw:=y2i (P:=P) (f:=f) (s:=s.set x (z0j f s%P)) (x:=x) (by rw[List.length_set];exact hx) (by rw[List.length_set];exact hl)
 rw[y2j (f:=f) hx,y4c hx,if_pos rfl] at hw
 generalize hB:z4m P (vec f x)=b at hb hw
 have key:cg P (z0j (undF P x f) (s.set x (z0j f s%P))) (vec s x):=by
  refine hw.trans ?_
  have m1:cg P (z0j f s%P) (z0j f s):=z6d
  have:cg P (-b*(z0j f s+vec f x*(z0j f s%P-vec s x))+(b+b*vec f x)*(z0j f s%P)) (-b*z0j f s-(b*vec f x)*(z0j f s)+(b*vec f x)*vec s x+(b+b*vec f x)*z0j f s):=by
   have h1:cg P (-b*(z0j f s+vec f x*(z0j f s%P-vec s x))) (-b*(z0j f s+vec f x*(z0j f s-vec s x))):=(cg.refl).mul (cg.refl.add (cg.refl.mul (m1.sub cg.refl)))
   have h2:cg P ((b+b*vec f x)*(z0j f s%P)) ((b+b*vec f x)*z0j f s):=cg.refl.mul m1
   refine(h1.add h2).trans (cg.of_eq ?_)
   grind
  refine this.trans ?_
  have h3:cg P ((b*vec f x)*vec s x) (1*vec s x):=hb.mul cg.refl
  refine(cg.of_eq (by grind:-b*z0j f s-(b*vec f x)*(z0j f s)+(b*vec f x)*vec s x+(b+b*vec f x)*z0j f s=(b*vec f x)*vec s x)).trans (h3.trans (cg.of_eq (Int.one_mul _)))
 have vs:=z8i p0 so x
 rw[show z0j (undF P x f) (s.set x (z0j f s%P))%P=vec s x from(show _%P=_%P from key).trans (Int.emod_eq_of_lt vs.1 vs.2),y5g hx]
theorem und_H{P:Int}{f s:List Int}{x:Nat}(p0:0<P)(hb:cg P (z4m P (vec f x)*vec f x) 1)(hx:x<s.length)(hl:f.length=s.length+1)(so:onW P s):(s.set x (z0j (undF P x f) s%P)).set x (z0j f (s.set x (z0j (undF P x f) s%P))%P)=s:=by
 rw[List.set_set]
 have hw:=y2i (P:=P) (f:=f) (s:=s) (x:=x) hx hl
 generalize hB:z4m P (vec f x)=b at hb hw
 have m1:cg P (z0j (undF P x f) s%P) (-b*z0j f s+(b+b*vec f x)*vec s x):=z6d.trans hw
 have key:cg P (z0j f (s.set x (z0j (undF P x f) s%P))) (vec s x):=by
  rw[y2j hx]
  have h1:cg P (z0j f s+vec f x*(z0j (undF P x f) s%P-vec s x)) (z0j f s+vec f x*((-b*z0j f s+(b+b*vec f x)*vec s x)-vec s x)):=cg.refl.add (cg.refl.mul (m1.sub cg.refl))
  refine h1.trans ?_
  have e:z0j f s+vec f x*((-b*z0j f s+(b+b*vec f x)*vec s x)-vec s x)=z0j f s-(b*vec f x)*z0j f s+(b*vec f x)*vec s x+(b*vec f x)*(vec f x*vec s x)-vec f x*vec s x:=by grind
  rw[e]
  have h2:cg P (z0j f s-(b*vec f x)*z0j f s+(b*vec f x)*vec s x+(b*vec f x)*(vec f x*vec s x)-vec f x*vec s x) (z0j f s-1*z0j f s+1*vec s x+1*(vec f x*vec s x)-vec f x*vec s x):=(((cg.refl.sub (hb.mul cg.refl)).add (hb.mul cg.refl)).add (hb.mul cg.refl)).sub cg.refl
  exact h2.trans (cg.of_eq (by grind))
 have vs:=z8i p0 so x
 rw[show z0j f (s.set x (z0j (undF P x f) s%P))%P=vec s x from(show _%P=_%P from key).trans (Int.emod_eq_of_lt vs.1 vs.2),y5g hx]
theorem turn_y{P:Int}{m x:Nat}{f s:List Int}(hs:s.length=m)(so:onW P s):z0z P ((z2d m).set x f) s=s.set x (z0j f s%P):=by
 unfold z0z
 rw[List.map_set]
 have:=turn_K hs so
 unfold z0z at this
 rw[this]
noncomputable def Undo(P:Int)(m:Nat)(a b:List (List Int)):Prop:=z1m P a b=z2d m/\z1m P b a=z2d m
theorem Undo.of_turn{P:Int}{m:Nat}{a b:List (List Int)}(hp:1<P)(ha:z2e P m a)(hb:z2e P m b)(h1:∀s,s.length=m->onW P s->z0z P b (z0z P a s)=s)(h2:∀s,s.length=m->onW P s->z0z P a (z0z P b s)=s):Undo P m a b:=by
 refine⟨tab_E (by lia) (z2a (by lia) ha.1 hb.1) (z5d hp m) fun s hs=>?_,tab_E (by lia) (z2a (by lia) hb.1 ha.1) (z5d hp m) fun s hs=>?_⟩
 ·obtain⟨sl,so⟩:=y0w hs
  rw[turn_I ha.1 sl,turn_K sl (so P hp),h1 s sl (so P hp)]
 ·obtain⟨sl,so⟩:=y0w hs
  rw[turn_I hb.1 sl,turn_K sl (so P hp),h2 s sl (so P hp)]
theorem Undo.turn{P:Int}{m:Nat}{a b:List (List Int)}(ha:z2e P m a)(h:Undo P m a b){s:List Int}(hs:s.length=m)(so:onW P s):z0z P b (z0z P a s)=s:=by
 rw[<-turn_I ha.1 hs,h.1,turn_K hs so]
theorem Undo.symm{P:Int}{m:Nat}{a b:List (List Int)}(h:Undo P m a b):Undo P m b a:=⟨h.2,h.1⟩
theorem Undo.idle{P:Int}{m:Nat}(hp:1<P):Undo P m (z2d m) (z2d m):=⟨idle_I hp (z5d hp m),idle_I hp (z5d hp m)⟩
theorem Undo.comp{P:Int}{m:Nat}{a b c d:List (List Int)}(hp:1<P)(ha:z2e P m a)(hb:z2e P m b)(hc:z2e P m c)(hd:z2e P m d)(h:Undo P m a b)(g:Undo P m c d):Undo P m (z1m P a c) (z1m P d b):=by
 have p0:0<P:=by lia
 have key:∀{a b c d:List (List Int)},z2e P m a->z2e P m b->z2e P m c->z2e P m d->z1m P a b=z2d m->z1m P c d=z2d m->z1m P (z1m P a c) (z1m P d b)=z2d m:=fun {a b c d} ha hb hc hd h g=>by
  rw[z2y p0 ha.1 hc.1 (z2a p0 hd.1 hb.1).1,<-z2y p0 hc.1 hd.1 hb.1,g,idle_I hp hb,h]
 exact⟨key ha hb hc hd h.1 g.1,key hd hc hb ha g.2 h.2⟩
theorem y0y{P:Int}{m:Nat}{t:List (List Int)}(hp:1<P)(ht:z2e P m t)(k:Nat):powZ P m t (k+1)=z1m P t (powZ P m t k):=by
 rw[Nat.add_comm,z9h hp ht,y5l hp ht]
theorem Undo.pow{P:Int}{m:Nat}{a b:List (List Int)}(hp:1<P)(ha:z2e P m a)(hb:z2e P m b)(h:Undo P m a b):∀k,Undo P m (powZ P m a k) (powZ P m b k)
 | 0=>Undo.idle hp
 | k+1=>by
   have ih:=Undo.pow hp ha hb h k
   rw[y0y hp hb]
   show Undo P m (z1m P (powZ P m a k) a) _
   exact Undo.comp hp (z4k hp ha k) (z4k hp hb k) ha hb ih h
mutual
noncomputable def Item.und(P:Int):Item->Item
 | .set x f=>.set x (undF P x.toNat f)
 | .again n its=>if n=0 then .again 0 [] else .again n (Item.unds P its)
noncomputable def Item.unds(P:Int):List Item->List Item
 | []=>[]
 | a::r=>Item.unds P r++[a.und P]
end
mutual
noncomputable def Item.free:Item->Bool
 | .set x f=>vec f x.toNat != 0
 | .again n its=>n==0||Item.frees its
noncomputable def Item.frees:List Item->Bool
 | []=>true
 | a::r=>a.free&&Item.frees r
end
theorem Item.unds_map(P:Int):∀its:List Item,Item.unds P its=(its.map (Item.und P)).reverse
 | []=>rfl
 | a::r=>by rw[Item.unds,Item.unds_map P r,List.map_cons,List.reverse_cons]
theorem Item.frees_all:∀its:List Item,Item.frees its=its.all Item.free
 | []=>rfl
 | a::r=>by rw[Item.frees,Item.frees_all r,List.all_cons]
theorem Item.deeps_append{a b:List Item}{k:Nat}:Item.deeps (a++b)<=k↔Item.deeps a<=k/\Item.deeps b<=k:=by
 rw[Item.deeps_le,Item.deeps_le,Item.deeps_le]
 exact⟨fun h=>⟨fun x hx=>h x (List.mem_append_left _ hx),fun x hx=>h x (List.mem_append_right _ hx)⟩,fun h x hx=>(List.mem_append.mp hx).elim (h.1 x) (h.2 x)⟩
mutual
theorem Item.und_deep(P:Int):∀a:Item,(a.und P).deep<=a.deep
 | .set x f=>by simp[Item.und,Item.deep]
 | .again n its=>by
   have:=Item.unds_deep P its
   simp only[Item.und]
   split
   ·simp only[Item.deep,Item.deeps];lia
   ·simp only[Item.deep];lia
theorem Item.unds_deep(P:Int):∀its:List Item,Item.deeps (Item.unds P its)<=Item.deeps its
 | []=>by simp[Item.unds]
 | a::r=>by
   have h1:=Item.und_deep P a
   have h2:=Item.unds_deep P r
   rw[Item.unds]
   refine Item.deeps_append.mpr ⟨?_,?_⟩
   ·refine Nat.le_trans h2 ?_
    exact Item.deeps_le.mpr fun b hb=>Item.deeps_le.mp (Nat.le_refl (Item.deeps (a::r))) b (List.mem_cons_of_mem _ hb)
   ·refine Item.deeps_le.mpr fun b hb=>?_
    rw[List.mem_singleton.mp hb]
    exact Nat.le_trans h1 (Item.deeps_le.mp (Nat.le_refl (Item.deeps (a::r))) a List.mem_cons_self)
end
mutual
theorem Item.und_ok{P:Int}{m:Nat}(hD:z3t P=false)(p1:3<=P)(p2:P<=9973):∀a:Item,a.ok P m->a.free=true->(a.und P).ok P m/\Undo P m (a.tab P m) ((a.und P).tab P m)
 | .set x f,ho,hf=>by
   have hp:1<P:=by lia
   simp only[Item.ok] at ho
   simp only[Item.free,bne_iff_ne] at hf
   obtain⟨y,rfl⟩:∃y:Nat,x=(y:Int):=⟨x.toNat,by lia⟩
   rw[Int.toNat_natCast] at hf
   have hv:=z8i (show 0<P by lia) ho.2.2.2 y
   obtain⟨b0,b1,b2,b3⟩:=y1g hD p1 p2 hv.1 hv.2 hf
   have okU:onW P (undF P y f):=onW.set (y2k (by lia)) (Int.le_of_lt b1) b2
   have ok1:=z3i (m:=m) (x:=y) (f:=f) hp ⟨ho.2.2.2,by lia⟩
   have ok2:=z3i (m:=m) (x:=y) (f:=undF P y f) hp ⟨okU,by rw[y5d];lia⟩
   refine⟨?_,?_⟩
   ·simp only[Item.und,Item.ok,Int.toNat_natCast]
    exact⟨ho.1,ho.2.1,by rw[y5d];exact ho.2.2.1,okU⟩
   ·show Undo P m ((z2d m).set (y:Int).toNat f) ((z2d m).set (y:Int).toNat (undF P (y:Int).toNat f))
    rw[Int.toNat_natCast]
    refine Undo.of_turn hp ok1 ok2 (fun s hs so=>?_) fun s hs so=>?_
    ·have w0:=z3u (w:=z0j f s) (show 0<P by lia)
     have w1:=z3v (w:=z0j f s) (show 0<P by lia)
     rw[turn_y hs so,turn_y (by rw[List.length_set];exact hs) (onW.set so w0 w1)]
     exact y7p (by lia) b3 (by lia) (by lia) so
    ·have w0:=z3u (w:=z0j (undF P y f) s) (show 0<P by lia)
     have w1:=z3v (w:=z0j (undF P y f) s) (show 0<P by lia)
     rw[turn_y hs so,turn_y (by rw[List.length_set];exact hs) (onW.set so w0 w1)]
     exact und_H (by lia) b3 (by lia) (by lia) so
 | .again n its,ho,hf=>by
   have hp:1<P:=by lia
   simp only[Item.ok] at ho
   simp only[Item.free,Bool.or_eq_true,beq_iff_eq] at hf
   by_cases q:n=0
   ·subst q
    simp only[Item.und,if_true,Item.ok,Item.oks,Item.tab,Int.toNat_zero,powZ]
    exact⟨⟨by lia,by decide,trivial⟩,Undo.idle hp⟩
   ·obtain⟨h1,h2⟩:=Item.unds_ok hD p1 p2 its ho.2.2 (hf.resolve_left q)
    simp only[Item.und,if_neg q,Item.ok,Item.tab]
    exact⟨⟨ho.1,ho.2.1,h1⟩,Undo.pow hp (Item.tabs_ok hp its ho.2.2) (Item.tabs_ok hp _ h1) h2 _⟩
theorem Item.unds_ok{P:Int}{m:Nat}(hD:z3t P=false)(p1:3<=P)(p2:P<=9973):∀its:List Item,Item.oks P m its->Item.frees its=true->Item.oks P m (Item.unds P its)/\Undo P m (Item.tabs P m its) (Item.tabs P m (Item.unds P its))
 | [],_,_=>⟨trivial,Undo.idle (by lia)⟩
 | a::r,ho,hf=>by
   have hp:1<P:=by lia
   simp only[Item.oks] at ho
   simp only[Item.frees,Bool.and_eq_true] at hf
   obtain⟨a1,a2⟩:=Item.und_ok hD p1 p2 a ho.1 hf.1
   obtain⟨r1,r2⟩:=Item.unds_ok hD p1 p2 r ho.2 hf.2
   have o1:Item.oks P m [a.und P]:=by simp only[Item.oks];exact⟨a1,trivial⟩
   rw[Item.unds,Item.tabs_append hp r1 o1,Item.tabs_one hp a1]
   exact⟨Item.oks_append.mpr ⟨r1,o1⟩,Undo.comp hp (Item.tab_ok hp a ho.1) (Item.tab_ok hp _ a1) (Item.tabs_ok hp r ho.2) (Item.tabs_ok hp _ r1) a2 r2⟩
end
theorem y5q{g:G->R D}{Γ:G}{c:Er}(h:g Γ = .er c):gRet g Γ = .ok (.ex c Γ):=by unfold gRet;rw[h];rfl
theorem x7u{f:List D->R D}{a:G->R D}{Γ:G}{d:D}(h:a Γ = .ok d):z0i f (gCons a gNil) Γ=f [d]:=by unfold z0i gCons gNil;rw[h];rfl
theorem x6v{f:List D->R D}{a:G->R D}{Γ:G}{c:Er}(h:a Γ = .er c):z0i f (gCons a gNil) Γ = .er c:=by unfold z0i gCons gNil;rw[h];rfl
theorem s_h{P:Int}{y m:Nat}{f:List Int}(hD:z3t P=false)(p1:3<=P)(p2:P<=9973)(hf:onW P f)(hl:f.length=m+1)(hm:m<=3)(hy:y<m)(hv:vec f y≠0):c_h [.int P,.int y,rowD f] = .ok (rowD (undF P y f)):=by
 have v:0<=vec f y/\vec f y<P:=z8i (show 0<P by lia) hf y
 obtain⟨b0,b1,b2,b3⟩:=y1g hD p1 p2 v.1 v.2 hv
 have va:=y5b (r:=f) (p:=y) (by lia)
 refine z1l rfl ?_
 delta g_h
 refine z1e (d:=.int (z4m P (vec f y))) (by
  simp only[z0l]
  walk_at "evs"
  simp only[dIx,va]
  walk_at "evs"
  simp only[b0]
  walk_at "evs") ?_
 have fb:z9b (-(z4m P (vec f y))):=z1x (by lia)
 have et:=s_G (P:=P) (r:=f) (c:=-(z4m P (vec f y))) (by lia) fb (by lia)
 have lt:(z5z P f (-(z4m P (vec f y)))).length=m+1:=by rw[z6t,hl]
 have nt:=z1t (z5z P f (-(z4m P (vec f y))))
 refine z6s (ds:=(z5z P f (-(z4m P (vec f y)))).map D.int) (by
  simp only[z0l] at et ⊢
  walk_at "evs"
  simp only[et]
  walk_at "evs") ?_
 refine z8c (x4e (n:=y) (j:=(y:Int)) (d:=.int (z4m P (vec f y))) rfl (by walk_at "evs") (by walk_at "evs") ?_) ?_
 ·rw[List.length_map,lt]
  unfold ixN
  simp
  lia
 ·refine z1z ?_
  have e:((z5z P f (-(z4m P (vec f y)))).map D.int).set y (.int (z4m P (vec f y)))=(undF P y f).map D.int:=by
   unfold undF;rw[List.map_set]
  simp only[z0l,<-e]
  walk_at "evs"
theorem s_k{P:Int}{y m:Nat}{f:List Int}(hD:z3t P=false)(p1:3<=P)(p2:P<=9973)(hf:onW P f)(hl:f.length=m+1)(hm:m<=3)(hy:y<m):c_k [.int P,.int y,rowD f]=if (Item.set y f).free=true then .ok ((Item.set y f).und P).d else .er .lossy:=by
 have va:=y5b (r:=f) (p:=y) (by lia)
 by_cases q:vec f y=0
 ·rw[if_neg (by simp[Item.free,q])]
  apply y1a rfl
  delta g_k
  refine x4x (z5m (by
   simp only[z0l]
   walk_at "evs"
   simp only[dIx,va,q]
   walk_at "evs"
   try rfl) rfl)
 ·rw[if_pos (by simp[Item.free,q])]
  have ef:=s_h hD p1 p2 hf hl hm hy q
  have bq:(vec f y==0)=false:=by simp[q]
  refine z1l rfl ?_
  delta g_k
  refine z1q (by
   simp only[z0l]
   walk_at "evs"
   simp only[dIx,va]
   walk_at "evs"
   simp only[bq]) (z1z ?_)
  walk_at "evs"
  simp only[ef]
  walk_at "evs"
  simp only[Item.und,Item.d,Int.toNat_natCast]
  try rfl
theorem z8b{g:Item->Bool}{h:Item->D}{F:D->R (Option D)}:∀{its:List Item} {acc:List D},(∀a∈its,F a.d=if g a=true then .ok (some (h a)) else .er .lossy)->z2x F (its.map Item.d) acc=if its.all g=true then .ok (acc++its.map h) else .er .lossy
 | [],acc,_=>by simp[z2x]
 | a::r,acc,q=>by
   have ha:=q a List.mem_cons_self
   have ih:=fun acc=>z8b (its:=r) (acc:=acc) fun b hb=>q b (List.mem_cons_of_mem _ hb)
   rw[List.map_cons,z2x]
   cases e:g a with
   | false=>rw[e] at ha;simp[ha,e]
   | true =>
     rw[e,if_pos rfl] at ha
     simp only[ha,ih,List.all_cons,e,Bool.true_and]
     simp
theorem s_C{P:Int}{m:Nat}(hD:z3t P=false)(p1:3<=P)(p2:P<=9973)(hm:m<=3):∀(k:Nat) (its:List Item),3*Item.deeps its+3<=k->its.length<=1000->Item.manys its<=1000->Item.oks P m its->c_C k [.int P,.int m,.tup (its.map Item.d)]=if Item.frees its=true then .ok (.tup ((Item.unds P its).map Item.d)) else .er .lossy
 | 0,_,h,_,_,_=>by lia
 | 1,_,h,_,_,_=>by lia
 | 2,_,h,_,_,_=>by lia
 | k+3,its,h,hl,hmn,ho=>by
   have one:∀a∈its,c_g (k+2) [.int P,.int m,a.d]=if a.free=true then .ok (a.und P).d else .er .lossy:=fun a ha=>by
    have oka:=Item.oks_iff.mp ho a ha
    show fnC 3 3 (g_g (c_C (k+1)) (c_e (k+1)) (c_g (k+1))) _=_
    cases a with
    | set x f =>
      simp only[Item.ok] at oka
      obtain⟨y,rfl⟩:∃y:Nat,x=(y:Int):=⟨x.toNat,by lia⟩
      have es:=s_k (y:=y) (m:=m) hD p1 p2 oka.2.2.2 (by lia) hm (by lia)
      by_cases hg:(Item.set (y:Int) f).free=true
      ·rw[if_pos hg] at es ⊢
       generalize ((Item.set (y:Int) f).und P).d=dd at es ⊢
       refine z1l rfl ?_
       delta g_g
       refine z9c (z5m (by walk_at "evs") (z1z ?_))
       walk_at "evs"
       simp only[es]
      ·rw[if_neg hg] at es ⊢
       apply y1a rfl
       delta g_g
       refine x4x (z5m (by walk_at "evs") (y5q ?_))
       walk_at "evs"
       simp only[es]
    | again n i =>
      have h1:=Item.deeps_le.mp (Nat.le_refl (Item.deeps its)) _ ha
      have h2:=Item.many_mem ha
      have h3:=Item.manys_length i
      simp only[Item.deep] at h1
      simp only[Item.many] at h2
      simp only[Item.ok] at oka
      have eg:c_e (k+1) [.int P,.int m,.int n,.tup (i.map Item.d)]=if (Item.again n i).free=true then .ok ((Item.again n i).und P).d else .er .lossy:=by
       show fnC 4 4 (g_e (c_C k) (c_e k) (c_g k)) _=_
       by_cases q:n=0
       ·subst q
        rw[if_pos (by simp[Item.free])]
        refine z1l rfl ?_
        delta g_e
        refine z9c (z5m (by walk_at "evs";try rfl) (z1z ?_))
        simp only[Item.und,if_true]
        walk_at "evs"
        try rfl
       ·have ih:=s_C hD p1 p2 hm k i (by lia) (by lia) (by lia) oka.2.2
        have bq:(n==0)=false:=by simp[q]
        have ef:(Item.again n i).free=Item.frees i:=by simp[Item.free,bq]
        rw[ef]
        by_cases hg:Item.frees i=true
        ·rw[if_pos hg] at ih ⊢
         have nI:=z6k (Item.unds P i)
         refine z1l rfl ?_
         delta g_e
         refine z1q (by walk_at "evs";simp only[bq]) (z1z ?_)
         walk_at "evs"
         simp only[ih]
         walk_at "evs"
         simp only[Item.und,if_neg q,Item.d,Item.ds_map]
         try rfl
        ·rw[if_neg hg] at ih ⊢
         apply y1a rfl
         delta g_e
         refine z1q (by walk_at "evs";simp only[bq]) (y5q ?_)
         walk_at "evs"
         simp only[ih]
         try rfl
      by_cases hg:(Item.again n i).free=true
      ·rw[if_pos hg] at eg ⊢
       generalize ((Item.again n i).und P).d=dd at eg ⊢
       refine z1l rfl ?_
       delta g_g
       refine z1q (by walk_at "evs") (z1z ?_)
       walk_at "evs"
       simp only[eg]
      ·rw[if_neg hg] at eg ⊢
       apply y1a rfl
       delta g_g
       refine z1q (by walk_at "evs") (y5q ?_)
       walk_at "evs"
       simp only[eg]
       try rfl
   show fnC 3 3 (g_C (c_C (k+2)) (c_e (k+2)) (c_g (k+2))) _=_
   have nI:=Item.noLs' its
   have ec:z2x (fun d=>(do let e <-gNL (z0i (c_g (k+2)) (gCons (gV 1) (gCons (gV 2) (gCons (gV 0) gNil)))) [.ro d,.ro (.int P),.ro (.int m),.ro (.tup (its.map Item.d))];R.ok (some e))) (its.reverse.map Item.d) []=if its.reverse.all Item.free=true then .ok ([]++its.reverse.map fun a=>(a.und P).d) else .er .lossy:=by
    refine z8b fun a ha=>?_
    have e1:=one a (List.mem_reverse.mp ha)
    have nu:=Item.noL (a.und P)
    have e2:z0i (c_g (k+2)) (gCons (gV 1) (gCons (gV 2) (gCons (gV 0) gNil))) [.ro a.d,.ro (.int P),.ro (.int m),.ro (.tup (its.map Item.d))]=c_g (k+2) [.int P,.int m,a.d]:=rfl
    unfold gNL
    rw[e2,e1]
    by_cases hg:a.free=true
    ·rw[if_pos hg,if_pos hg]
     generalize (a.und P).d=dd at nu ⊢
     walk_at "evs"
    ·rw[if_neg hg,if_neg hg];rfl
   rw[List.all_reverse,<-Item.frees_all] at ec
   have er:(its.map Item.d).reverse=its.reverse.map Item.d:=by rw[List.map_reverse]
   have gr:gRev (gV 2) [.ro (.int P),.ro (.int m),.ro (.tup (its.map Item.d))] = .ok (its.reverse.map Item.d):=by
    walk_at "evs"
    rw[<-er]
   have gc:z8p (gRev (gV 2)) (fElt (gNL (z0i (c_g (k+2)) (gCons (gV 1) (gCons (gV 2) (gCons (gV 0) gNil)))))) [.ro (.int P),.ro (.int m),.ro (.tup (its.map Item.d))]=if Item.frees its=true then .ok ([]++its.reverse.map fun a=>(a.und P).d) else .er .lossy:=by
    unfold z8p
    rw[gr,<-ec]
    exact R.guard_pos (by rw[List.length_map,List.length_reverse];lia)
   have eu:(its.reverse.map fun a=>(a.und P).d)=(Item.unds P its).map Item.d:=by
    rw[Item.unds_map,List.map_reverse,List.map_reverse,List.map_map];rfl
   rw[eu] at gc
   by_cases hg:Item.frees its=true
   ·rw[if_pos hg] at gc ⊢
    refine z1l rfl ?_
    delta g_C
    refine z1z ?_
    have e3:gL (z8p (gRev (gV 2)) (fElt (gNL (z0i (c_g (k+2)) (gCons (gV 1) (gCons (gV 2) (gCons (gV 0) gNil))))))) [.ro (.int P),.ro (.int m),.ro (.tup (its.map Item.d))] = .ok (.lst ((Item.unds P its).map Item.d)):=by
     unfold gL;rw[gc];rfl
    refine(x7u e3).trans ?_
    try walk_at "evs"
    try rfl
   ·rw[if_neg hg] at gc ⊢
    apply y1a rfl
    delta g_C
    refine y5q ?_
    have e3:gL (z8p (gRev (gV 2)) (fElt (gNL (z0i (c_g (k+2)) (gCons (gV 1) (gCons (gV 2) (gCons (gV 0) gNil))))))) [.ro (.int P),.ro (.int m),.ro (.tup (its.map Item.d))] = .er .lossy:=by
     unfold gL;rw[gc];rfl
    exact x6v e3
mutual
noncomputable def Item.lp:Item->Option (List Int)
 | .set x f=>if vec f x.toNat=0 then some [] else none
 | .again n i=>if 0<n then Item.lps 0 i else none
noncomputable def Item.lps(j:Nat):List Item->Option (List Int)
 | []=>none
 | a::r=>match a.lp with
   | some p=>some ((j:Int)::p)
   | none=>Item.lps (j+1) r
end
theorem Item.lps_find:∀(its:List Item) (j:Nat),Item.lps j its=(List.range its.length).findSome? fun(i:Nat)=>(its[i]?.bind Item.lp).map fun p=>(((j+i:Nat)):Int)::p
 | [],j=>rfl
 | a::r,j=>by
   rw[Item.lps,List.length_cons,List.range_succ_eq_map,List.findSome?_cons]
   simp only[List.getElem?_cons_zero,Option.bind_some,Nat.add_zero]
   cases q:a.lp with
   | some p=>rfl
   | none =>
     simp only[Option.map_none]
     rw[Item.lps_find r (j+1),List.findSome?_map]
     congr 1
     funext i
     show _=((a::r)[i+1]?.bind Item.lp).map fun p=>(((j+(i+1):Nat)):Int)::p
     rw[List.getElem?_cons_succ,show j+1+i=j+(i+1) by lia]
mutual
theorem Item.lp_free{P many:Int}:∀a:Item,a.ok P many->(a.lp=none↔a.free=true)
 | .set x f,_=>by
   simp only[Item.lp,Item.free]
   by_cases q:vec f x.toNat=0
   ·simp[q]
   ·simp[q]
 | .again n i,ho=>by
   simp only[Item.ok] at ho
   have ih:=Item.lps_free 0 i ho.2.2
   simp only[Item.lp,Item.free]
   by_cases q:n=0
   ·subst q;simp
   ·rw[if_pos (by lia),ih];simp[q]
theorem Item.lps_free{P many:Int}(j:Nat):∀its:List Item,Item.oks P many its->(Item.lps j its=none↔Item.frees its=true)
 | [],_=>by simp[Item.lps,Item.frees]
 | a::r,ho=>by
   simp only[Item.oks] at ho
   have h1:=Item.lp_free a ho.1
   have h2:=Item.lps_free (j+1) r ho.2
   rw[Item.lps,Item.frees]
   cases q:a.lp with
   | some p =>
     rw[q] at h1
     have:¬a.free=true:=fun z=>by have:=h1.mpr z;cases this
     simp[this]
   | none =>
     rw[q] at h1
     simp only[h2,h1.mp rfl,Bool.true_and]
end
theorem Item.lps_cons{j:Nat}:∀{its:List Item} {q:List Int},Item.lps j its=some q->q≠[]
 | [],q,h=>by simp[Item.lps] at h
 | a::r,q,h=>by
   rw[Item.lps] at h
   cases e:a.lp with
   | some p=>rw[e] at h;cases h;simp
   | none=>rw[e] at h;exact Item.lps_cons (its:=r) h
theorem atIt{its:List Item}{j:Nat}{a:Item}(h:its[j]? = some a):atI (its.map Item.d) (j:Int)=some a.d:=by
 rw[y3x (by lia),List.getElem?_map,Int.toNat_natCast,h];rfl
theorem Item.lps_short{j:Nat}:∀{its:List Item} {q:List Int},Item.lps j its=some q->q.length<=Item.deeps its+1:=by
 suffices h:(∀(a:Item) {q:List Int},a.lp=some q->q.length<=a.deep)/\∀(its:List Item) {j:Nat} {q:List Int},Item.lps j its=some q->q.length<=Item.deeps its+1 from fun {its q}=>h.2 its
 refine⟨?_,?_⟩
 ·intro a
  refine Item.rec (motive_1:=fun a=>∀{q:List Int},a.lp=some q->q.length<=a.deep) (motive_2:=fun its=>∀{j:Nat} {q:List Int},Item.lps j its=some q->q.length<=Item.deeps its+1) ?_ ?_ ?_ ?_ a
  ·intro x f q h
   simp only[Item.lp] at h
   split at h
   ·cases h;simp
   ·cases h
  ·intro n i ih q h
   simp only[Item.lp] at h
   split at h
   ·have:=ih h;simp only[Item.deep];lia
   ·cases h
  ·intro j q h;simp[Item.lps] at h
  ·intro a r h1 h2 j q h
   rw[Item.lps] at h
   have hd:Item.deeps (a::r)=max a.deep (Item.deeps r):=rfl
   cases e:a.lp with
   | some p=>rw[e] at h;cases h;have:=h1 e;rw[List.length_cons];lia
   | none=>rw[e] at h;have:=h2 h;lia
 ·intro its
  refine Item.rec_1 (motive_1:=fun a=>∀{q:List Int},a.lp=some q->q.length<=a.deep) (motive_2:=fun its=>∀{j:Nat} {q:List Int},Item.lps j its=some q->q.length<=Item.deeps its+1) ?_ ?_ ?_ ?_ its
  ·intro x f q h
   simp only[Item.lp] at h
   split at h
   ·cases h;simp
   ·cases h
  ·intro n i ih q h
   simp only[Item.lp] at h
   split at h
   ·have:=ih h;simp only[Item.deep];lia
   ·cases h
  ·intro j q h;simp[Item.lps] at h
  ·intro a r h1 h2 j q h
   rw[Item.lps] at h
   have hd:Item.deeps (a::r)=max a.deep (Item.deeps r):=rfl
   cases e:a.lp with
   | some p=>rw[e] at h;cases h;have:=h1 e;rw[List.length_cons];lia
   | none=>rw[e] at h;have:=h2 h;lia
theorem z7q{P:Int}{m:Nat}:∀(k:Nat) (its:List Item),Item.deeps its<k->Item.deeps its<=20->Item.manys its<=1000->Item.oks P m its->c_a k [.tup (its.map Item.d)] = .ok (rowD ((Item.lps 0 its).getD []))
 | 0,_,h,_,_,_=>by lia
 | k+1,its,h,hdp,hmn,ho=>by
   show fnC 1 3 (g_a (c_a k)) _=_
   refine z1l rfl ?_
   delta g_a
   have hl:=Item.manys_length its
   refine x4v (List.range its.length) (fun(i:Nat)=>D.int (0+(i:Int))) (fun(i:Nat)=>((its[i]?.bind Item.lp).map fun p=>(((0+i:Nat)):Int)::p).map rowD) (fun Γ=>∃x1 x2,Γ=[.ro (.tup (its.map Item.d)),x1,x2]) ?_ ⟨_,_,rfl⟩ ?_ ?_ ?_
   ·walk_at "evs"
    rfl
   ·rintro j hj Γ ⟨x1,x2,rfl⟩
    have hj':=List.mem_range.mp hj
    have ea:its[j]? = some its[j]:=List.getElem?_eq_getElem hj'
    have ha:its[j]∈its:=List.getElem_mem hj'
    generalize its[j]=a at ea ha
    have oka:=Item.oks_iff.mp ho a ha
    have ai:=atIt ea
    simp only[ea,Option.bind_some,Nat.zero_add,Int.zero_add]
    cases a with
    | set x f =>
      simp only[Item.ok] at oka
      obtain⟨y,rfl⟩:∃y:Nat,x=(y:Int):=⟨x.toNat,by lia⟩
      have va:=y5b (r:=f) (p:=y) (by lia)
      simp only[Item.lp,Int.toNat_natCast]
      by_cases q:vec f y=0
      ·rw[if_pos q]
       refine .inr ⟨_,rfl,z9c (z5m ?_ (z1z ?_))⟩
       ·walk_at "evs"
        simp only[dIx,ai,Item.d]
        walk_at "evs"
        simp only[z0l,va,q]
        walk_at "evs"
        try rfl
       ·walk_at "evs"
        try rfl
      ·rw[if_neg q]
       have bq:(vec f y==0)=false:=by simp[q]
       refine .inl ⟨rfl,_,z1q ?_ (y3j ?_),⟨_,_,rfl⟩⟩
       ·walk_at "evs"
        simp only[dIx,ai,Item.d]
        walk_at "evs"
        simp only[z0l,va]
        walk_at "evs"
        simp only[bq]
        try walk_at "evs"
       ·walk_at "evs"
        simp only[dIx,ai,Item.d]
        walk_at "evs"
    | again n i =>
      have h1:=Item.deeps_le.mp (Nat.le_refl (Item.deeps its)) _ ha
      have h2:=Item.many_mem ha
      simp only[Item.deep] at h1
      simp only[Item.many] at h2
      simp only[Item.ok] at oka
      simp only[Item.lp]
      have c1:∀Γ:G,gAnd (gT (gBin dEq (gBin dIx (gBin dIx (gV 0) (gV 1)) (gC (.int 0))) (gC (.str "set")))) (gT (gBin dEq (gBin dIx (gBin dIx (gBin dIx (gV 0) (gV 1)) (gC (.int 2))) (gBin dIx (gBin dIx (gV 0) (gV 1)) (gC (.int 1)))) (gC (.int 0)))) (.ro (.tup (its.map Item.d)) :: .ro (.int (j:Int))::Γ) = .ok false:=fun Γ=>by
       walk_at "evs"
       simp only[dIx,ai,Item.d]
       walk_at "evs"
      by_cases q:0<n
      ·have ih:=z7q k i (by lia) (by lia) (by lia) oka.2.2
       have dq:decide (0<n)=true:=decide_eq_true q
       rw[if_pos q]
       have c2:∀Γ:G,gAnd (gT (gBin dEq (gBin dIx (gBin dIx (gV 0) (gV 1)) (gC (.int 0))) (gC (.str "again")))) (gT (gBin dGt (gBin dIx (gBin dIx (gV 0) (gV 1)) (gC (.int 1))) (gC (.int 0)))) (.ro (.tup (its.map Item.d)) :: .ro (.int (j:Int))::Γ) = .ok true:=fun Γ=>by
        walk_at "evs"
        simp only[dIx,ai,Item.d]
        walk_at "evs"
        try simp only[dq]
       have s2:∀x2:En,gNL (z0i (c_a k) (gCons (gBin dIx (gBin dIx (gV 0) (gV 1)) (gC (.int 2))) gNil)) [.ro (.tup (its.map Item.d)),.ro (.int (j:Int)),x2] = .ok (rowD ((Item.lps 0 i).getD [])):=fun x2=>by
        walk_at "evs"
        simp only[dIx,ai,Item.d,Item.ds_map]
        walk_at "evs"
        simp only[ih]
        walk_at "evs"
       cases e:Item.lps 0 i with
       | none =>
         rw[e] at s2
         refine .inl ⟨rfl,_,z1q (c1 _) (z5m (c2 _) (z1e (s2 _) (y3j ?_))),⟨_,_,rfl⟩⟩
         have ly2:D.lay 40 (.tup [])=true:=z3c 39 []
         have eq2:eqD (.tup []) (.tup [])=true:=by
          have:=z3d [] []
          rw[decide_eq_true rfl] at this
          exact this
         simp only[Option.getD_none,z0l,List.map_nil]
         walk_at "evs"
         rw[eq2]
         try rfl
       | some p =>
         rw[e] at s2
         have hne:=Item.lps_cons e
         have hlp:=Item.lps_short e
         refine .inr ⟨_,rfl,z1q (c1 _) (z5m (c2 _) (z1e (s2 _) (z5m ?_ (z1z ?_))))⟩
         ·have:eqD (rowD p) (.tup [])=false:=by
           have:=z3d p []
           rw[decide_eq_false hne] at this
           exact this
          have ly:=z3c 39 p
          have ly2:D.lay 40 (.tup [])=true:=z3c 39 []
          simp only[Option.getD_some]
          walk_at "evs"
          rw[this]
          try rfl
         ·simp only[Option.getD_some,z0l]
          walk_at "evs"
      ·rw[if_neg q]
       have dq:decide (0<n)=false:=decide_eq_false q
       refine .inl ⟨rfl,_,z1q (c1 _) (y3j ?_),⟨_,_,rfl⟩⟩
       walk_at "evs"
       simp only[dIx,ai,Item.d]
       walk_at "evs"
       try simp only[dq]
   ·rintro hN Γ ⟨x1,x2,rfl⟩
    refine z1z ?_
    have:Item.lps 0 its=none:=by
     rw[Item.lps_find]
     rw[List.findSome?_eq_none_iff] at hN ⊢
     intro x hx
     have:=hN x hx
     cases q:(its[x]?.bind Item.lp) with
     | none=>rfl
     | some p=>rw[q] at this;cases this
    rw[this]
    walk_at "evs"
    rfl
   ·intro v hv
    have:(Item.lps 0 its).map rowD=some v:=by
     rw[Item.lps_find,<-hv,List.map_findSome?]
     rfl
    cases q:Item.lps 0 its with
    | none=>rw[q] at this;cases this
    | some p=>rw[q] at this;cases this;rfl
mutual
noncomputable def Item.ah:Item->List Item
 | .set _ _=>[]
 | .again _ i=>Item.ahs i
noncomputable def Item.ahs:List Item->List Item
 | []=>[]
 | a::r=>if a.free=true then a::Item.ahs r else a.ah
end
mutual
noncomputable def Item.lx:Item->Int×List Int
 | .set x f=>(x,f)
 | .again _ i=>Item.lxs i
noncomputable def Item.lxs:List Item->Int×List Int
 | []=>(0,[])
 | a::r=>if a.free=true then Item.lxs r else a.lx
end
mutual
theorem Item.ah_split{P:Int}{m:Nat}(hp:1<P):∀a:Item,a.ok P m->a.free=false->Item.oks P m a.ah/\Item.frees a.ah=true/\Item.deeps a.ah<=a.deep/\Item.manys a.ah<=a.many/\(0<=a.lx.1/\a.lx.1<m/\(a.lx.2.length:Int)=m+1/\onW P a.lx.2/\vec a.lx.2 a.lx.1.toNat=0)/\∃B,z2e P m B/\a.tab P m=z1m P (Item.tabs P m a.ah) (z1m P ((z2d m).set a.lx.1.toNat a.lx.2) B)
 | .set x f,ho,hf=>by
   simp only[Item.ok] at ho
   simp only[Item.free,bne_eq_false_iff_eq] at hf
   have ok1:=z3i (m:=m) (x:=x.toNat) (f:=f) hp ⟨ho.2.2.2,by lia⟩
   refine⟨trivial,rfl,by simp[Item.ah,Item.deeps],by simp[Item.ah,Item.manys],⟨ho.1,ho.2.1,ho.2.2.1,ho.2.2.2,hf⟩,z2d m,z5d hp m,?_⟩
   show(z2d m).set x.toNat f=z1m P (z2d m) (z1m P ((z2d m).set x.toNat f) (z2d m))
   rw[then_K hp ok1,idle_I hp ok1]
 | .again n i,ho,hf=>by
   simp only[Item.ok] at ho
   simp only[Item.free,Bool.or_eq_false_iff,beq_eq_false_iff_ne] at hf
   obtain⟨h1,h2,h3,h3',h4,B,hB,e⟩:=Item.ahs_split hp i ho.2.2 hf.2
   obtain⟨k,hk⟩:∃k:Nat,n.toNat=k+1:=⟨n.toNat-1,by lia⟩
   have ok1:=z3i (m:=m) (x:=(Item.lxs i).1.toNat) (f:=(Item.lxs i).2) hp ⟨h4.2.2.2.1,by have:=h4.2.2.1;lia⟩
   have okT:=Item.tabs_ok hp i ho.2.2
   have okA:=Item.tabs_ok hp _ h1
   have okP:=z4k hp okT k
   have p0:0<P:=by lia
   refine⟨h1,h2,by simp only[Item.ah,Item.deep];lia,by simp only[Item.ah,Item.many];lia,h4,z1m P B (powZ P m (Item.tabs P m i) k),z2a p0 hB.1 okP.1,?_⟩
   show powZ P m (Item.tabs P m i) n.toNat=z1m P (Item.tabs P m (Item.ahs i)) (z1m P ((z2d m).set (Item.lxs i).1.toNat (Item.lxs i).2) (z1m P B (powZ P m (Item.tabs P m i) k)))
   rw[hk,y0y hp okT]
   generalize powZ P m (Item.tabs P m i) k=pk at okP
   rw[e,z2y p0 okA.1 (z2a p0 ok1.1 hB.1).1 okP.1,z2y p0 ok1.1 hB.1 okP.1]
theorem Item.ahs_split{P:Int}{m:Nat}(hp:1<P):∀its:List Item,Item.oks P m its->Item.frees its=false->Item.oks P m (Item.ahs its)/\Item.frees (Item.ahs its)=true/\Item.deeps (Item.ahs its)<=Item.deeps its/\Item.manys (Item.ahs its)<=Item.manys its/\(0<=(Item.lxs its).1/\(Item.lxs its).1<m/\((Item.lxs its).2.length:Int)=m+1/\onW P (Item.lxs its).2/\vec (Item.lxs its).2 (Item.lxs its).1.toNat=0)/\∃B,z2e P m B/\Item.tabs P m its=z1m P (Item.tabs P m (Item.ahs its)) (z1m P ((z2d m).set (Item.lxs its).1.toNat (Item.lxs its).2) B)
 | [],_,hf=>by simp[Item.frees] at hf
 | a::r,ho,hf=>by
   simp only[Item.oks] at ho
   have p0:0<P:=by lia
   by_cases q:a.free=true
   ·simp only[Item.frees,q,Bool.true_and] at hf
    obtain⟨h1,h2,h3,h3',h4,B,hB,e⟩:=Item.ahs_split hp r ho.2 hf
    have ok1:=z3i (m:=m) (x:=(Item.lxs r).1.toNat) (f:=(Item.lxs r).2) hp ⟨h4.2.2.2.1,by have:=h4.2.2.1;lia⟩
    have okA:=Item.tabs_ok hp _ h1
    have oka:=Item.tab_ok hp a ho.1
    simp only[Item.ahs,Item.lxs,if_pos q]
    refine⟨⟨ho.1,h1⟩,by simp[Item.frees,q,h2],by simp only[Item.deeps];lia,by simp only[Item.manys];lia,h4,B,hB,?_⟩
    show z1m P (a.tab P m) (Item.tabs P m r)=z1m P (z1m P (a.tab P m) (Item.tabs P m (Item.ahs r))) _
    rw[e,z2y p0 oka.1 okA.1 (z2a p0 ok1.1 hB.1).1]
   ·have q':a.free=false:=by simpa using q
    obtain⟨h1,h2,h3,h3',h4,B,hB,e⟩:=Item.ah_split hp a ho.1 q'
    have ok1:=z3i (m:=m) (x:=a.lx.1.toNat) (f:=a.lx.2) hp ⟨h4.2.2.2.1,by have:=h4.2.2.1;lia⟩
    have okA:=Item.tabs_ok hp _ h1
    have okR:=Item.tabs_ok hp r ho.2
    simp only[Item.ahs,Item.lxs,if_neg q]
    refine⟨h1,h2,by simp only[Item.deeps];lia,by simp only[Item.manys];lia,h4,z1m P B (Item.tabs P m r),z2a p0 hB.1 okR.1,?_⟩
    show z1m P (a.tab P m) (Item.tabs P m r)=_
    rw[e,z2y p0 okA.1 (z2a p0 ok1.1 hB.1).1 okR.1,z2y p0 ok1.1 hB.1 okR.1]
end
theorem y4z{P:Int}(hp:0<P)(m:Nat):onW P (z2h m):=fun x hx=>by
 unfold z2h at hx
 rw[List.eq_of_mem_replicate hx];lia
theorem y5c{P:Int}(hp:1<P)(m k:Nat):onW P (z1r m k):=fun x hx=>by
 unfold z1r at hx
 obtain⟨i,_,rfl⟩:=List.mem_map.mp hx
 split<;>lia
theorem x0m{m k:Nat}(v:Int):(z1r m k).set k v=(z2h m).set k v:=by
 refine List.ext_getElem (by simp[z1r,z2h]) fun i h1 h2=>?_
 rw[List.getElem_set,List.getElem_set]
 split
 ·rfl
 ·rename_i q
  simp[z1r,z2h]
  lia
theorem y6w{P:Int}{m x:Nat}{f:List Int}(hp:1<P)(hx:x<m)(h0:vec f x=0):z0z P ((z2d m).set x f) (z2h m)=z0z P ((z2d m).set x f) (z1r m x):=by
 rw[turn_y (z2f m) (y4z (by lia) m),turn_y (z1j m x) (y5c hp m x),x0m,z8d,z8e f hx]
 have:(f[x]?).getD 0=0:=h0
 rw[this,Int.zero_add]
theorem y2g{m x:Nat}(hx:x<m):z2h m≠z1r m x:=fun e=>by
 have:=congrArg (fun l=>(l[x]?).getD 0) e
 simp only[y5a,z5r hx,if_true] at this
 lia
theorem x3z{P:Int}{m:Nat}{its:List Item}(hD:z3t P=false)(p1:3<=P)(p2:P<=9973)(ho:Item.oks P m its)(hf:Item.frees its=false){u:List (List Int)}(hu:u=Item.tabs P m (Item.unds P (Item.ahs its))):z0z P (Item.tabs P m (Item.ahs its)) (z0z P u (z2h m))=z2h m/\z0z P (Item.tabs P m (Item.ahs its)) (z0z P u (z1r m (Item.lxs its).1.toNat))=z1r m (Item.lxs its).1.toNat/\z0z P u (z2h m)≠z0z P u (z1r m (Item.lxs its).1.toNat)/\z0z P (Item.tabs P m its) (z0z P u (z2h m))=z0z P (Item.tabs P m its) (z0z P u (z1r m (Item.lxs its).1.toNat)):=by
 have hp:1<P:=by lia
 have p0:0<P:=by lia
 obtain⟨h1,h2,h3,h3',h4,B,hB,e⟩:=Item.ahs_split hp its ho hf
 obtain⟨okU,hU⟩:=Item.unds_ok hD p1 p2 _ h1 h2
 have okA:=Item.tabs_ok hp _ h1
 have okT:=Item.tabs_ok hp _ okU
 rw[<-hu] at hU okT
 have ok1:=z3i (m:=m) (x:=(Item.lxs its).1.toNat) (f:=(Item.lxs its).2) hp ⟨h4.2.2.2.1,by have:=h4.2.2.1;lia⟩
 have lx:(Item.lxs its).1.toNat<m:=by have:=h4.1;have:=h4.2.1;lia
 have e0:=Undo.turn okT hU.symm (z2f m) (y4z p0 m)
 have e1:=Undo.turn okT hU.symm (z1j m (Item.lxs its).1.toNat) (y5c hp m _)
 have l0:(z0z P u (z2h m)).length=m:=by rw[z1k];exact okT.1
 have l1:(z0z P u (z1r m (Item.lxs its).1.toNat)).length=m:=by rw[z1k];exact okT.1
 refine⟨e0,e1,fun z=>?_,?_⟩
 ·rw[z,e1] at e0
  exact y2g lx e0.symm
 ·rw[e,turn_I okA.1 l0,turn_I okA.1 l1,e0,e1,turn_I ok1.1 (z2f m),turn_I ok1.1 (z1j m _),y6w hp lx h4.2.2.2.2]
theorem x3b{u:List Int}{y:Nat}{v:Int}(h:y<u.length):(u.take y).map D.int++(D.int v::(u.drop (y+1)).map D.int)=(u.set y v).map D.int:=by
 rw[List.set_eq_take_append_cons_drop,if_pos h,List.map_append,List.map_cons]
theorem y8f{P cell:Int}{m:Nat}{its:List Item}(p1:3<=P)(m1:1<=m)(m3:m<=3)(ho:Item.oks P m its)(hd:Item.deeps its<=3)(hc:Item.manys its<=30):∃l:List Item,c_c [.tup (its.map Item.d),.int cell] = .ok (.tup (l.map Item.d))/\Item.oks P m l/\Item.deeps l<=3/\Item.manys l<=30:=by
 have hil:=Item.manys_length its
 by_cases h0:cell%2=0∨its.length=0
 ·refine⟨its,z1l rfl ?_,ho,hd,hc⟩
  delta g_c
  refine z9c (z5m ?_ (z1z (by walk_at "evs")))
  rcases h0 with z | z
  ·have b:(cell%2==0)=true:=by simp[z]
   walk_at "evs"
   simp only[b]
   try walk_at "evs"
  ·have b:(((its.length:Nat):Int)==0)=true:=by rw[z];rfl
   rcases Bool.eq_false_or_eq_true (cell%2==0) with b1 | b1
   ·walk_at "evs"
    simp only[b1]
    try walk_at "evs"
   ·walk_at "evs"
    simp only[b1]
    walk_at "evs"
    simp only[b]
 ·have b1:(cell%2==0)=false:=by
   have:¬cell%2=0:=fun z=>h0 (.inl z)
   simp[this]
  have l0:its.length≠0:=fun z=>h0 (.inr z)
  have b2:(((its.length:Nat):Int)==0)=false:=by simp;intro z;exact l0 (by rw[z];rfl)
  obtain⟨w,hw,ew⟩:∃w:Nat,w<its.length/\cell/2%(its.length:Int)=w:=by
   have h1:=z3u (w:=cell/2) (P:=(its.length:Int)) (by lia)
   have h2:=z3v (w:=cell/2) (P:=(its.length:Int)) (by lia)
   exact⟨(cell/2%(its.length:Int)).toNat,by lia,by lia⟩
  have ea:its[w]? = some its[w]:=List.getElem?_eq_getElem hw
  have ha:its[w]∈its:=List.getElem_mem hw
  have esp:its=its.take w++its[w]::its.drop (w+1):=by rw[List.getElem_cons_drop,List.take_append_drop]
  have man:Item.manys its=Item.manys (its.take w)+(its[w].many+Item.manys (its.drop (w+1))):=by
   conv=>lhs;rw[esp]
   rw[Item.manys_append];rfl
  generalize its[w]=a at ea ha man
  have oka:=Item.oks_iff.mp ho a ha
  have da:=Item.deeps_le.mp hd a ha
  have ai:=atIt ea
  have w1:(w:Int)+1=((w+1:Nat):Int):=by lia
  have l1:(its.take w).length<=30:=by rw[List.length_take];lia
  have l2:(its.drop (w+1)).length<=30:=by rw[List.length_drop];lia
  have fin:∀(b:Item),b.ok P m->b.deep<=3->b.many=a.many->Item.oks P m (its.take w++[b]++its.drop (w+1))/\Item.deeps (its.take w++[b]++its.drop (w+1))<=3/\Item.manys (its.take w++[b]++its.drop (w+1))<=30:=fun b okb db mb=>by
   refine⟨Item.oks_append.mpr ⟨Item.oks_append.mpr ⟨Item.oks_take ho w,by simp only[Item.oks];exact⟨okb,trivial⟩⟩,Item.oks_drop ho (w+1)⟩,Item.deeps_le.mpr fun c hc=>?_,?_⟩
   ·rcases List.mem_append.mp hc with z | z
    ·rcases List.mem_append.mp z with z | z
     ·exact Item.deeps_le.mp hd c (List.mem_of_mem_take z)
     ·rw[List.mem_singleton.mp z];exact db
    ·exact Item.deeps_le.mp hd c (List.mem_of_mem_drop z)
   ·rw[Item.manys_append,Item.manys_append]
    simp only[Item.manys]
    lia
  have last:∀(b:Item),gRet (gBin dAdd (gBin dAdd (gSl (gV 0) gON (gOS (gV 2))) (gTup (gCons (gV 3) gNil))) (gSl (gV 0) (gOS (gBin dAdd (gV 2) (gC (.int 1)))) gON)) [.ro (.tup (its.map Item.d)),.ro (.int cell),.ro (.int w),.ro b.d] = .ok (.rt (.tup ((its.take w++[b]++its.drop (w+1)).map Item.d))):=fun b=>by
   refine z1z ?_
   simp only[List.map_append,List.map_cons,List.map_nil,List.append_assoc,List.cons_append,List.nil_append]
   generalize b.d=bd
   walk_at "evs"
   rw[w1,z5x,z4g]
   simp only[<-List.map_take,<-List.map_drop]
   walk_at "evs"
  have na:=Item.noL a
  have head:∀(v:G->R Fl) (r:R Fl),v [.ro (.tup (its.map Item.d)),.ro (.int cell),.ro (.int w),.ro a.d]=r->(gSt (gIfS (gOr (gT (gBin dEq (gBin dMod (gV 1) (gC (.int 2))) (gC (.int 0)))) (gT (gBin dEq (z0i dLen (gCons (gV 0) gNil)) (gC (.int 0))))) (gRet (gV 0)) z2l)
 (gSt (gSet 2 (gNL (gBin dMod (gBin dDiv (gV 1) (gC (.int 2))) (z0i dLen (gCons (gV 0) gNil)))))
 (gSt (gSet 3 (gNL (gBin dIx (gV 0) (gV 2)))) v))) [.ro (.tup (its.map Item.d)),.ro (.int cell),.no,.no]=r:=fun v r h=>by
   refine z1q ?_ (z1e (d:=.int w) ?_ (z1e (d:=a.d) ?_ h))
   ·walk_at "evs"
    simp only[b1]
    walk_at "evs"
    simp only[b2]
   ·walk_at "evs"
    rw[ew]
   ·generalize a.d=ad at ai na ⊢
    walk_at "evs"
    simp only[dIx,ai]
    walk_at "evs"
  cases a with
  | set x f =>
    simp only[Item.ok] at oka
    obtain⟨y,rfl⟩:∃y:Nat,x=(y:Int):=⟨x.toNat,by lia⟩
    have okb:(Item.set (y:Int) (f.set y 0)).ok P m:=by
     simp only[Item.ok]
     exact⟨by lia,by lia,by rw[List.length_set];lia,onW.set oka.2.2.2 (by lia) (by lia)⟩
    refine⟨its.take w++[Item.set (y:Int) (f.set y 0)]++its.drop (w+1),z1l rfl ?_,fin _ okb (by simp[Item.deep]) (by simp[Item.many])⟩
    delta g_c
    refine head _ _ (z8c (Γ':=[.ro (.tup (its.map Item.d)),.ro (.int cell),.ro (.int w),.ro (Item.set (y:Int) (f.set y 0)).d]) (z5m (by walk_at "evs") (y1t ?_)) (last _))
    have nS:=Item.noL (Item.set (y:Int) (f.set y 0))
    have y1:(y:Int)+1=((y+1:Nat):Int):=by lia
    have l3:(f.take y).length<=30:=by rw[List.length_take];lia
    have l4:(f.drop (y+1)).length<=30:=by rw[List.length_drop];lia
    simp only[Item.d,z0l,<-x3b (v:=0) (show y<f.length by lia)] at nS ⊢
    walk_at "evs"
    rw[y1,z5x,z4g]
    simp only[<-List.map_take,<-List.map_drop]
    walk_at "evs"
  | again n i =>
    refine⟨its.take w++[Item.again n i]++its.drop (w+1),z1l rfl ?_,fin _ oka da rfl⟩
    delta g_c
    exact head _ _ (z1q (by walk_at "evs") (last _))
theorem Item.lps_at{P:Int}{m:Nat}:∀{its:List Item} {j0:Nat} {q:List Int},Item.oks P m its->Item.lps j0 its=some q->∃(j:Nat) (a:Item) (p:List Int),q=(((j0+j:Nat)):Int)::p/\its[j]? = some a/\a.lp=some p/\Item.ahs its=its.take j++a.ah/\Item.lxs its=a.lx
 | [],j0,q,_,h=>by simp[Item.lps] at h
 | a::r,j0,q,ho,h=>by
   simp only[Item.oks] at ho
   rw[Item.lps] at h
   have hf:=Item.lp_free a ho.1
   cases e:a.lp with
   | some p =>
     rw[e] at h hf
     cases h
     have nf:¬a.free=true:=fun z=>by have:=hf.mpr z;cases this
     exact⟨0,a,p,rfl,rfl,e,by simp[Item.ahs,nf],by simp[Item.lxs,nf]⟩
   | none =>
     rw[e] at h hf
     have yf:=hf.mp rfl
     obtain⟨j,b,p,h1,h2,h3,h4,h5⟩:=Item.lps_at ho.2 h
     exact⟨j+1,b,p,by rw[h1];congr 2;lia,h2,h3,by simp[Item.ahs,yf,h4],by simp[Item.lxs,yf,h5]⟩
theorem Item.lp_set{a:Item}(h:a.lp=some []):∃x f,a = .set x f/\vec f x.toNat=0:=by
 cases a with
 | set x f =>
   simp only[Item.lp] at h
   split at h
   ·rename_i q;exact⟨x,f,rfl,q⟩
   ·cases h
 | again n i =>
   simp only[Item.lp] at h
   split at h
   ·exact absurd rfl (Item.lps_cons h)
   ·cases h
theorem Item.lp_again{a:Item}{k:Int}{p:List Int}(h:a.lp=some (k::p)):∃n i,a = .again n i/\0<n/\Item.lps 0 i=some (k::p):=by
 cases a with
 | set x f =>
   simp only[Item.lp] at h
   split at h<;>cases h
 | again n i =>
   simp only[Item.lp] at h
   split at h
   ·rename_i q;exact⟨n,i,rfl,q,h⟩
   ·cases h
noncomputable def plD(o:Option (List Int)):D:=match o with
 | none=>.non
 | some q=>rowD q
theorem z7u:plD none = .non:=rfl
theorem z7t(q:List Int):plD (some q)=rowD q:=rfl
theorem z8q{gb:G->R Fl}{i j:Nat}{I:G->Prop}{res:Nat->D->Option D}:∀{xs:List D} {k:Nat} {Γ:G},I Γ->(∀(n:Nat) (a:D) (Γ:G),xs[n]? = some a->I Γ->(res (k+n) a=none/\∃Γ',gb ((Γ.set i (.ro (.int ((k+n:Nat):Int)))).set j (.ro a)) = .ok (.nx Γ')/\I Γ')∨∃v,res (k+n) a=some v/\gb ((Γ.set i (.ro (.int ((k+n:Nat):Int)))).set j (.ro a)) = .ok (.rt v))->((∀(n:Nat) (a:D),xs[n]? = some a->res (k+n) a=none)/\∃Γ',z3e gb i j (z4l k xs) Γ = .ok (.nx Γ')/\I Γ')∨∃(n:Nat) (a v:D),xs[n]? = some a/\(∀(n':Nat) (a':D),n'<n->xs[n']? = some a'->res (k+n') a'=none)/\res (k+n) a=some v/\z3e gb i j (z4l k xs) Γ = .ok (.rt v)
 | [],k,Γ,h,_=>.inl ⟨fun n a e=>by simp at e,Γ,rfl,h⟩
 | x::xs,k,Γ,h,q=>by
   rcases q 0 x Γ rfl h with ⟨r,Γ',e1,i1⟩ | ⟨v,r,e1⟩
   ·simp only[Nat.add_zero] at r e1
    rcases z8q (xs:=xs) (k:=k+1) i1 (fun n b Γ hb hI=>by have:=q (n+1) b Γ (by simpa using hb) hI;rw[show k+(n+1)=k+1+n by lia] at this;exact this) with ⟨r2,z⟩ | ⟨n,a,v,h1,h2,h3,z⟩
    ·refine .inl ⟨fun n a ha=>?_,?_⟩
     ·cases n with
      | zero=>simp at ha;subst ha;simpa using r
      | succ n=>rw[show k+(n+1)=k+1+n by lia];exact r2 n a (by simpa using ha)
     ·rw[z4l,z3e,e1];exact z
    ·refine .inr ⟨n+1,a,v,by simpa using h1,fun n' a' hn ha=>?_,by rw[show k+(n+1)=k+1+n by lia];exact h3,by rw[z4l,z3e,e1];exact z⟩
     cases n' with
     | zero=>simp at ha;subst ha;simpa using r
     | succ n'=>rw[show k+(n'+1)=k+1+n' by lia];exact h2 n' a' (by lia) (by simpa using ha)
   ·simp only[Nat.add_zero] at r e1
    exact .inr ⟨0,x,v,rfl,fun n' _ hn=>absurd hn (Nat.not_lt_zero _),by simpa using r,by rw[z4l,z3e,e1]⟩
theorem Item.lps_none{j0:Nat}:∀{its:List Item},(∀a∈its,a.lp=none)->Item.lps j0 its=none
 | [],_=>by simp[Item.lps]
 | a::r,h=>by rw[Item.lps,h a List.mem_cons_self];exact Item.lps_none fun b hb=>h b (List.mem_cons_of_mem _ hb)
theorem Item.lps_some{j0:Nat}:∀{its:List Item} {n:Nat} {a:Item} {p:List Int},its[n]? = some a->a.lp=some p->(∀(n':Nat) (a':Item),n'<n->its[n']? = some a'->a'.lp=none)->Item.lps j0 its=some (((j0+n:Nat):Int)::p)
 | [],n,a,p,h,_,_=>by simp at h
 | b::r,0,a,p,h,e,_=>by simp at h;subst h;rw[Item.lps,e];rfl
 | b::r,n+1,a,p,h,e,hn=>by
   rw[Item.lps,hn 0 b (by lia) rfl]
   show Item.lps (j0+1) r=_
   rw[Item.lps_some (n:=n) (by simpa using h) e fun n' a' z hz=>hn (n'+1) a' (by lia) (by simpa using hz)]
   congr 2;congr 1;lia
theorem s_f{P:Int}{m:Nat}:∀(k:Nat) (its:List Item),2*Item.deeps its+2<=k->Item.deeps its<=20->Item.manys its<=1000->Item.oks P m its->c_f k [.tup (its.map Item.d)] = .ok (plD (Item.lps 0 its)):=by
 intro k
 induction k using Nat.strongRecOn with
 | ind k IH =>
 intro its h hdp hmn ho
 obtain⟨k,rfl⟩:∃k',k=k'+2:=⟨k-2,by lia⟩
 have hl:=Item.manys_length its
 have W:∀a∈its,c_d (k+1) [a.d] = .ok (plD a.lp):=fun a ha=>by
  have oka:=Item.oks_iff.mp ho a ha
  show fnC 1 1 (g_d (c_f k) (c_d k)) _=_
  refine z1l rfl ?_
  delta g_d
  cases a with
  | set x f =>
    simp only[Item.ok] at oka
    obtain⟨y,rfl⟩:∃y:Nat,x=(y:Int):=⟨x.toNat,by lia⟩
    have va:=y5b (r:=f) (p:=y) (by lia)
    refine z9c (z5m ?_ (z1z ?_))
    ·simp only[Item.d]
     walk_at "evs"
    ·simp only[Item.lp,Int.toNat_natCast,Item.d,z0l]
     by_cases q:vec f y=0
     ·rw[if_pos q,z7t]
      walk_at "evs"
      simp only[va,q]
      walk_at "evs"
      try rfl
     ·rw[if_neg q,z7u]
      have bq:(vec f y==0)=false:=by simp[q]
      walk_at "evs"
      simp only[va]
      walk_at "evs"
      simp only[bq]
      walk_at "evs"
      try rfl
  | again n i =>
    have h1:=Item.deeps_le.mp (Nat.le_refl (Item.deeps its)) _ ha
    have h2:=Item.many_mem ha
    simp only[Item.deep] at h1
    simp only[Item.many] at h2
    simp only[Item.ok] at oka
    refine z1q ?_ (z1z ?_)
    ·simp only[Item.d]
     walk_at "evs"
    ·simp only[Item.lp,Item.d,Item.ds_map]
     by_cases q:0<n
     ·have ih:=IH k (by lia) i (by lia) (by lia) (by lia) oka.2.2
      have dq:decide (0<n)=true:=decide_eq_true q
      rw[if_pos q]
      walk_at "evs"
      simp only[dq]
      walk_at "evs"
      simp only[ih]
      try walk_at "evs"
     ·have dq:decide (0<n)=false:=decide_eq_false q
      rw[if_neg q,z7u]
      walk_at "evs"
      simp only[dq]
      walk_at "evs"
      try rfl
 show fnC 1 4 (g_f (c_f (k+1)) (c_d (k+1))) _=_
 refine z1l rfl ?_
 delta g_f
 have hb:∀(n:Nat) (a:D) (Γ:G),(its.map Item.d)[n]? = some a->(∃x1 x2 x3,Γ=[En.ro (.tup (its.map Item.d)),x1,x2,x3])->((match its[0+n]? with | some b=>b.lp.map fun p=>rowD (((0+n:Nat):Int)::p) | none=>none)=none/\∃Γ',(gSt (gSet 3 (gNL (z0i (c_d (k+1)) (gCons (gV 2) gNil))))
 (gIfS (gT (gBin y1z (gV 3) (gC .non))) (gRet (gBin dAdd (gTup (gCons (gV 1) gNil)) (gV 3))) z2l)) ((Γ.set 1 (.ro (.int ((0+n:Nat):Int)))).set 2 (.ro a)) = .ok (.nx Γ')/\∃x1 x2 x3,Γ'=[En.ro (.tup (its.map Item.d)),x1,x2,x3])∨∃v,(match its[0+n]? with | some b=>b.lp.map fun p=>rowD (((0+n:Nat):Int)::p) | none=>none)=some v/\(gSt (gSet 3 (gNL (z0i (c_d (k+1)) (gCons (gV 2) gNil))))
 (gIfS (gT (gBin y1z (gV 3) (gC .non))) (gRet (gBin dAdd (gTup (gCons (gV 1) gNil)) (gV 3))) z2l)) ((Γ.set 1 (.ro (.int ((0+n:Nat):Int)))).set 2 (.ro a)) = .ok (.rt v):=by
  rintro n a Γ ha ⟨x1,x2,x3,rfl⟩
  rw[List.getElem?_map] at ha
  cases e:its[n]? with
  | none=>rw[e] at ha;cases ha
  | some b =>
    rw[e] at ha
    cases ha
    have hbm:b∈its:=List.mem_of_getElem? e
    have wb:=W b hbm
    simp only[Nat.zero_add,e]
    have s2:∀x3:En,gNL (z0i (c_d (k+1)) (gCons (gV 2) gNil)) [En.ro (.tup (its.map Item.d)),.ro (.int (n:Int)),.ro b.d,x3] = .ok (plD b.lp):=fun x3=>by
     have nb:(plD b.lp).noL=true:=by cases b.lp with | none=>rfl | some p=>exact z1f p
     walk_at "evs"
     simp only[wb]
     walk_at "evs"
    cases ep:b.lp with
    | none =>
      rw[ep] at s2
      refine .inl ⟨rfl,_,z1e (s2 _) (y3j ?_),⟨_,_,_,rfl⟩⟩
      simp only[z7u]
      walk_at "evs"
      try simp only[y1z]
      try walk_at "evs"
    | some p =>
      rw[ep] at s2
      have hlp:p.length<=100:=by
       have h1:=Item.deeps_le.mp (Nat.le_refl (Item.deeps its)) _ hbm
       cases p with
       | nil=>simp
       | cons a p =>
         obtain⟨_,i,rfl,_,z⟩:=Item.lp_again ep
         have:=Item.lps_short z
         simp only[Item.deep] at h1
         lia
      refine .inr ⟨_,rfl,z1e (s2 _) (z5m ?_ (z1z ?_))⟩
      ·simp only[z7t,z0l]
       walk_at "evs"
       try simp only[y1z]
       try walk_at "evs"
      ·simp only[z7t,z0l]
       walk_at "evs"
       try rfl
 rcases z8q (gb:=(gSt (gSet 3 (gNL (z0i (c_d (k+1)) (gCons (gV 2) gNil))))
 (gIfS (gT (gBin y1z (gV 3) (gC .non))) (gRet (gBin dAdd (gTup (gCons (gV 1) gNil)) (gV 3))) z2l))) (i:=1) (j:=2) (xs:=its.map Item.d) (k:=0) (Γ:=[En.ro (.tup (its.map Item.d)),.no,.no,.no]) (I:=fun Γ=>∃x1 x2 x3,Γ=[En.ro (.tup (its.map Item.d)),x1,x2,x3]) (res:=fun n _=>match its[n]? with | some b=>b.lp.map fun p=>rowD ((n:Int)::p) | none=>none) ⟨_,_,_,rfl⟩ hb with ⟨z,Γ',e,x1,x2,x3,rfl⟩ | ⟨n,a,v,h1,h2,h3,e⟩
 ·refine z8c (Γ':=[En.ro (.tup (its.map Item.d)),x1,x2,x3]) ?_ (z1z ?_)
  ·unfold y9l y5t
   simp only[ini,gVr]
   exact e
  ·rw[Item.lps_none fun b hbm=>?_,z7u]
   ·walk_at "evs"
   ·obtain⟨n,e1⟩:=List.mem_iff_getElem?.mp hbm
    have:=z n b.d (by rw[List.getElem?_map,e1];rfl)
    simp only[Nat.zero_add,e1] at this
    cases q:b.lp with
    | none=>rfl
    | some p=>rw[q] at this;cases this
 ·simp only[Nat.zero_add] at h2 h3
  cases e1:its[n]? with
  | none=>rw[e1] at h3;cases h3
  | some b =>
    rw[e1] at h3
    cases ep:b.lp with
    | none=>simp only[ep] at h3;cases h3
    | some p =>
      simp only[ep,Option.map_some] at h3
      cases h3
      rw[Item.lps_some e1 ep fun n' a' hn' z=>?_,z7t,Nat.zero_add]
      ·refine z9c ?_
       unfold y9l y5t
       simp only[ini,gVr]
       exact e
      ·have:=h2 n' a'.d hn' (by rw[List.getElem?_map,z];rfl)
       simp only[z] at this
       cases q:a'.lp with
       | none=>rfl
       | some p=>rw[q] at this;cases this
mutual
theorem Item.ah_manys:∀a:Item,Item.manys a.ah<=a.many
 | .set _ _=>by simp[Item.ah,Item.manys]
 | .again _ i=>by have:=Item.ahs_manys i;simp only[Item.ah,Item.many];lia
theorem Item.ahs_manys:∀its:List Item,Item.manys (Item.ahs its)<=Item.manys its
 | []=>by simp[Item.ahs,Item.manys]
 | a::r=>by
   have h1:=Item.ah_manys a
   have h2:=Item.ahs_manys r
   rw[Item.ahs]
   split
   ·simp only[Item.manys];lia
   ·simp only[Item.manys];lia
end
theorem s_x{P:Int}{m:Nat}:∀(k:Nat) (its:List Item) (q:List Int),q.length<=k->q.length<=100->Item.manys its<=1000->Item.oks P m its->Item.lps 0 its=some q->c_x k [.tup (its.map Item.d),rowD q] = .ok (Item.set (Item.lxs its).1 (Item.lxs its).2).d
 | 0,its,q,h,_,_,ho,e=>by
   obtain⟨j,a,p,rfl,_⟩:=Item.lps_at ho e
   simp at h
 | k+1,its,q,h,hq,hmn,ho,e=>by
   obtain⟨j,a,p,rfl,ea,ep,_,ex⟩:=Item.lps_at ho e
   have hl:=Item.manys_length its
   have ai:=atIt ea
   have ha:a∈its:=List.mem_of_getElem? ea
   have oka:=Item.oks_iff.mp ho a ha
   have na:=Item.noL a
   rw[Nat.zero_add] at *
   simp only[List.length_cons] at h hq
   show fnC 2 3 (g_x (c_x k)) _=_
   refine z1l rfl ?_
   delta g_x
   have s1:gNL (gBin dIx (gV 0) (gBin dIx (gV 1) (gC (.int 0)))) (ini 3 [.tup (its.map Item.d),rowD ((j:Int)::p)]) = .ok a.d:=by
    simp only[z0l]
    walk_at "evs"
    simp only[dIx,ai]
    walk_at "evs"
   refine z1e s1 ?_
   cases p with
   | nil =>
     obtain⟨x,f,rfl,_⟩:=Item.lp_set ep
     rw[ex]
     refine z9c (z5m ?_ (z1z ?_))
     ·simp only[z0l]
      walk_at "evs"
      try rfl
     ·walk_at "evs"
      try rfl
   | cons b p =>
     obtain⟨n,i,rfl,_,z⟩:=Item.lp_again ep
     have h2:=Item.many_mem ha
     simp only[Item.many] at h2
     simp only[Item.ok] at oka
     have ih:=s_x k i (b::p) (by simpa using h) (by simp only[List.length_cons] at hq ⊢;lia) (by lia) oka.2.2 z
     rw[ex]
     have cd:cutL ((j:Int)::b::p) (some ((1:Nat):Int)) none=b::p:=by rw[z4g];rfl
     have bq:((p.length:Int)+1+1==1)=false:=by simp;lia
     refine z1q ?_ (z1z ?_)
     ·simp only[z0l]
      walk_at "evs"
      try (simp only[List.length_cons,Int.natCast_add,Int.natCast_one,Nat.cast_ofNat_Int,bq])
      try rfl
     ·simp only[Item.d,Item.ds_map,z0l] at ih ⊢
      walk_at "evs"
      rw[<-List.map_cons,<-List.map_cons,y0h,show(1:Int)=((1:Nat):Int) from rfl,cd]
      simp only[ih]
      rfl
theorem s_j{P:Int}{m:Nat}:∀(k:Nat) (its:List Item) (q:List Int),q.length<=k->q.length<=100->Item.manys its<=1000->Item.oks P m its->Item.lps 0 its=some q->c_j k [.tup (its.map Item.d),rowD q] = .ok (.tup ((Item.ahs its).map Item.d))
 | 0,its,q,h,_,_,ho,e=>by
   obtain⟨j,a,p,rfl,_⟩:=Item.lps_at ho e
   simp at h
 | k+1,its,q,h,hq,hmn,ho,e=>by
   obtain⟨j,a,p,rfl,ea,ep,eh,_⟩:=Item.lps_at ho e
   have hl:=Item.manys_length its
   have ai:=atIt ea
   have ha:a∈its:=List.mem_of_getElem? ea
   have oka:=Item.oks_iff.mp ho a ha
   have na:=Item.noL a
   have nt:=z6k (its.take j)
   rw[Nat.zero_add] at *
   simp only[List.length_cons] at h hq
   show fnC 2 3 (g_j (c_j k)) _=_
   refine z1l rfl ?_
   delta g_j
   have s1:gNL (gSl (gV 0) gON (gOS (gBin dIx (gV 1) (gC (.int 0))))) (ini 3 [.tup (its.map Item.d),rowD ((j:Int)::p)]) = .ok (.tup ((its.take j).map Item.d)):=by
    simp only[z0l]
    walk_at "evs"
    rw[z5x,<-List.map_take]
    walk_at "evs"
   refine z1e s1 ?_
   cases p with
   | nil =>
     obtain⟨x,f,rfl,_⟩:=Item.lp_set ep
     rw[eh]
     simp only[Item.ah,List.append_nil]
     refine z9c (z5m ?_ (z1z ?_))
     ·simp only[z0l]
      walk_at "evs"
      try rfl
     ·walk_at "evs"
   | cons b p =>
     obtain⟨n,i,rfl,hn,z⟩:=Item.lp_again ep
     have h2:=Item.many_mem ha
     simp only[Item.many] at h2
     simp only[Item.ok] at oka
     have ih:=s_j k i (b::p) (by simpa using h) (by simp only[List.length_cons] at hq ⊢;lia) (by lia) oka.2.2 z
     have cd:cutL ((j:Int)::b::p) (some ((1:Nat):Int)) none=b::p:=by rw[z4g];rfl
     have bq:((p.length:Int)+1+1==1)=false:=by simp;lia
     have l2:(its.take j).length+(Item.ahs i).length<=1000:=by
      have a1:=Item.manys_length (Item.ahs its)
      have a2:=Item.ahs_manys its
      rw[eh] at a1 a2
      simp only[Item.ah,List.length_append] at a1 a2
      lia
     rw[eh]
     simp only[Item.ah]
     refine z1q ?_ (z1z ?_)
     ·simp only[z0l]
      walk_at "evs"
      try (simp only[List.length_cons,Int.natCast_add,Int.natCast_one,Nat.cast_ofNat_Int,bq])
      try rfl
     ·simp only[z0l] at ih ⊢
      rw[List.map_append]
      walk_at "evs"
      simp only[dIx,ai,Item.d,Item.ds_map]
      walk_at "evs"
      rw[<-List.map_cons,<-List.map_cons,y0h,show(1:Int)=((1:Nat):Int) from rfl,cd]
      simp only[ih]
      walk_at "evs"
theorem y8a{m x:Nat}(h:x<m):atI ((z2s m).map rowD) (1+(x:Int))=some (rowD (z1r m x)):=by
 rw[show(1+(x:Int))=((x+1:Nat):Int) by lia,y3x (by lia),Int.toNat_natCast]
 unfold z2s
 rw[List.map_cons,List.getElem?_cons_succ,List.getElem?_map,List.getElem?_map,List.getElem?_range h]
 rfl
noncomputable def x4a(P:Int)(m:Nat)(its:List Item)(q:List Int):List D :=
 [rowD q,rowD (z0z P (Item.tabs P m (Item.unds P (Item.ahs its))) (z2h m)),rowD (z0z P (Item.tabs P m (Item.unds P (Item.ahs its))) (z1r m (Item.lxs its).1.toNat)),rowD (z0z P (Item.tabs P m its) (z0z P (Item.tabs P m (Item.unds P (Item.ahs its))) (z2h m)))]
theorem s_J{P:Int}{m:Nat}{its:List Item}(hD:z3t P=false)(p1:3<=P)(p2:P<=9973)(m3:m<=3)(hd:Item.deeps its<=3)(hc:Item.manys its<=100)(ho:Item.oks P m its):c_J [.int P,.int m,.tup (its.map Item.d)] = .ok (match Item.lps 0 its with | none=>.non | some q=>.tup (x4a P m its q)):=by
 have hp:1<P:=by lia
 have p0:0<P:=by lia
 have L:=s_f (P:=P) (m:=m) 12 its (by lia) (by lia) (by lia) ho
 have hl:=Item.manys_length its
 refine z1l rfl ?_
 delta g_J
 cases e:Item.lps 0 its with
 | none =>
   rw[e,z7u] at L
   refine z1e (d:=.non) (by walk_at "evs";simp only[L];walk_at "evs") (z9c (z5m ?_ (z1z ?_)))
   ·walk_at "evs"
   ·walk_at "evs"
 | some q =>
   rw[e,z7t] at L
   have hq:=Item.lps_short e
   have nq:=z1f q
   have hf:Item.frees its=false:=by
    have:=Item.lps_free (P:=P) (many:=m) 0 its ho
    cases z:Item.frees its with
    | false=>rfl
    | true=>rw[this.mpr z] at e;cases e
   have I1:=s_x (P:=P) (m:=m) 12 its q (by lia) (by lia) (by lia) ho e
   have A1:=s_j (P:=P) (m:=m) 12 its q (by lia) (by lia) (by lia) ho e
   obtain⟨h1,h2,h3,h3',h4,-⟩:=Item.ahs_split hp its ho hf
   obtain⟨okU,hU⟩:=Item.unds_ok hD p1 p2 _ h1 h2
   have U1:=s_C hD p1 p2 m3 12 (Item.ahs its) (by lia) (by have:=Item.manys_length (Item.ahs its);lia) (by lia) h1
   rw[if_pos h2] at U1
   have dU:Item.deeps (Item.unds P (Item.ahs its))<=3:=by have:=Item.unds_deep P (Item.ahs its);lia
   have T1:=s_w p1 p2 m3 12 (Item.unds P (Item.ahs its)) (by lia) okU
   have T2:=s_w p1 p2 m3 12 its (by lia) ho
   have ok1:=Item.tabs_ok hp _ okU
   have ok2:=Item.tabs_ok hp _ ho
   have es:=y8e (n:=m) (by lia)
   have stl:=y4f m
   have at0:atI ((z2s m).map rowD) 0=some (rowD (z2h m)):=by unfold z2s;exact z4i 0
   obtain⟨x,hx⟩:∃x:Nat,(Item.lxs its).1=(x:Int):=⟨(Item.lxs its).1.toNat,by have:=h4.1;lia⟩
   have xm:x<m:=by have:=h4.2.1;lia
   have at1:=y8a xm
   have lx:(Item.lxs its).1.toNat=x:=by lia
   unfold x4a
   rw[lx]
   generalize Item.tabs P m (Item.unds P (Item.ahs its))=u at *
   generalize Item.tabs P m its=t at *
   have tz:=s_A (P:=P) (ts:=u) (ss:=z2h m) p0 (by lia) (by rw[z2f];exact ok1) (by rw[z2f];lia)
   have tx:=s_A (P:=P) (ts:=u) (ss:=z1r m x) p0 (by lia) (by rw[z1j];exact ok1) (by rw[z1j];lia)
   have lz:(z0z P u (z2h m)).length=m:=by rw[z1k];exact ok1.1
   have te:=s_A (P:=P) (ts:=t) (ss:=z0z P u (z2h m)) p0 (by lia) (by rw[lz];exact ok2) (by rw[lz];lia)
   have nz:=z1f (z0z P u (z2h m))
   have nx:=z1f (z0z P u (z1r m x))
   have ne:=z1f (z0z P t (z0z P u (z2h m)))
   have nst:=z4x (z2s m)
   refine z1e (d:=rowD q) (by walk_at "evs";simp only[L];walk_at "evs") (z1q ?_ (z1e (d:=.int x) ?_ (z1e (d:=tabD u) ?_ (z1e (d:=rowD (z0z P u (z2h m))) ?_ (z1e (d:=rowD (z0z P u (z1r m x))) ?_ (z1z ?_))))))
   ·simp only[z0l]
    walk_at "evs"
   ·walk_at "evs"
    simp only[I1,Item.d,hx]
    walk_at "evs"
   ·walk_at "evs"
    simp only[A1]
    walk_at "evs"
    simp only[U1]
    walk_at "evs"
    simp only[T1]
    walk_at "evs"
   ·walk_at "evs"
    simp only[es]
    walk_at "evs"
    simp only[dIx,at0]
    walk_at "evs"
    simp only[tabD,rowD,tz]
    walk_at "evs"
   ·walk_at "evs"
    simp only[es]
    walk_at "evs"
    simp only[dIx,at1]
    walk_at "evs"
    simp only[tabD,rowD,tx]
    walk_at "evs"
   ·walk_at "evs"
    simp only[T2]
    walk_at "evs"
    simp only[tabD,rowD,te]
    walk_at "evs"
theorem Item.manys_take_get:∀{its:List Item} {j:Nat} {a:Item},its[j]? = some a->Item.manys (its.take j)+a.many<=Item.manys its
 | [],j,a,h=>by simp at h
 | b::r,0,a,h=>by simp at h;subst h;simp only[List.take_zero,Item.manys];lia
 | b::r,j+1,a,h=>by
   have:=Item.manys_take_get (its:=r) (j:=j) (by simpa using h)
   simp only[List.take_succ_cons,Item.manys];lia
theorem x0l{P:Int}{m:Nat}(pl:En):∀(q:List Int) (its acc:List Item) (x3:En),Item.oks P m its->Item.lps 0 its=some q->Item.manys its+acc.length<=500->∃(its' acc':List Item) (j:Nat) (x3':En),z3n (gSt (gSet 2 (gNL (gBin dAdd (gV 2) (gSl (gV 0) gON (gOS (gV 3))))))
 (gSet 0 (gNL (gBin dIx (gBin dIx (gV 0) (gV 3)) (gC (.int 2)))))) 3 (q.dropLast.map D.int) [.ro (.tup (its.map Item.d)),pl,.ro (.tup (acc.map Item.d)),x3] = .ok (.nx [.ro (.tup (its'.map Item.d)),pl,.ro (.tup (acc'.map Item.d)),x3'])/\its'[j]? = some (.set (Item.lxs its).1 (Item.lxs its).2)/\q=q.dropLast++[(j:Int)]/\acc'++its'.take j=acc++Item.ahs its/\acc'.length+its'.length<=500
 | [],its,acc,x3,ho,e,_=>absurd rfl (Item.lps_cons e)
 | [j0],its,acc,x3,ho,e,hb=>by
   obtain⟨j,a,p,hq,ea,ep,eh,ex⟩:=Item.lps_at ho e
   cases hq
   obtain⟨x,f,rfl,_⟩:=Item.lp_set ep
   have hl:=Item.manys_length its
   refine⟨its,acc,j,x3,rfl,by rw[ex];exact ea,by simp,by rw[eh];simp[Item.ah],by lia⟩
 | j0::b::p,its,acc,x3,ho,e,hb=>by
   obtain⟨j,a,p',hq,ea,ep,eh,ex⟩:=Item.lps_at ho e
   rw[Nat.zero_add] at hq
   cases hq
   obtain⟨n,i,rfl,hn,z⟩:=Item.lp_again ep
   have hl:=Item.manys_length its
   have ai:=atIt ea
   have ha:=List.mem_of_getElem? ea
   have oka:=Item.oks_iff.mp ho _ ha
   simp only[Item.ok] at oka
   have ma:=Item.manys_take_get ea
   simp only[Item.many] at ma
   have ml:=Item.manys_length (its.take j)
   obtain⟨its',acc',j',x3',h1,h2,h3,h4,h5⟩:=x0l pl (b::p) i (acc++its.take j) (.ro (.int j)) oka.2.2 z (by rw[List.length_append];lia)
   refine⟨its',acc',j',x3',?_,by rw[ex];exact h2,?_,by rw[h4,eh,List.append_assoc];rfl,h5⟩
   ·have hdl:((j:Int)::b::p).dropLast=(j:Int)::(b::p).dropLast:=rfl
    rw[hdl,List.map_cons,z5p]
    have nA:=z6k (acc++its.take j)
    have nI:=z6k i
    have lt:(its.take j).length<=its.length:=by rw[List.length_take];lia
    have b1:(gSt (gSet 2 (gNL (gBin dAdd (gV 2) (gSl (gV 0) gON (gOS (gV 3))))))
 (gSet 0 (gNL (gBin dIx (gBin dIx (gV 0) (gV 3)) (gC (.int 2)))))) [.ro (.tup (its.map Item.d)),pl,.ro (.tup (acc.map Item.d)),.ro (.int j)] = .ok (.nx [.ro (.tup (i.map Item.d)),pl,.ro (.tup ((acc++its.take j).map Item.d)),.ro (.int j)]):=by
     refine z1e (d:=.tup ((acc++its.take j).map Item.d)) ?_ (y1t (d:=.tup (i.map Item.d)) ?_)
     ·rw[List.map_append] at nA ⊢
      walk_at "evs"
      rw[z5x,<-List.map_take]
      walk_at "evs"
     ·walk_at "evs"
      simp only[dIx,ai,Item.d,Item.ds_map]
      walk_at "evs"
    rw[show([.ro (.tup (its.map Item.d)),pl,.ro (.tup (acc.map Item.d)),x3]:G).set 3 (.ro (.int j))=[.ro (.tup (its.map Item.d)),pl,.ro (.tup (acc.map Item.d)),.ro (.int j)] from rfl]
    rw[b1]
    exact h1
   ·show(j:Int)::b::p=(j:Int)::((b::p).dropLast++[(j':Int)])
    rw[<-h3]
theorem x3g{P:Int}{m:Nat}{its:List Item}{q:List Int}(ho:Item.oks P m its)(e:Item.lps 0 its=some q)(hc:Item.manys its<=100)(hq:q.length<=100):c_q [.tup (its.map Item.d),rowD q] = .ok (.tup [.tup ((Item.ahs its).map Item.d),(Item.set (Item.lxs its).1 (Item.lxs its).2).d]):=by
 obtain⟨its',acc',j,x3',h1,h2,h3,h4,h5⟩:=x0l (P:=P) (m:=m) (.ro (rowD q)) q its [] .no ho e (by simp;lia)
 have ai:=atIt h2
 have n1:q.length=q.dropLast.length+1:=by
  have:=congrArg List.length h3
  simpa using this
 refine z1l rfl ?_
 delta g_q
 have n0:(D.tup []).noL=true:=z6k []
 refine z1e (d:=.tup []) (by walk_at "evs") (y5z (ds:=q.dropLast.map D.int) ?_ h1 (z1z ?_))
 ·have nd:=z1f q.dropLast
  have en:((q.length:Int)-1)=((q.dropLast.length:Nat):Int):=by lia
  have et:q.take q.dropLast.length=q.dropLast:=by
   rw[h3];simp
  simp only[z0l] at nd ⊢
  walk_at "evs"
  rw[en,z5x,<-List.map_take,et]
  walk_at "evs"
 ·have el:atI (q.map D.int) ((q.length:Int)-1)=some (.int (j:Int)):=by
   rw[show((q.length:Int)-1)=((q.dropLast.length:Nat):Int) by lia,y3x (by lia),Int.toNat_natCast,List.getElem?_map]
   rw[show q[q.dropLast.length]? = some (j:Int) by rw[h3];simp]
   rfl
  have nS:=Item.noL (Item.set (Item.lxs its).1 (Item.lxs its).2)
  have lt:(its'.take j).length<=its'.length:=by rw[List.length_take];lia
  rw[List.nil_append] at h4
  rw[<-h4,List.map_append]
  simp only[z0l]
  walk_at "evs"
  simp only[dIx,el]
  walk_at "evs"
  simp only[dIx,ai]
  rw[z5x,<-List.map_take]
  walk_at "evs"
noncomputable section
noncomputable def x4l:G->R Fl :=
 (gSt (gSet 1 (gNL (z0i c_r (gCons (z0i c_t (gCons (gV 0) (gCons (gC (.int 0)) gNil))) gNil))))
 (gSt (gSet 2 (gNL (gBin dAdd (gC (.int 1)) (gBin dMod (z0i c_t (gCons (gV 0) (gCons (gC (.int 1)) gNil))) (gC (.int 3))))))
 (gSt (gSet 3 (gNL (z0i c_c (gCons (z0i c_n (gCons (gSl (gV 0) (gOS (gC (.int 3))) (gOS (gC (.int 59)))) (gCons (gV 1) (gCons (gV 2) (gCons (gC (.int 3)) gNil))))) (gCons (z0i c_t (gCons (gV 0) (gCons (gC (.int 2)) gNil))) gNil)))))
 (gSt (gSet 4 (gNL (z0i (c_a 12) (gCons (gV 3) gNil))))
 (gSt (gSet 5 (gNL (z0i c_J (gCons (gV 1) (gCons (gV 2) (gCons (gV 3) gNil))))))
 (gSt (gIfS (gT (gBin dEq (gV 4) (gTup gNil))) (gRet (gBin dIsN (gV 5) (gC .non))) z2l)
 (gSt (gIfS (gOr (gNot (gT (gIsi z2m (gV 5)))) (gOr (gT (gBin dNe (z0i dLen (gCons (gV 5) gNil)) (gC (.int 4)))) (gOr (gNot (gT (gIsi z2m (gBin dIx (gV 5) (gC (.int 0)))))) (gT (gBin dNe (gBin dIx (gV 5) (gC (.int 0))) (gV 4)))))) (gRet (gC (.bl false))) z2l)
 (gSt (gIfS (gOr (gNot (gT (z0i dAll (gCons (gL (z3m (z7a (gBin dIx (gV 5) (gC (.int 0)))) (fElt (gNL (z0i (noEr c_s) (gCons (gV 0) gNil)))))) gNil)))) (gNot (gT (z0i dAll (gCons (gL (z3m (z7a (gSl (gV 5) (gOS (gC (.int 1))) gON)) (fElt (gNL (z0i (noEr c_l) (gCons (gV 0) (gCons (gV 2) (gCons (gV 3) gNil)))))))) gNil))))) (gRet (gC (.bl false))) z2l)
 (gSt (gUnp [6,7] (z0i c_q (gCons (gV 3) (gCons (gV 4) gNil))))
 (gSt (gSet 8 (gNL (z0i (c_w 12) (gCons (gV 1) (gCons (gV 2) (gCons (gV 6) gNil))))))
 (gSt (gIfS (gOr (gT (gBin dNe (z0i c_A (gCons (gV 1) (gCons (gV 8) (gCons (gBin dIx (gV 5) (gC (.int 1))) gNil)))) (gBin dMul (gTup (gCons (gC (.int 0)) gNil)) (gV 2)))) (gT (gBin dEq (gBin dIx (gV 5) (gC (.int 1))) (gBin dIx (gV 5) (gC (.int 2)))))) (gRet (gC (.bl false))) z2l)
 (gSt (gIfS (gT (gBin dNe (z0i c_A (gCons (gV 1) (gCons (gV 8) (gCons (gBin dIx (gV 5) (gC (.int 2))) gNil)))) (z0i z2o (gCons (gL (z3m (z5n (gV 2)) (fElt (gNL (z0i dInt (gCons (gBin dEq (gV 0) (gBin dIx (gV 8) (gC (.int 1)))) gNil)))))) gNil)))) (gRet (gC (.bl false))) z2l)
 (gSt (gSet 9 (gNL (z0i (c_w 12) (gCons (gV 1) (gCons (gV 2) (gCons (gV 3) gNil))))))
 (gRet (z9a (gBin dEq (z0i c_A (gCons (gV 1) (gCons (gV 9) (gCons (gBin dIx (gV 5) (gC (.int 1))) gNil)))) (gBin dIx (gV 5) (gC (.int 3)))) (gBin dEq (z0i c_A (gCons (gV 1) (gCons (gV 9) (gCons (gBin dIx (gV 5) (gC (.int 2))) gNil)))) (gBin dIx (gV 5) (gC (.int 3)))))))))))))))))))
noncomputable def c_law:List D->R D:=fnC 1 10 x4l
end
theorem y0p(m:Nat):(List.replicate m [D.int 0]).flatten=(z2h m).map D.int:=by
 unfold z2h
 induction m with
 | zero=>rfl
 | succ m ih=>rw[List.replicate_succ,List.flatten_cons,ih,List.replicate_succ];rfl
theorem x7m{a b c d:D}(h1:a.noL=true)(h2:b.noL=true)(h3:c.noL=true)(h4:d.noL=true):D.noLs [a,b,c,d]=true:=by simp only[D.noLs,h1,h2,h3,h4];rfl
theorem law_k44:x7o c_law:=by
 intro ns hn
 obtain⟨P,eP,p1,p2,hD⟩:=x3d (y0t ns 0)
 obtain⟨m,em,m1,m3⟩:=x1k (y0t ns 1)
 have hp:1<P:=by lia
 have p0:0<P:=by lia
 refine z1l rfl ?_
 unfold x4l
 refine z1e (d:=.int P) (by walk_at "evs";simp only[eP];walk_at "evs") ?_
 refine z1e (d:=.int m) (by walk_at "evs";rw[em]) ?_
 obtain⟨its0,ei,ho0,hd0,hc0⟩:=x3e (cs:=cutL ns (some 3) (some 59)) (many:=m) (ag:=3) p1 p2 (by lia) (by lia) (Nat.le_trans (x1t ns _ _) hn)
 obtain⟨its,ef,ho,hd,hc⟩:=y8f (cell:=y0t ns 2) p1 m1 m3 ho0 hd0 hc0
 have nI:=z6k its
 refine z1e (d:=.tup (its.map Item.d)) (by walk_at "evs";rw[y0h];simp only[ei];walk_at "evs";simp only[ef];walk_at "evs") ?_
 have F1:=z7q (P:=P) (m:=m) 12 its (by lia) (by lia) (by lia) ho
 have L1:=s_J hD p1 p2 m3 hd (by lia) ho
 have ly2:D.lay 40 (.tup [])=true:=z3c 39 []
 cases ep:Item.lps 0 its with
 | none =>
   rw[ep] at F1 L1
   have n0:(D.tup []).noL=true:=z6k []
   have eq2:eqD (.tup []) (.tup [])=true:=by
    have:=z3d [] []
    rw[decide_eq_true rfl] at this
    exact this
   refine z1e (d:=.tup []) (by walk_at "evs";simp only[F1,Option.getD_none,z0l,List.map_nil];walk_at "evs") ?_
   refine z1e (d:=.non) (by walk_at "evs";simp only[L1];walk_at "evs") ?_
   refine z9c (z5m ?_ (z1z ?_))
   ·walk_at "evs"
    rw[eq2]
   ·walk_at "evs"
    try rfl
 | some q =>
   rw[ep] at F1 L1
   have hne:=Item.lps_cons ep
   have hq:=Item.lps_short ep
   have hf:Item.frees its=false:=by
    have:=Item.lps_free (P:=P) (many:=m) 0 its ho
    cases z:Item.frees its with
    | false=>rfl
    | true=>rw[this.mpr z] at ep;cases ep
   have eq2:eqD (rowD q) (.tup [])=false:=by
    have:=z3d q []
    rw[decide_eq_false hne] at this
    exact this
   have ly:=z3c 39 q
   have nq:=z1f q
   have A1:=x3g (P:=P) (m:=m) ho ep (by lia) (by lia)
   obtain⟨h1,h2,h3,h3',h4,-⟩:=Item.ahs_split hp its ho hf
   obtain⟨okU,hU⟩:=Item.unds_ok hD p1 p2 _ h1 h2
   obtain⟨l1,l2,l3,l4⟩:=x3z hD p1 p2 ho hf rfl
   have T1:=s_w p1 p2 m3 12 (Item.ahs its) (by lia) h1
   have T2:=s_w p1 p2 m3 12 its (by lia) ho
   have ok0:=Item.tabs_ok hp _ okU
   have ok1:=Item.tabs_ok hp _ h1
   have ok2:=Item.tabs_ok hp _ ho
   obtain⟨x,hx⟩:∃x:Nat,(Item.lxs its).1=(x:Int):=⟨(Item.lxs its).1.toNat,by have:=h4.1;lia⟩
   have xm:x<m:=by have:=h4.2.1;lia
   have lx:(Item.lxs its).1.toNat=x:=by lia
   unfold x4a at L1
   rw[lx] at L1 l2 l3 l4
   have nA:=z6k (Item.ahs its)
   have nS:=Item.noL (Item.set (Item.lxs its).1 (Item.lxs its).2)
   rw[hx] at A1 nS
   generalize hz:z0z P (Item.tabs P m (Item.unds P (Item.ahs its))) (z2h m)=s0 at *
   generalize ho':z0z P (Item.tabs P m (Item.unds P (Item.ahs its))) (z1r m x)=s1 at *
   have sl0:s0.length=m:=by rw[<-hz,z1k];exact ok0.1
   have sl1:s1.length=m:=by rw[<-ho',z1k];exact ok0.1
   have so0:onW P s0:=by rw[<-hz];exact z9e p0 _ _
   have so1:onW P s1:=by rw[<-ho'];exact z9e p0 _ _
   generalize Item.tabs P m (Item.ahs its)=a at *
   generalize Item.tabs P m its=t at *
   have se:(z0z P t s0).length=m:=by rw[z1k];exact ok2.1
   have soe:onW P (z0z P t s0):=z9e p0 _ _
   have ta0:=s_A (P:=P) (ts:=a) (ss:=s0) p0 (by lia) (by rw[sl0];exact ok1) (by lia)
   have ta1:=s_A (P:=P) (ts:=a) (ss:=s1) p0 (by lia) (by rw[sl1];exact ok1) (by lia)
   have tt0:=s_A (P:=P) (ts:=t) (ss:=s0) p0 (by lia) (by rw[sl0];exact ok2) (by lia)
   have tt1:=s_A (P:=P) (ts:=t) (ss:=s1) p0 (by lia) (by rw[sl1];exact ok2) (by lia)
   rw[l1] at ta0
   rw[l2] at ta1
   rw[<-l4] at tt1
   generalize z0z P t s0=e at *
   have n0:=z1f s0
   have n1:=z1f s1
   have n2:=z1f e
   have nvs:D.noLs [rowD q,rowD s0,rowD s1,rowD e]=true:=x7m nq n0 n1 n2
   have nv:(D.tup [rowD q,rowD s0,rowD s1,rowD e]).noL=true:=by rw[z9v];exact nvs
   refine z1e (d:=rowD q) (by walk_at "evs";simp only[F1,Option.getD_some];walk_at "evs") ?_
   refine z1e (d:=.tup [rowD q,rowD s0,rowD s1,rowD e]) (by walk_at "evs";simp only[L1];walk_at "evs") ?_
   refine z1q (by walk_at "evs";rw[eq2]) ?_
   have eqq:eqD (rowD q) (rowD q)=true:=by rw[z3d];simp
   refine z1q (by
    walk_at "evs"
    try simp only[eqq]
    try walk_at "evs"
    try rfl) ?_
   have q0:=y1n (P:=P) (m:=m) (s:=s0) sl0 so0 (by lia)
   have q1:=y1n (P:=P) (m:=m) (s:=s1) sl1 so1 (by lia)
   have q2:=y1n (P:=P) (m:=m) (s:=e) se soe (by lia)
   have cS:cutL [D.tup (q.map D.int),D.tup (s0.map D.int),D.tup (s1.map D.int),D.tup (e.map D.int)] (some 1) none=[s0,s1,e].map rowD:=by
    rw[show(1:Int)=((1:Nat):Int) from rfl,z4g];rfl
   have nr:D.noLs ([s0,s1,e].map rowD)=true:=z4x _
   have lp:q.length<=4:=by lia
   have ty:∀l:List Int,dAll [.lst (l.map fun _=>D.bl true)] = .ok (.bl true):=fun l=>by
    rw[show l.map (fun _=>D.bl true)=(l.map fun _=>true).map D.bl by rw[List.map_map];rfl,z3w]
    simp
   have ty3:dAll [.lst ([s0,s1,e].map fun _=>D.bl true)] = .ok (.bl true):=by
    rw[show[s0,s1,e].map (fun _=>D.bl true)=([s0,s1,e].map fun _=>true).map D.bl by rw[List.map_map];rfl,z3w]
    simp
   refine z1q (by
    simp only[z0l]
    walk_at "evs"
    rw[z2w (k:=D.int) (h:=fun _=>D.bl true)]
    ·simp only[R.bind_ok,ty]
     walk_at "evs"
     rw[cS]
     simp only[nr,z2z,R.bind_ok]
     rw[z2w (k:=rowD) (h:=fun _=>D.bl true)]
     ·simp only[R.bind_ok,ty3,List.length_map,List.length_cons,List.length_nil]
      walk_at "evs"
      try rfl
     ·intro z hz
      have qz:c_l [rowD z,.int P,.int m] = .ok (.bl true):=by
       simp only[List.mem_cons,List.not_mem_nil,or_false] at hz
       rcases hz with rfl | rfl | rfl
       ·exact q0
       ·exact q1
       ·exact q2
      walk_at "evs"
      simp only[qz]
      walk_at "evs"
    ·intro z hz
     have:=z4u z
     walk_at "evs"
     try simp only[this]
     try walk_at "evs") ?_
   have nAS:(D.tup [D.tup ((Item.ahs its).map Item.d),(Item.set (x:Int) (Item.lxs its).2).d]).noL=true:=by rw[z9v];simp only[D.noLs,nA,nS];rfl
   have nAL:D.noLs [D.tup ((Item.ahs its).map Item.d),D.tup [D.str (Str.ofString "set"),D.int (x:Int),rowD (Item.lxs its).2]]=true:=by rw[z9v] at nAS;exact nAS
   refine z8c (Γ':=[.ro (.lst (ns.map D.int)),.ro (.int P),.ro (.int m),.ro (.tup (its.map Item.d)),.ro (rowD q),.ro (.tup [rowD q,rowD s0,rowD s1,rowD e]),.ro (.tup ((Item.ahs its).map Item.d)),.ro (Item.set (x:Int) (Item.lxs its).2).d,.no,.no]) (by walk_at "evs";simp only[A1];walk_at "evs";try rfl) ?_
   refine z1e (d:=tabD a) (by walk_at "evs";simp only[T1];walk_at "evs") ?_
   have z0:D.tup (List.replicate m [D.int 0]).flatten=rowD (z2h m):=by rw[y0p];rfl
   have eq0:eqD (rowD (z2h m)) (rowD (z2h m))=true:=by rw[z3d];simp
   have eq01:eqD (rowD s0) (rowD s1)=false:=by rw[z3d];simp[l3]
   have ly0:=z3c 39 s0
   have ly1:=z3c 39 s1
   have lyz:=z3c 39 (z2h m)
   have lyx:=z3c 39 (z1r m x)
   have lye:=z3c 39 e
   refine z1q (by
    walk_at "evs"
    simp only[y1j,z0l,ta0]
    simp only[<-z0l]
    walk_at "evs"
    try rw[z0]
    try walk_at "evs"
    try rw[eq0]
    try walk_at "evs"
    simp[l3]) ?_
   have eqx:eqD (rowD (z1r m x)) (rowD (z1r m x))=true:=by rw[z3d];simp
   have nX:=z1f (z1r m x)
   refine z1q (by
    walk_at "evs"
    simp only[y1j,z0l,ta1,Item.d]
    walk_at "evs"
    rw[y6d (x:=(x:Int))]
    ·rw[y7o]
     simp only[<-z0l]
     walk_at "evs"
     rw[show D.tup ((z1r m x).map D.int)=rowD (z1r m x) from rfl,eqx]
     try walk_at "evs"
     try rfl
    ·intro i
     rw[Int.zero_add]
     by_cases q:(i:Int)=(x:Int)
     ·have e:((i:Int)==(x:Int))=true:=by simp[q]
      rw[if_pos e]
      walk_at "evs"
      simp only[e]
      walk_at "evs"
     ·have e:((i:Int)==(x:Int))=false:=by simp[q]
      rw[if_neg (by rw[e];decide)]
      walk_at "evs"
      simp only[e]
      walk_at "evs") ?_
   refine z1e (d:=tabD t) (by walk_at "evs";simp only[T2];walk_at "evs") (z1z ?_)
   have eqe:eqD (rowD e) (rowD e)=true:=by rw[z3d];simp
   walk_at "evs"
   simp only[y1j,z0l,tt0,tt1]
   simp only[<-z0l]
   walk_at "evs"
   try rw[eqe]
   try walk_at "evs"
   simp
end L3
namespace L3
open PySem PySem.Spec PyProof.Rows L2
noncomputable abbrev St:=L2.St
noncomputable instance:Monad R where
 pure:=R.ok
 bind:=R.bind
mutual
noncomputable def Is(K:PySem.W.Frag)(H:Hp):D->V->Prop
 | .non,v=>v = .non
 | .bl b,v=>v = .bl b
 | .int i,v=>v = .int i
 | .str x,v=>v = .str x
 | .tup ds,v=>∃a xs,v = .ref a/\SqT K H a xs/\IsAll K H ds xs
 | .lst ds,v=>∃a xs,v = .ref a/\SqL K H a xs/\IsAll K H ds xs
 | .dct,v=>∃a ob,v = .ref a/\H a=some (.frz ob (.own 0))/\ob.cls = .type "dict"
 | .exc c,v=>∃e oe C,v = .ref e/\H e=some (.frz oe (.own 0))/\oe.cls = .ref C/\PySem.W.nsIn K mainGlobals c.nm=some (some (.ref C))
noncomputable def IsAll(K:PySem.W.Frag)(H:Hp):List D->List V->Prop
 | [],xs=>xs=[]
 | d::ds,xs=>∃x r,xs=x::r/\Is K H d x/\IsAll K H ds r
end
structure Sub (K:PySem.W.Frag) (H H':Hp):Prop where
 t:∀a xs,SqT K H a xs->SqT K H' a xs
 l:∀a xs,SqL K H a xs->SqL K H' a xs
 x:∀a o u,H a=some (.frz o u)->H' a=some (.frz o u)
theorem z3o{K:PySem.W.Frag}{H H':Hp}{a:Addr}{xs:List V}(e:Same H H')(h:SqT K H a xs):SqT K H' a xs:=by
 rcases h with (h | ⟨o,h⟩) | h
 ·exact .inl (.inl (e _ _ h))
 ·exact .inl (.inr ⟨o,e _ _ h⟩)
 ·exact .inr h
theorem Sub.of_same{K:PySem.W.Frag}{H H':Hp}(e:Same H H'):Sub K H H':=⟨fun _ _ h=>z3o e h,fun _ _ h=>e.seq h,fun _ _ _ h=>e _ _ h⟩
mutual
theorem Is.sub{K:PySem.W.Frag}{H H':Hp}(s:Sub K H H'):∀(d:D) (v:V),Is K H d v->Is K H' d v
 | .non,_,h=>h
 | .bl _,_,h=>h
 | .int _,_,h=>h
 | .str _,_,h=>h
 | .tup ds,v,h=>by
   unfold Is at h ⊢
   obtain⟨a,xs,e,h1,h2⟩:=h
   exact⟨a,xs,e,s.t a xs h1,IsAll.sub s ds xs h2⟩
 | .lst ds,v,h=>by
   unfold Is at h ⊢
   obtain⟨a,xs,e,h1,h2⟩:=h
   exact⟨a,xs,e,s.l a xs h1,IsAll.sub s ds xs h2⟩
 | .dct,v,h=>by
   unfold Is at h ⊢
   obtain⟨a,ob,e,h1,h2⟩:=h
   exact⟨a,ob,e,s.x a ob _ h1,h2⟩
 | .exc c,v,h=>by
   unfold Is at h ⊢
   obtain⟨a,oe,C,e,h1,h2⟩:=h
   exact⟨a,oe,C,e,s.x a oe _ h1,h2⟩
theorem IsAll.sub{K:PySem.W.Frag}{H H':Hp}(s:Sub K H H'):∀(ds:List D) (xs:List V),IsAll K H ds xs->IsAll K H' ds xs
 | [],_,h=>h
 | d::ds,xs,h=>by
   unfold IsAll at h ⊢
   obtain⟨x,r,e,h1,h2⟩:=h
   exact⟨x,r,e,Is.sub s d x h1,IsAll.sub s ds r h2⟩
end
theorem Is.same{K:PySem.W.Frag}{H H':Hp}{d:D}{v:V}(h:Is K H d v)(e:Same H H'):Is K H' d v:=Is.sub (.of_same e) d v h
theorem IsAll.same{K:PySem.W.Frag}{H H':Hp}{ds:List D}{xs:List V}(h:IsAll K H ds xs)(e:Same H H'):IsAll K H' ds xs:=IsAll.sub (.of_same e) ds xs h
theorem Is.int_iff{K:PySem.W.Frag}{H:Hp}{i:Int}{v:V}:Is K H (.int i) v↔v = .int i:=by unfold Is;rfl
theorem Is.bl_iff{K:PySem.W.Frag}{H:Hp}{b:Bool}{v:V}:Is K H (.bl b) v↔v = .bl b:=by unfold Is;rfl
theorem Is.str_iff{K:PySem.W.Frag}{H:Hp}{x:Str}{v:V}:Is K H (.str x) v↔v = .str x:=by unfold Is;rfl
theorem Is.non_iff{K:PySem.W.Frag}{H:Hp}{v:V}:Is K H .non v↔v = .non:=by unfold Is;rfl
theorem Is.tup_iff{K:PySem.W.Frag}{H:Hp}{ds:List D}{v:V}:Is K H (.tup ds) v↔∃a xs,v = .ref a/\SqT K H a xs/\IsAll K H ds xs:=by conv=>lhs;unfold Is
theorem Is.lst_iff{K:PySem.W.Frag}{H:Hp}{ds:List D}{v:V}:Is K H (.lst ds) v↔∃a xs,v = .ref a/\SqL K H a xs/\IsAll K H ds xs:=by conv=>lhs;unfold Is
theorem IsAll.nil_iff{K:PySem.W.Frag}{H:Hp}{xs:List V}:IsAll K H [] xs↔xs=[]:=by unfold IsAll;rfl
theorem IsAll.cons_iff{K:PySem.W.Frag}{H:Hp}{d:D}{ds:List D}{xs:List V}:IsAll K H (d::ds) xs↔∃x r,xs=x::r/\Is K H d x/\IsAll K H ds r:=by conv=>lhs;unfold IsAll
theorem IsAll.nil{K:PySem.W.Frag}{H:Hp}:IsAll K H [] []:=IsAll.nil_iff.mpr rfl
theorem IsAll.cons{K:PySem.W.Frag}{H:Hp}{d:D}{ds:List D}{x:V}{xs:List V}(h:Is K H d x)(t:IsAll K H ds xs):IsAll K H (d::ds) (x::xs):=IsAll.cons_iff.mpr ⟨x,xs,rfl,h,t⟩
theorem IsAll.length{K:PySem.W.Frag}{H:Hp}:∀{ds:List D} {xs:List V},IsAll K H ds xs->ds.length=xs.length
 | [],xs,h=>by rw[IsAll.nil_iff.mp h];rfl
 | d::ds,xs,h=>by
   obtain⟨x,r,rfl,_,t⟩:=IsAll.cons_iff.mp h
   rw[List.length_cons,List.length_cons,IsAll.length t]
theorem IsAll.get{K:PySem.W.Frag}{H:Hp}:∀{ds:List D} {xs:List V} {i:Nat} {d:D},IsAll K H ds xs->ds[i]? = some d->∃x,xs[i]? = some x/\Is K H d x
 | [],_,_,_,_,e=>by simp at e
 | d::ds,xs,0,d',h,e=>by
   obtain⟨x,r,rfl,hx,t⟩:=IsAll.cons_iff.mp h
   simp at e;subst e
   exact⟨x,rfl,hx⟩
 | d::ds,xs,i+1,d',h,e=>by
   obtain⟨x,r,rfl,hx,t⟩:=IsAll.cons_iff.mp h
   obtain⟨y,e1,hy⟩:=IsAll.get (i:=i) t (by simpa using e)
   exact⟨y,by simpa using e1,hy⟩
theorem IsAll.getX{K:PySem.W.Frag}{H:Hp}{ds:List D}{xs:List V}{i:Nat}{x:V}(h:IsAll K H ds xs)(e:xs[i]? = some x):∃d,ds[i]? = some d/\Is K H d x:=by
 have hi:i<xs.length:=(List.getElem?_eq_some_iff.mp e).1
 have hd:i<ds.length:=by rw[h.length];exact hi
 obtain⟨y,e1,hy⟩:=h.get (List.getElem?_eq_getElem hd)
 rw[e] at e1;cases e1
 exact⟨_,List.getElem?_eq_getElem hd,hy⟩
theorem IsAll.append{K:PySem.W.Frag}{H:Hp}:∀{ds es:List D} {xs ys:List V},IsAll K H ds xs->IsAll K H es ys->IsAll K H (ds++es) (xs++ys)
 | [],_,_,_,h,t=>by rw[IsAll.nil_iff.mp h];exact t
 | d::ds,es,xs,ys,h,t=>by
   obtain⟨x,r,rfl,hx,tr⟩:=IsAll.cons_iff.mp h
   exact IsAll.cons hx (IsAll.append tr t)
theorem IsAll.drop{K:PySem.W.Frag}{H:Hp}:∀{ds:List D} {xs:List V} (n:Nat),IsAll K H ds xs->IsAll K H (ds.drop n) (xs.drop n)
 | _,_,0,h=>h
 | [],xs,n+1,h=>by rw[IsAll.nil_iff.mp h];exact IsAll.nil
 | d::ds,xs,n+1,h=>by
   obtain⟨x,r,rfl,hx,tr⟩:=IsAll.cons_iff.mp h
   exact IsAll.drop n tr
theorem IsAll.take{K:PySem.W.Frag}{H:Hp}:∀{ds:List D} {xs:List V} (n:Nat),IsAll K H ds xs->IsAll K H (ds.take n) (xs.take n)
 | _,_,0,_=>by rw[List.take_zero,List.take_zero];exact IsAll.nil
 | [],xs,n+1,h=>by rw[IsAll.nil_iff.mp h];exact IsAll.nil
 | d::ds,xs,n+1,h=>by
   obtain⟨x,r,rfl,hx,tr⟩:=IsAll.cons_iff.mp h
   exact IsAll.cons hx (IsAll.take n tr)
theorem IsAll.set{K:PySem.W.Frag}{H:Hp}{d':D}{x':V}(q:Is K H d' x'):∀{ds:List D} {xs:List V} (n:Nat),IsAll K H ds xs->IsAll K H (ds.set n d') (xs.set n x')
 | [],xs,n,h=>by rw[IsAll.nil_iff.mp h];exact IsAll.nil
 | d::ds,xs,0,h=>by
   obtain⟨x,r,rfl,hx,tr⟩:=IsAll.cons_iff.mp h
   exact IsAll.cons q tr
 | d::ds,xs,n+1,h=>by
   obtain⟨x,r,rfl,hx,tr⟩:=IsAll.cons_iff.mp h
   exact IsAll.cons hx (IsAll.set q n tr)
theorem IsAll.ints{K:PySem.W.Frag}{H:Hp}:∀ns:List Int,IsAll K H (ns.map D.int) (ns.map V.int)
 | []=>IsAll.nil
 | n::ns=>IsAll.cons (Is.int_iff.mpr rfl) (IsAll.ints ns)
theorem IsAll.ints_eq{K:PySem.W.Frag}{H:Hp}:∀{ns:List Int} {xs:List V},IsAll K H (ns.map D.int) xs->xs=ns.map V.int
 | [],xs,h=>IsAll.nil_iff.mp h
 | n::ns,xs,h=>by
   obtain⟨x,r,rfl,hx,tr⟩:=IsAll.cons_iff.mp h
   rw[Is.int_iff.mp hx,IsAll.ints_eq tr];rfl
noncomputable def hid(F:List Addr)(H:Hp):Hp:=fun b=>if b∈F then none else H b
theorem x2p{F:List Addr}{H:Hp}{b:Addr}(h:b∈F):hid F H b=none:=by unfold hid;rw[if_pos h]
theorem z2r{F:List Addr}{H:Hp}{b:Addr}(h:b ∉ F):hid F H b=H b:=by unfold hid;rw[if_neg h]
theorem z3g{F:List Addr}{H:Hp}{b:Addr}{o:HO}(h:hid F H b=some o):b ∉ F/\H b=some o:=by
 unfold hid at h
 by_cases q:b∈F
 ·rw[if_pos q] at h;cases h
 ·rw[if_neg q] at h;exact⟨q,h⟩
noncomputable def FOk(H:Hp)(F:List Addr):Prop:=∀b∈F,∃xs,H b=some (.lst xs)
theorem FOk.same{H H':Hp}{F:List Addr}(h:FOk H F)(e:Same H H'):FOk H' F:=fun b hb=>let ⟨xs,q⟩:=h b hb;⟨xs,e _ _ q⟩
theorem FOk.nil{H:Hp}:FOk H []:=fun b hb=>by simp at hb
theorem FOk.cons{H:Hp}{F:List Addr}{a:Addr}{xs:List V}(h:FOk H F)(e:H a=some (.lst xs)):FOk H (a::F):=fun b hb=>by
 rcases List.mem_cons.mp hb with z | z
 ·subst z;exact⟨xs,e⟩
 ·exact h b z
theorem x1o{H:Hp}{F:List Addr}{a:Addr}:Same (hid (a::F) H) (hid F H):=fun b o h=>by
 obtain⟨h1,h2⟩:=z3g h
 rw[z2r fun z=>h1 (List.mem_cons_of_mem _ z)];exact h2
theorem y9h{H H':Hp}{F:List Addr}{a:Addr}(e:Same H H')(hn:H a=none):Same (hid F H) (hid (a::F) H'):=fun b o h=>by
 obtain⟨h1,h2⟩:=z3g h
 rw[z2r fun z=>(List.mem_cons.mp z).elim (fun q=>by rw[q,hn] at h2;cases h2) h1]
 exact e _ _ h2
theorem z2i{H H':Hp}{F:List Addr}(e:Same H H'):Same (hid F H) (hid F H'):=fun b o h=>by
 obtain⟨h1,h2⟩:=z3g h
 rw[z2r h1];exact e _ _ h2
theorem z3s{H:Hp}{F:List Addr}:Same (hid F H) H:=fun b o h=>(z3g h).2
theorem y8b{K:PySem.W.Frag}{H:Hp}{F:List Addr}{a:Addr}{xs:List V}(fo:FOk H F)(h:SqT K H a xs):SqT K (hid F H) a xs:=by
 rcases h with (h1 | ⟨o,h1⟩) | h1
 ·refine .inl (.inl ?_)
  rw[z2r fun q=>by obtain⟨ys,z⟩:=fo a q;rw[h1] at z;cases z];exact h1
 ·refine .inl (.inr ⟨o,?_⟩)
  rw[z2r fun q=>by obtain⟨ys,z⟩:=fo a q;rw[h1] at z;cases z];exact h1
 ·exact .inr h1
mutual
theorem Is.hid{K:PySem.W.Frag}{H:Hp}{F:List Addr}(fo:FOk H F):∀(d:D) (v:V),d.noL=true->Is K H d v->Is K (hid F H) d v
 | .non,_,_,h=>h
 | .bl _,_,_,h=>h
 | .int _,_,_,h=>h
 | .str _,_,_,h=>h
 | .tup ds,v,n,h=>by
   obtain⟨a,xs,e,h1,h2⟩:=Is.tup_iff.mp h
   exact Is.tup_iff.mpr ⟨a,xs,e,y8b fo h1,IsAll.hid fo ds xs (by simpa [D.noL] using n) h2⟩
 | .lst ds,v,n,h=>by simp[D.noL] at n
 | .dct,v,n,h=>by simp[D.noL] at n
 | .exc c,v,n,h=>by
   unfold Is at h ⊢
   obtain⟨a,oe,C,e,h1,h2⟩:=h
   refine⟨a,oe,C,e,?_,h2⟩
   rw[z2r fun q=>by obtain⟨ys,z⟩:=fo a q;rw[h1] at z;cases z];exact h1
theorem IsAll.hid{K:PySem.W.Frag}{H:Hp}{F:List Addr}(fo:FOk H F):∀(ds:List D) (xs:List V),D.noLs ds=true->IsAll K H ds xs->IsAll K (hid F H) ds xs
 | [],_,_,h=>h
 | d::ds,xs,n,h=>by
   obtain⟨x,r,e,h1,h2⟩:=IsAll.cons_iff.mp h
   have n':d.noL=true/\D.noLs ds=true:=by simpa [D.noLs] using n
   exact IsAll.cons_iff.mpr ⟨x,r,e,Is.hid fo d x n'.1 h1,IsAll.hid fo ds r n'.2 h2⟩
end
structure Rel (K:PySem.W.Frag) (H:Hp) (F:List Addr) (Γ:G) (σ:St):Prop where
 len:Γ.length=σ.length
 ro:∀(i:Nat) d,Γ[i]? = some (.ro d)->∃v,σ[i]? = some (some v)/\Is K (hid F H) d v
 own:∀(i:Nat) ds,Γ[i]? = some (.own ds)->∃a xs,σ[i]? = some (some (.ref a))/\a∈F/\H a=some (.lst xs)/\IsAll K (hid F H) ds xs
 inj:∀(i j:Nat) ds es a,Γ[i]? = some (.own ds)->Γ[j]? = some (.own es)->σ[i]? = some (some (.ref a))->σ[j]? = some (some (.ref a))->i=j
theorem Rel.same{K:PySem.W.Frag}{H H':Hp}{F:List Addr}{Γ:G}{σ:St}(r:Rel K H F Γ σ)(e:Same H H'):Rel K H' F Γ σ :=
 ⟨r.len,fun i d h=>let ⟨v,h1,h2⟩:=r.ro i d h;⟨v,h1,h2.same (z2i e)⟩,fun i ds h=>let ⟨a,xs,h1,h2,h3,h4⟩:=r.own i ds h;⟨a,xs,h1,h2,e _ _ h3,h4.same (z2i e)⟩,r.inj⟩
theorem Rel.look{K:PySem.W.Frag}{H:Hp}{F:List Addr}{Γ:G}{σ:St}(r:Rel K H F Γ σ){i:Nat}{d:D}(h:lk Γ i = .ok d):∃v,σ[i]? = some (some v)/\Is K H d v:=by
 unfold lk at h
 cases e:Γ[i]? with
 | none=>rw[e] at h;cases h
 | some en =>
   rw[e] at h
   cases en with
   | no=>cases h
   | ro d'=>cases h;obtain⟨v,h1,h2⟩:=r.ro i d e;exact⟨v,h1,h2.same z3s⟩
   | own ds =>
     cases h
     obtain⟨a,xs,h1,h2,h3,h4⟩:=r.own i ds e
     exact⟨.ref a,h1,Is.lst_iff.mpr ⟨a,xs,rfl,SqL.of h3,h4.same z3s⟩⟩
theorem Rel.lookr{K:PySem.W.Frag}{H:Hp}{F:List Addr}{Γ:G}{σ:St}(r:Rel K H F Γ σ){i:Nat}{d:D}(h:lkr Γ i = .ok d):∃v,σ[i]? = some (some v)/\Is K (hid F H) d v:=by
 unfold lkr at h
 cases e:Γ[i]? with
 | none=>rw[e] at h;cases h
 | some en =>
   rw[e] at h
   cases en with
   | no=>cases h
   | ro d'=>cases h;exact r.ro i d e
   | own ds=>cases h
structure Ext (H:Hp) (F:List Addr) (H':Hp) (F':List Addr):Prop where
 keep:∀b o,b ∉ F->H b=some o->H' b=some o
 old:∀b,b∈F'->b∈F∨H b=none
theorem Ext.refl{H:Hp}{F:List Addr}:Ext H F H F:=⟨fun _ _ _ h=>h,fun _ h=>.inl h⟩
theorem Ext.of_same{H H':Hp}{F:List Addr}(e:Same H H'):Ext H F H' F:=⟨fun _ _ _ h=>e _ _ h,fun _ h=>.inl h⟩
theorem Ext.trans{H H1 H2:Hp}{F F1 F2:List Addr}(a:Ext H F H1 F1)(b:Ext H1 F1 H2 F2):Ext H F H2 F2 where
 keep:=fun c o hc h=>b.keep c o (fun z=>(a.old c z).elim hc fun n=>by rw[h] at n;cases n) (a.keep c o hc h)
 old:=fun c hc=>by
  rcases b.old c hc with h | h
  ·exact a.old c h
  ·by_cases q:c∈F
   ·exact .inl q
   ·refine .inr ?_
    cases e:H c with
    | none=>rfl
    | some o=>rw[a.keep c o q e] at h;cases h
theorem Ext.same{H H':Hp}{F':List Addr}(e:Ext H [] H' F'):Same H H':=fun b o h=>e.keep b o (by simp) h
theorem Ext.hid{H H':Hp}{F F':List Addr}(e:Ext H F H' F'):Same (hid F H) (hid F' H'):=fun b o h=>by
 obtain⟨h1,h2⟩:=z3g h
 have h3:=e.keep b o h1 h2
 rw[z2r fun z=>(e.old b z).elim h1 fun n=>by rw[h2] at n;cases n]
 exact h3
noncomputable def y0n(X:Cx)(pins:List (Addr×Obj))(σ:St)(H:Hp)(c:Er)(x:Value)(s:Shared):Prop :=
 Inv X pins σ H s/\∃(e C:Addr) (oe:Obj) (vs:Array Value),x = .ref e/\X.mg c.nm=some (.ref C)/\H e=none/\X.s₀.heap.get? e=none/\e≠X.env.locals/\(∀y k,X.env.cells.lookup y=some k->k≠e)/\(∀p∈X.pn++pins,p.1≠e) /\
  s.heap.get? e=some oe/\oe.cls = .ref C/\oe.data = .fields vs/\(∃a0,vs[0]? = some a0) /\
  (vs[1]? = some .none∨∃(T:Addr) (oT:Obj) (ts:Array Value),vs[1]? = some (.ref T)/\H T=none/\X.s₀.heap.get? T=none/\T≠X.env.locals/\(∀y k,X.env.cells.lookup y=some k->k≠T)/\(∀p∈X.pn++pins,p.1≠T)/\T≠e /\
    s.heap.get? T=some oT/\oT.data = .fields ts/\(ts[3]? = some .none∨∃L,X.env.frame=some L/\ts[3]? = some (rawInt L)))
noncomputable def Post(X:Cx)(pins:List (Addr×Obj))(σ:St)(H:Hp)(r:R D)(u:Value)(s':Shared):Prop :=
 ∃d v H',r = .ok d/\Inv X pins σ H' s'/\RelV v u/\Same H H'/\Is X.K H' d v
noncomputable def z1h{α:Type}(X:Cx)(pins:List (Addr×Obj))(σ:St)(H:Hp)(r:R α)(x:Value)(s':Shared):Prop :=
 ∃c H',r = .er c/\Same H H'/\y0n X pins σ H' c x s'
theorem z1h.bind{α β:Type}{X:Cx}{pins:List (Addr×Obj)}{σ:St}{H:Hp}{r:R α}{x:Value}{s':Shared}(h:z1h X pins σ H r x s')(k:α->R β):z1h X pins σ H (r>>=k) x s':=by
 obtain⟨c,H',e,h1,h2⟩:=h
 exact⟨c,H',R.stop e k,h1,h2⟩
theorem z1h.later{α β:Type}{X:Cx}{pins:List (Addr×Obj)}{σ:St}{H H1:Hp}{r:R α}{a:α}{k:α->R β}{x:Value}{s':Shared}(e:r = .ok a)(s:Same H H1)(h:z1h X pins σ H1 (k a) x s'):z1h X pins σ H (r>>=k) x s':=by
 obtain⟨c,H',e1,h1,h2⟩:=h
 exact⟨c,H',(R.step e k).trans e1,s.trans h1,h2⟩
structure PD (X:Cx) (e:Expr) (g:G->R D):Prop where
 run:∀(pins:List (Addr×Obj)) (s:Shared) (σ:St) (H:Hp) (F:List Addr) (Γ:G),Inv X pins σ H s->FOk H F->Rel X.K H F Γ σ->g Γ ≠ .no ->
  wpAny (model X.prog X.w) X.A (eval e X.env) (Post X pins σ H (g Γ)) (z1h X pins σ H (g Γ)) s
structure PDr (X:Cx) (e:Expr) (g:G->R D):Prop where
 run:∀(pins:List (Addr×Obj)) (s:Shared) (σ:St) (H:Hp) (F:List Addr) (Γ:G),Inv X pins σ H s->FOk H F->Rel X.K H F Γ σ->g Γ ≠ .no ->
  wpAny (model X.prog X.w) X.A (eval e X.env) (fun u s'=>∃d v H',g Γ = .ok d/\Inv X pins σ H' s'/\RelV v u/\Same H H'/\Is X.K (hid F H') d v) (z1h X pins σ H (g Γ)) s
structure PF (X:Cx) (e:Expr) (g:G->R (List D)):Prop where
 run:∀(pins:List (Addr×Obj)) (s:Shared) (σ:St) (H:Hp) (F:List Addr) (Γ:G),Inv X pins σ H s->FOk H F->Rel X.K H F Γ σ->g Γ ≠ .no ->
  wpAny (model X.prog X.w) X.A (eval e X.env) (fun u s'=>∃ds a xs H',g Γ = .ok ds/\Inv X pins σ H' s'/\u = .ref a/\Same H H'/\H a=none/\H' a=some (.lst xs)/\IsAll X.K (hid (a::F) H') ds xs) (z1h X pins σ H (g Γ)) s
structure PTD (X:Cx) (e:Expr) (g:G->R Bool):Prop where
 run:∀(pins:List (Addr×Obj)) (s:Shared) (σ:St) (H:Hp) (F:List Addr) (Γ:G),Inv X pins σ H s->FOk H F->Rel X.K H F Γ σ->g Γ ≠ .no ->
  wpAny (model X.prog X.w) X.A (isTrue e X.env (eval e X.env)) (fun b s'=>∃H',g Γ = .ok b/\Inv X pins σ H' s'/\Same H H') (z1h X pins σ H (g Γ)) s
structure PWD (X:Cx) (e:Expr) (g:G->R Bool):Prop where
 run:∀(whole:Sem Value) (pins:List (Addr×Obj)) (s:Shared) (σ:St) (H:Hp) (F:List Addr) (Γ:G),Inv X pins σ H s->FOk H F->Rel X.K H F Γ σ->g Γ ≠ .no ->
  wpAny (model X.prog X.w) X.A (isTrue e X.env whole) (fun b s'=>∃H',g Γ = .ok b/\Inv X pins σ H' s'/\Same H H') (z1h X pins σ H (g Γ)) s
theorem PWD.pt{X:Cx}{e:Expr}{g:G->R Bool}(h:PWD X e g):PTD X e g:=⟨h.run _⟩
structure PAD (X:Cx) (es:List Expr) (g:G->R (List D)):Prop where
 run:∀(pos:Pos) (pins:List (Addr×Obj)) (s:Shared) (σ:St) (H:Hp) (F:List Addr) (Γ:G),Inv X pins σ H s->FOk H F->Rel X.K H F Γ σ->g Γ ≠ .no ->
  wpAny (model X.prog X.w) X.A (spliced (backTo pos (starEach es X.env))) (fun us s'=>∃ds vs H',g Γ = .ok ds/\Inv X pins σ H' s'/\Vals vs us/\Same H H'/\IsAll X.K H' ds vs) (z1h X pins σ H (g Γ)) s
section
variable {X:Cx}{e a b c:Expr}{g ga gb gc:G->R D}{pos:Pos}
theorem PDr.pd(h:PDr X e g):PD X e g:=⟨fun pins s σ H F Γ I fo rl hg =>
 thn (h.run pins s σ H F Γ I fo rl hg) fun _ _ ⟨d,v,H',e1,I',r,S,i⟩=>⟨d,v,H',e1,I',r,S,i.same z3s⟩⟩
theorem PD.ro(h:PD X e g):PDr X e (gNL g):=⟨fun pins s σ H F Γ I fo rl hg =>
 wpAny_mono (h.run pins s σ H F Γ I fo rl (R.left hg)) (fun _ _ ⟨d,v,H',e1,I',r,S,i⟩=>by
  have hgx:=R.next hg e1
  obtain⟨n,e2⟩:=R.guard_ne hgx
  exact⟨d,v,H',(R.step e1 _).trans e2,I',r,S,Is.hid (fo.same S) d v n i⟩) fun _ _ x=>x.bind _⟩
theorem PF.ro{g:G->R (List D)}(h:PF X e g):PDr X e (gL g):=⟨fun pins s σ H F Γ I fo rl hg =>
 wpAny_mono (h.run pins s σ H F Γ I fo rl (R.left hg)) (fun _ _ ⟨ds,p,xs,H',e1,I',eu,S,hn,hp,i⟩=>by
  have hF:p ∉ F:=fun z=>by obtain⟨ys,q⟩:=fo p z;rw[hn] at q;cases q
  exact⟨.lst ds,.ref p,H',(R.step e1 _),I',eu,S,Is.lst_iff.mpr ⟨p,xs,rfl,SqL.of (by rw[z2r hF];exact hp),i.same x1o⟩⟩) fun _ _ x=>x.bind _⟩
theorem PF.pd{g:G->R (List D)}(h:PF X e g):PD X e (gL g):=h.ro.pd
theorem PD.of{t:TE}(h:PE X.nox e t)(hq:∀σ H F Γ,FOk H F->Rel X.K H F Γ σ->g Γ ≠ .no->t σ H fun v H'=>∃d,g Γ = .ok d/\Same H H'/\Is X.K H' d v):PD X e g:=⟨fun pins s σ H F Γ I fo rl hg =>
 wpAny_mono (h pins s σ H _ (I.wish _) (hq σ H F Γ fo rl hg)) (fun _ _ ⟨v,H',I',r,d,e1,S,i⟩=>⟨d,v,H',e1,I'.unwish,r,S,i⟩) fun _ _ z=>False.elim z⟩
theorem z0b(i:Nat){x:Str}(hN:X.N[i]? = some x:=by rfl)(hv:Vis X.env.scope x:=by first | exact Or.inl rfl | exact Or.inr (Or.inl rfl) | exact Or.inr (Or.inr rfl))(hd:(x==("__debug__":Str))=false:=by decide)
 (hcd:(x==("__classdict__":Str))=false:=by decide):PD X (.Name x pos) (gV i) :=
 PD.of (t:=tVar i) (y2t (X:=X.nox) hN hv hd hcd) fun σ H F Γ fo rl hg=>by
  obtain⟨d,e⟩:=x7n hg
  obtain⟨v,h1,h2⟩:=rl.look e
  exact⟨v,h1,d,e,.refl _,h2⟩
theorem y8o(i:Nat){x:Str}(hN:X.N[i]? = some x:=by rfl)(hv:Vis X.env.scope x:=by first | exact Or.inl rfl | exact Or.inr (Or.inl rfl) | exact Or.inr (Or.inr rfl))(hd:(x==("__debug__":Str))=false:=by decide)
 (hcd:(x==("__classdict__":Str))=false:=by decide):PDr X (.Name x pos) (gVr i):=by
 refine⟨fun pins s σ H F Γ I fo rl hg=>?_⟩
 obtain⟨d,e⟩:=x6e hg
 obtain⟨v,h1,h2⟩:=rl.lookr e
 exact wpAny_mono (y2t (X:=X.nox) hN hv hd hcd pins s σ H (fun v' H'=>v'=v/\H'=H) (I.wish _) ⟨v,h1,rfl,rfl⟩) (fun _ _ ⟨v',H',I',r,e1,e2⟩=>by
  subst e1 e2
  exact⟨d,v',H',e,I'.unwish,r,.refl _,h2⟩) fun _ _ z=>False.elim z
theorem z0e{i:Int}{j}:PD X (.Constant (.int i) j pos) (gC (.int i)):=PD.of (t:=tC (.int i)) x5r fun _ _ _ _ _ _ _=>⟨_,rfl,.refl _,Is.int_iff.mpr rfl⟩
theorem y8q{b:Bool}{j}:PD X (.Constant (.bool b) j pos) (gC (.bl b)):=PD.of (t:=tC (.bl b)) x7h fun _ _ _ _ _ _ _=>⟨_,rfl,.refl _,Is.bl_iff.mpr rfl⟩
theorem z9s{j}:PD X (.Constant .none j pos) (gC .non):=PD.of (t:=tC .non) x5q fun _ _ _ _ _ _ _=>⟨_,rfl,.refl _,Is.non_iff.mpr rfl⟩
theorem z4v{x:Str}{j}:PD X (.Constant (.str x) j pos) (gC (.str x)):=PD.of (t:=tC (.str x)) x5p fun _ _ _ _ _ _ _=>⟨_,rfl,.refl _,Is.str_iff.mpr rfl⟩
noncomputable def OpD(X:Cx)(f:Value->Value->Sem Value)(g:D->D->R D):Prop:=∃r:R2,OpR X.nox f r/\∀H x y dx dy,Is X.K H dx x->Is X.K H dy y->g dx dy ≠ .no->r x y H fun z H'=>∃d,g dx dy = .ok d/\Same H H'/\Is X.K H' d z
theorem OpD.run{f:Value->Value->Sem Value}{g:D->D->R D}(h:OpD X f g){pins:List (Addr×Obj)}{s:Shared}{σ:St}{H:Hp}{x y:V}{v u:Value}{dx dy:D}(I:Inv X pins σ H s)(rx:RelV x v)(ry:RelV y u)
 (ix:Is X.K H dx x) (iy:Is X.K H dy y) (hg:g dx dy ≠ .no) {E:Value->Shared->Prop}:wpAny (model X.prog X.w) X.A (f v u) (Post X pins σ H (g dx dy)) E s:=by
 obtain⟨r,ho,hr⟩:=h
 exact wpAny_mono (ho pins s σ H x y v u _ (I.wish _) rx ry (hr H x y dx dy ix iy hg)) (fun _ _ ⟨z,H',I',rz,d,e,S,i⟩=>⟨d,z,H',e,I'.unwish,rz,S,i⟩) fun _ _ z=>False.elim z
theorem Post.bind{pins:List (Addr×Obj)}{σ:St}{H H1:Hp}{α:Type}{r:R α}{k:α->R D}{a:α}{u:Value}{s':Shared}(e:r = .ok a)(S:Same H H1)(h:Post X pins σ H1 (k a) u s'):Post X pins σ H (r>>=k) u s':=by
 obtain⟨d,v,H',e1,I,rv,S1,i⟩:=h
 exact⟨d,v,H',(R.step e k).trans e1,I,rv,S.trans S1,i⟩
theorem binD{g2:D->D->R D}{f:Value->Value->Sem Value}(ho:OpD X f g2)(ha:PD X a ga)(hb:PD X b gb){pins:List (Addr×Obj)}{s:Shared}{σ:St}{H:Hp}{F:List Addr}{Γ:G}(I:Inv X pins σ H s)(fo:FOk H F)(rl:Rel X.K H F Γ σ)(hg:gBin g2 ga gb Γ ≠ .no) :
 wpAny (model X.prog X.w) X.A (eval a X.env) (fun v s₁=>wpAny (model X.prog X.w) X.A (eval b X.env) (fun u s₂=>wpAny (model X.prog X.w) X.A (f v u) (Post X pins σ H (gBin g2 ga gb Γ)) (z1h X pins σ H (gBin g2 ga gb Γ)) s₂) (z1h X pins σ H (gBin g2 ga gb Γ)) s₁) (z1h X pins σ H (gBin g2 ga gb Γ)) s:=by
 refine wpAny_mono (ha.run pins s σ H F Γ I fo rl (R.left hg)) (fun v s1 ⟨dx,x,H1,e1,I1,r1,S1,i1⟩=>?_) fun _ _ x=>x.bind _
 have hg1:=R.next hg e1
 refine wpAny_mono (hb.run pins s1 σ H1 F Γ I1 (fo.same S1) (rl.same S1) (R.left hg1)) (fun u s2 ⟨dy,y,H2,e2,I2,r2,S2,i2⟩=>?_) fun _ _ x=>z1h.later e1 S1 (x.bind _)
 have hg2:=R.next hg1 e2
 exact thn (ho.run I2 r1 r2 (i1.same S2) i2 hg2) fun _ _ q=>Post.bind e1 S1 (Post.bind e2 S2 q)
theorem z0t{op:Operator}{g2:D->D->R D}(ho:OpD X (binaryOp op) g2)(ha:PD X a ga)(hb:PD X b gb):PD X (.BinOp a op b pos) (gBin g2 ga gb):=⟨fun pins s σ H F Γ I fo rl hg=>wpAny_BinOp (binD ho ha hb I fo rl hg)⟩
theorem y2v{op:CmpOp}{g2:D->D->R D}(ho:OpD X (compareOp op) g2)(ha:PD X a ga)(hb:PD X b gb)(hm:behindInMarks op b=false):PD X (.Compare a [op] [b] pos) (gBin g2 ga gb):=⟨fun pins s σ H F Γ I fo rl hg=>wpAny_Compare1 (binD ho ha hb I fo rl hg) hm⟩
theorem y2s{pins:List (Addr×Obj)}{σ:St}{H:Hp}{r:R D}{u:Value}{s':Shared}(h:Post X pins σ H r u s')(hg:(r>>=asB) ≠ .no):∃b H',u = .bool b/\(r>>=asB) = .ok b/\Inv X pins σ H' s'/\Same H H':=by
 obtain⟨d,v,H',e1,I,rv,S,i⟩:=h
 obtain⟨b,rfl,e2⟩:=y6a (R.next hg e1)
 rw[Is.bl_iff.mp i] at rv
 exact⟨b,H',rv,(R.step e1 _).trans e2,I,S⟩
theorem z0r{op:CmpOp}{g2:D->D->R D}(ho:OpD X (compareOp op) g2)(ha:PD X a ga)(hb:PD X b gb)(hm:behindInMarks op b=false):PTD X (.Compare a [op] [b] pos) (gT (gBin g2 ga gb)):=by
 refine⟨fun pins s σ H F Γ I fo rl hg=>?_⟩
 refine wpAny_isTrue_Compare1 (wpAny_mono (binD ho ha hb I fo rl (R.left hg)) (fun v s1 h1=>wpAny_mono h1 (fun u s2 h2=>wpAny_mono h2 (fun z s3 h3=>?_) fun _ _ x=>x.bind _) fun _ _ x=>x.bind _) fun _ _ x=>x.bind _) hm
 obtain⟨b,H',rfl,e,I',S⟩:=y2s h3 hg
 exact wpAny_truthy_bool ⟨H',e,I',S⟩
theorem z8h(ha:PD X a ga)(he:∀whole,isTrue a X.env whole=(do let v <-whole;standAt a.pos;holding [v] (truthy v)):=by intro _;rfl):PTD X a (gT ga):=by
 refine⟨fun pins s σ H F Γ I fo rl hg=>?_⟩
 refine isTrue_plain (wpAny_mono (ha.run pins s σ H F Γ I fo rl (R.left hg)) (fun v s1 h3=>?_) fun _ _ x=>x.bind _) (he _)
 obtain⟨b,H',rfl,e,I',S⟩:=y2s h3 hg
 exact wpAny_truthy_bool ⟨H',e,I',S⟩
theorem x0y{op op':CmpOp}{g2 g2':D->D->R D}(ho:OpD X (compareOp op) g2)(ho':OpD X (compareOp op') g2')(ha:PD X a ga)(hb:PD X b gb)(hc:PD X c gc)
 (hm:lastMarks [op,op'] [b,c]=false:=by with_unfolding_all rfl):PD X (.Compare a [op,op'] [b,c] pos) (z7e g2 g2' ga gb gc):=by
 refine⟨fun pins s σ H F Γ I fo rl hg=>?_⟩
 refine Compare_chain (wpAny_mono (ha.run pins s σ H F Γ I fo rl (R.left hg)) (fun v s1 ⟨dx,x,H1,e1,I1,r1,S1,i1⟩=>chain_link ?_) fun _ _ x=>x.bind _) hm
 have hg1:=R.next hg e1
 refine wpAny_mono (hb.run pins s1 σ H1 F Γ I1 (fo.same S1) (rl.same S1) (R.left hg1)) (fun u s2 ⟨dy,y,H2,e2,I2,r2,S2,i2⟩=>?_) fun _ _ x=>z1h.later e1 S1 (x.bind _)
 have hg2:=R.next hg1 e2
 refine thn (ho.run I2 r1 r2 (i1.same S2) i2 (R.left hg2)) fun z s3 h3=>?_
 obtain⟨d,v3,H3,e3,I3,r3,S3,i3⟩:=h3
 have hg3:=R.next hg2 e3
 obtain⟨k,rfl,e4⟩:=y6a (R.left hg3)
 have hg4:=R.next hg3 e4
 rw[Is.bl_iff.mp i3] at r3
 cases r3
 refine wpAny_truthy_bool ?_
 cases k with
 | false=>exact ite_ff (Post.bind e1 S1 (Post.bind e2 S2 (Post.bind e3 S3 (Post.bind e4 (.refl _) ⟨.bl false,.bl false,H3,rfl,I3,rfl,.refl _,Is.bl_iff.mpr rfl⟩))))
 | true =>
   refine ite_tt (chain_last (wpAny_mono (hc.run pins s3 σ H3 F Γ I3 ((fo.same S1).same S2 |>.same S3) (((rl.same S1).same S2).same S3) (R.left hg4)) (fun w' s4 ⟨dz,z',H4,e5,I4,r4,S4,i4⟩=>?_) fun _ _ x=>z1h.later e1 S1 (z1h.later e2 S2 (z1h.later e3 S3 (z1h.later e4 (.refl _) (x.bind _))))))
   exact thn (ho'.run I4 r2 r4 ((i2.same S3).same S4) i4 (R.next hg4 e5)) fun _ _ q=>Post.bind e1 S1 (Post.bind e2 S2 (Post.bind e3 S3 (Post.bind e4 (.refl _) (Post.bind e5 S4 q))))
variable {gA gB:G->R Bool}{rest:List Expr}
theorem z9g(ha:PTD X a gA):PWD X (.BoolOp .And [a] pos) gA:=by
 refine⟨fun wh pins s σ H F Γ I fo rl hg=>?_⟩
 refine isTrue_and (thn (ha.run pins s σ H F Γ I fo rl hg) fun c s1 e=>?_)
 cases c with
 | true=>exact isTrue_and_nil e
 | false=>exact e
theorem z9m(ha:PTD X a gA):PWD X (.BoolOp .Or [a] pos) gA:=by
 refine⟨fun wh pins s σ H F Γ I fo rl hg=>?_⟩
 refine isTrue_or (thn (ha.run pins s σ H F Γ I fo rl hg) fun c s1 e=>?_)
 cases c with
 | false=>exact isTrue_or_nil e
 | true=>exact e
theorem z9o(ha:PTD X a gA)(hb:PWD X (.BoolOp .And (b::rest) pos) gB):PWD X (.BoolOp .And (a::b::rest) pos) (gAnd gA gB):=by
 refine⟨fun wh pins s σ H F Γ I fo rl hg=>?_⟩
 refine isTrue_and (wpAny_mono (ha.run pins s σ H F Γ I fo rl (R.left hg)) (fun c s1 ⟨H1,e1,I1,S1⟩=>?_) fun _ _ x=>x.bind _)
 have hg1:=R.next hg e1
 cases c with
 | true=>exact wpAny_mono (hb.run wh pins s1 σ H1 F Γ I1 (fo.same S1) (rl.same S1) hg1) (fun _ _ ⟨H2,e2,I2,S2⟩=>⟨H2,(R.step e1 _).trans e2,I2,S1.trans S2⟩) fun _ _ x=>z1h.later e1 S1 x
 | false=>exact⟨H1,R.step e1 _,I1,S1⟩
theorem z9n(ha:PTD X a gA)(hb:PWD X (.BoolOp .Or (b::rest) pos) gB):PWD X (.BoolOp .Or (a::b::rest) pos) (gOr gA gB):=by
 refine⟨fun wh pins s σ H F Γ I fo rl hg=>?_⟩
 refine isTrue_or (wpAny_mono (ha.run pins s σ H F Γ I fo rl (R.left hg)) (fun c s1 ⟨H1,e1,I1,S1⟩=>?_) fun _ _ x=>x.bind _)
 have hg1:=R.next hg e1
 cases c with
 | false=>exact wpAny_mono (hb.run wh pins s1 σ H1 F Γ I1 (fo.same S1) (rl.same S1) hg1) (fun _ _ ⟨H2,e2,I2,S2⟩=>⟨H2,(R.step e1 _).trans e2,I2,S1.trans S2⟩) fun _ _ x=>z1h.later e1 S1 x
 | true=>exact⟨H1,R.step e1 _,I1,S1⟩
theorem z9p(ha:PTD X a gA):PTD X (.UnaryOp .Not a pos) (gNot gA):=⟨fun pins s σ H F Γ I fo rl hg =>
 isTrue_not (wpAny_mono (ha.run pins s σ H F Γ I fo rl (R.left hg)) (fun c s1 ⟨H1,e1,I1,S1⟩=>⟨H1,R.step e1 _,I1,S1⟩) fun _ _ x=>x.bind _)⟩
theorem y8p{op}(h:PD X a ga):PD X (.BoolOp op [a] pos) ga:=⟨fun pins s σ H F Γ I fo rl hg=>BoolOp_one (h.run pins s σ H F Γ I fo rl hg)⟩
theorem y8r(ha:PD X a ga)(hb:PD X (.BoolOp .And (b::rest) pos) gb):PD X (.BoolOp .And (a::b::rest) pos) (z9a ga gb):=by
 refine⟨fun pins s σ H F Γ I fo rl hg=>?_⟩
 refine BoolOp_and (wpAny_mono (ha.run pins s σ H F Γ I fo rl (R.left hg)) (fun v s1 ⟨d,x,H1,e1,I1,r1,S1,i1⟩=>?_) fun _ _ x=>x.bind _)
 have hg1:=R.next hg e1
 obtain⟨k,rfl,e2⟩:=y6a (R.left hg1)
 have hg2:=R.next hg1 e2
 rw[Is.bl_iff.mp i1] at r1
 cases r1
 refine wpAny_truthy_bool ?_
 cases k with
 | true=>exact wpAny_mono (hb.run pins s1 σ H1 F Γ I1 (fo.same S1) (rl.same S1) hg2) (fun _ _ q=>Post.bind e1 S1 (Post.bind e2 (.refl _) q)) fun _ _ q=>z1h.later e1 S1 (z1h.later e2 (.refl _) q)
 | false=>exact Post.bind e1 S1 (Post.bind e2 (.refl _) ⟨.bl false,.bl false,H1,rfl,I1,rfl,.refl _,Is.bl_iff.mpr rfl⟩)
theorem x5s(ha:PD X a ga):PD X (.UnaryOp .Not a pos) (y0r ga):=by
 refine⟨fun pins s σ H F Γ I fo rl hg=>?_⟩
 refine UnaryOp_ (wpAny_mono (ha.run pins s σ H F Γ I fo rl (R.left hg)) (fun v s1 ⟨d,x,H1,e1,I1,r1,S1,i1⟩=>?_) fun _ _ x=>x.bind _)
 have hg1:=R.next hg e1
 obtain⟨k,rfl,e2⟩:=y6a (R.left hg1)
 rw[Is.bl_iff.mp i1] at r1
 cases r1
 exact not_of (wpAny_truthy_bool (Post.bind e1 S1 (Post.bind e2 (.refl _) ⟨.bl (!k),.bl (!k),H1,rfl,I1,rfl,.refl _,Is.bl_iff.mpr rfl⟩)))
theorem x2h(ha:PD X a ga):PD X (.UnaryOp .USub a pos) (gNeg ga):=by
 refine⟨fun pins s σ H F Γ I fo rl hg=>?_⟩
 refine UnaryOp_ (wpAny_mono (ha.run pins s σ H F Γ I fo rl (R.left hg)) (fun v s1 ⟨d,x,H1,e1,I1,r1,S1,i1⟩=>?_) fun _ _ x=>x.bind _)
 have hg1:=R.next hg e1
 cases d with
 | int i =>
   rw[Is.int_iff.mp i1] at r1
   obtain⟨t,rfl⟩:=r1
   exact neg_int (Post.bind e1 S1 ⟨.int (-i),.int (-i),H1,rfl,I1.tok _,⟨_,rfl⟩,.refl _,Is.int_iff.mpr rfl⟩)
 | _=>exact absurd rfl hg1
theorem x3l(hc:PTD X c gA)(ha:PD X a ga)(hb:PD X b gb):PD X (.IfExp c a b pos) (gIf gA ga gb):=by
 refine⟨fun pins s σ H F Γ I fo rl hg=>?_⟩
 refine wpAny_IfExp (wpAny_mono (hc.run pins s σ H F Γ I fo rl (R.left hg)) (fun k s1 ⟨H1,e1,I1,S1⟩=>?_) fun _ _ x=>x.bind _)
 have hg1:=R.next hg e1
 cases k with
 | true=>exact wpAny_mono (ha.run pins s1 σ H1 F Γ I1 (fo.same S1) (rl.same S1) hg1) (fun _ _ q=>Post.bind e1 S1 q) fun _ _ q=>z1h.later e1 S1 q
 | false=>exact wpAny_mono (hb.run pins s1 σ H1 F Γ I1 (fo.same S1) (rl.same S1) hg1) (fun _ _ q=>Post.bind e1 S1 q) fun _ _ q=>z1h.later e1 S1 q
variable {es:List Expr}{gs:G->R (List D)}
theorem z0c:PAD X [] gNil:=⟨fun pos pins s σ H F Γ I fo rl hg=>Calls.spliced_nil ⟨[],[],H,rfl,I,.nil,.refl _,IsAll.nil⟩⟩
theorem z0a(ha:PD X e g)(hr:PAD X es gs)(hs:starEach (e::es) X.env=(false,eval e X.env)::starEach es X.env:=by rfl):PAD X (e::es) (gCons g gs):=by
 refine⟨fun pos pins s σ H F Γ I fo rl hg=>?_⟩
 rw[hs]
 show wpAny _ _ (spliced ((false,eval e X.env)::backTo pos (starEach es X.env))) _ _ s
 refine Calls.spliced_cons (wpAny_mono (ha.run pins s σ H F Γ I fo rl (R.left hg)) (fun u s1 ⟨d,x,H1,e1,I1,r1,S1,i1⟩=>?_) fun _ _ x=>x.bind _)
 have hg1:=R.next hg e1
 refine wpAny_mono (hr.run pos pins s1 σ H1 F Γ I1 (fo.same S1) (rl.same S1) (R.left hg1)) (fun us s2 ⟨ds,vs,H2,e2,I2,r2,S2,i2⟩=>?_) fun _ _ x=>z1h.later e1 S1 (x.bind _)
 exact⟨d::ds,x::vs,H2,(R.step e1 _).trans (R.step e2 _),I2,.cons r1 r2,S1.trans S2,IsAll.cons (i1.same S2) i2⟩
theorem z5b{n:Nat}(h:n<=1000):n<=sizeLine:=Nat.le_of_lt (y8c h)
theorem z1v{H:Hp}{p:Addr}(h:H p=none)(o:HO):Same H (upd H p o):=fun b u q=>by rw[z0q (z0s q h)];exact q
theorem z3b{x1}(h:PAD X es gs):PD X (.Tuple es x1 pos) (gTup gs):=by
 refine⟨fun pins s σ H F Γ I fo rl hg=>?_⟩
 refine wpAny_Tuple_spliced (wpAny_mono (h.run pos pins s σ H F Γ I fo rl (R.left hg)) (fun us s1 ⟨ds,vs,H1,e1,I1,r1,S1,i1⟩=>?_) fun _ _ x=>x.bind _)
 have hgx:=R.next hg e1
 obtain⟨hl,e2⟩:=R.guard_ne hgx
 have hz:vs.length<=sizeLine:=by rw[<-i1.length];exact z5b hl
 refine⟨by rw[<-r1.length];exact hz,?_⟩
 have hf:H1 s1.heap.objs.size=none:=I1.hok.fresh (Nat.le_refl _)
 have S2:=z1v hf (.tup vs)
 refine Post.bind e1 S1 ⟨.tup ds,.ref s1.heap.objs.size,upd H1 s1.heap.objs.size (.tup vs),e2,I1.laid (t':=s1.toks) (fun b u e=>Heap.get?_push_of_some _ e) (Nat.le_refl _) ?_,rfl,S2,Is.tup_iff.mpr ⟨_,vs,rfl,SqT.of z0u,i1.same S2⟩⟩
 exact⟨hz,us,r1,⟨_,Heap.get?_push_size _ rfl,rfl,_,rfl⟩⟩
theorem z7d(h:PAD X es gs):PF X (.List es pos) (gLst gs):=by
 refine⟨fun pins s σ H F Γ I fo rl hg=>?_⟩
 refine wpAny_List_spliced (wpAny_mono (h.run pos pins s σ H F Γ I fo rl (R.left hg)) (fun us s1 ⟨ds,vs,H1,e1,I1,r1,S1,i1⟩=>?_) fun _ _ x=>x.bind _)
 have hgx:=R.next hg e1
 obtain⟨⟨hl,hn⟩,e2⟩:=R.guard_ne hgx
 have hz:vs.length<=sizeLine:=by rw[<-i1.length];exact z5b hl
 refine⟨by rw[<-r1.length];exact hz,?_⟩
 have hf:H1 s1.heap.objs.size=none:=I1.hok.fresh (Nat.le_refl _)
 have S2:=z1v hf (.lst vs)
 have hH:H s1.heap.objs.size=none:=S1.free hf
 refine⟨ds,s1.heap.objs.size,vs,upd H1 s1.heap.objs.size (.lst vs),(R.step e1 _).trans e2,I1.laid (t':=s1.toks) (fun b u e=>Heap.get?_push_of_some _ e) (Nat.le_refl _) ?_,rfl,S1.trans S2,hH,z0u,?_⟩
 ·exact⟨hz,us,0,r1,Heap.get?_push_size _ rfl⟩
 ·exact IsAll.hid (((fo.same S1).same S2).cons z0u) ds vs hn (i1.same S2)
end
section
variable {X:Cx}{e a b c:Expr}{g ga gb gc:G->R D}{pos:Pos}
theorem od_I{f:Value->Value->Sem Value}{C:Int->Int->Prop}[∀i j,Decidable (C i j)]{v:Int->Int->V}{d:Int->Int->D}(hd:∀K H i j,Is K H (d i j) (v i j))(ho:OpR X.nox f (rI C v)) :
 OpD X f (fun x y=>match x,y with | .int i,.int j=>R.guard (C i j) (.ok (d i j)) | _,_=>.no):=by
 refine⟨_,ho,fun H x y dx dy ix iy hg=>?_⟩
 cases dx with
 | int i =>
   cases dy with
   | int j =>
     obtain⟨hc,e⟩:=R.guard_ne (show R.guard (C i j) (.ok (d i j)) ≠ .no from hg)
     exact⟨i,j,Is.int_iff.mp ix,Is.int_iff.mp iy,hc,d i j,e,.refl _,hd _ _ _ _⟩
   | _=>exact absurd rfl hg
 | _=>exact absurd rfl hg
theorem x1e{f:Value->Value->Sem Value}{v:Int->Int->V}{d:Int->Int->D}(hd:∀K H i j,Is K H (d i j) (v i j))(ho:OpR X.nox f (rI0 v)) :
 OpD X f (fun x y=>match x,y with | .int i,.int j=>.ok (d i j) | _,_=>.no):=by
 refine⟨_,ho,fun H x y dx dy ix iy hg=>?_⟩
 cases dx with
 | int i =>
   cases dy with
   | int j=>exact⟨i,j,Is.int_iff.mp ix,Is.int_iff.mp iy,d i j,rfl,.refl _,hd _ _ _ _⟩
   | _=>exact absurd rfl hg
 | _=>exact absurd rfl hg
theorem z9u:OpD X (binaryOp .Sub) dSub:=x1e (d:=fun i j=>.int (i-j)) (fun _ _ _ _=>Is.int_iff.mpr rfl) x5t
theorem z6b:OpD X (binaryOp .FloorDiv) dDiv:=od_I (d:=fun i j=>.int (i/j)) (fun _ _ _ _=>Is.int_iff.mpr rfl) (C:=fun i j=>0<j/\j<1073741824) x3r
theorem z3j:OpD X (binaryOp .Mod) dMod:=od_I (d:=fun i j=>.int (i%j)) (fun _ _ _ _=>Is.int_iff.mpr rfl) (C:=fun i j=>0<j) x5x
theorem x6c:OpD X (binaryOp .Pow) dPow:=od_I (d:=fun i j=>.int (i^j.toNat)) (fun _ _ _ _=>Is.int_iff.mpr rfl) (C:=fun i j=>0<=j/\j<=1000000/\i.natAbs<18446744073709551616) x5v
theorem x1c:OpD X (compareOp .Lt) dLt:=x1e (d:=fun i j=>.bl (decide (i<j))) (fun _ _ _ _=>Is.bl_iff.mpr rfl) x7i
theorem x7l:OpD X (compareOp .LtE) dLe:=x1e (d:=fun i j=>.bl (decide (i<=j))) (fun _ _ _ _=>Is.bl_iff.mpr rfl) x7j
theorem x1d:OpD X (compareOp .Gt) dGt:=x1e (d:=fun i j=>.bl (decide (j<i))) (fun _ _ _ _=>Is.bl_iff.mpr rfl) x7k
noncomputable def x7e(K:PySem.W.Frag):R2:=fun x y H Q=>∃a b xs ys,x = .ref a/\y = .ref b/\SqT K H a xs/\SqT K H b ys/\xs.length+ys.length<=sizeLine /\
 (xs=[]->Q (.ref b) H)/\(xs≠[]->ys=[]->Q (.ref a) H)/\(xs≠[]->ys≠[]->∀p,H p=none->Q (.ref p) (upd H p (.tup (xs++ys))))
theorem x3u:OpR X (binaryOp .Add) (x7e X.K):=by
 intro pins s σ H x y v u Q I rx ry h
 obtain⟨a,b,xs,ys,rfl,rfl,ha,hb,hz,q0,q1,q2⟩:=h
 by_cases hx:xs=[]
 ·cases rx
  cases ry
  obtain⟨its,r1,p1,_⟩:=I.tuple ha
  obtain⟨its2,r2,p2,_⟩:=I.tuple hb
  have hi:its=[]:=r1.nil_iff.mpr hx
  obtain⟨⟨cls,dd,data,sl⟩,ho,hc,n,hd⟩:=id p1
  obtain⟨⟨cls2,dd2,data2,sl2⟩,ho2,hc2,n2,hd2⟩:=id p2
  simp only at hc hd hc2 hd2
  subst hc hd hc2 hd2
  exact concat_meets ⟨_,ho,rfl⟩ ⟨_,ho2,rfl⟩ noFill_tuple_add seq_tuple_add PySem.F.slot_tuple_add PySem.F.entry_tuple_add (PySem.F.args_tuple_add_2 _ _)
   (tuple_addW0 a b its.toArray its2.toArray n n2 dd dd2 sl sl2 (by rw[hi];rfl)) ⟨ho,ho2,⟨.ref b,H,I,rfl,q0 hx⟩⟩
 ·exact x3s pins s σ H _ _ v u Q I rx ry ⟨a,b,xs,ys,rfl,rfl,ha,hb,hx,hz,q1 hx,q2 hx⟩
theorem z1y:OpD X (binaryOp .Add) dAdd:=by
 refine⟨_,OpR.or (x6a (X:=X.nox)) (x3u (X:=X.nox)),fun H x y dx dy ix iy hg=>?_⟩
 cases dx with
 | int i =>
   cases dy with
   | int j=>exact .inl ⟨i,j,Is.int_iff.mp ix,Is.int_iff.mp iy,.int (i+j),rfl,.refl _,Is.int_iff.mpr rfl⟩
   | _=>exact absurd rfl hg
 | tup ds =>
   cases dy with
   | tup es =>
     obtain⟨hc,e⟩:=R.guard_ne (show R.guard (ds.length+es.length<=1000) (R.ok (D.tup (ds++es)))≠R.no from hg)
     obtain⟨a,xs,rfl,h1,h2⟩:=Is.tup_iff.mp ix
     obtain⟨b,ys,rfl,h3,h4⟩:=Is.tup_iff.mp iy
     refine .inr ⟨a,b,xs,ys,rfl,rfl,h1,h3,by rw[<-h2.length,<-h4.length];exact z5b hc,fun z=>?_,fun z z'=>?_,fun z z' p hp=>?_⟩
     ·refine⟨.tup (ds++es),e,.refl _,Is.tup_iff.mpr ⟨b,ys,rfl,h3,?_⟩⟩
      have:ds=[]:=List.length_eq_zero_iff.mp (by rw[h2.length,z];rfl)
      rw[this];exact h4
     ·refine⟨.tup (ds++es),e,.refl _,Is.tup_iff.mpr ⟨a,xs,rfl,h1,?_⟩⟩
      have:es=[]:=List.length_eq_zero_iff.mp (by rw[h4.length,z'];rfl)
      rw[this,List.append_nil];exact h2
     ·have S:=z1v hp (.tup (xs++ys))
      exact⟨.tup (ds++es),e,S,Is.tup_iff.mpr ⟨p,xs++ys,rfl,SqT.of z0u,(h2.append h4).same S⟩⟩
   | _=>exact absurd rfl hg
 | _=>exact absurd rfl hg
theorem y6h(l:Addr)(items:Array Value)(n:Nat)(dd:Option Addr)(sl:Array (Option Value))(k:Int)(u:Tok)(h1:(decide (k < -(2^63))||decide (k≥2^63))=false)(hc:(items.isEmpty||k==1)=true) :
 Meets (Builtin.«tuple.__mul__» ⟨[.ref l,.int k u],[]⟩) (fun _ Q s=>s.heap.get? l=some { cls:=.type "tuple",dict:=dd,data:=.seq items n,slots:=sl }/\Q (.ok (.ret (Value.ref l))) s) :=
 .of_wp fun prog w A Q s h=>by obtain⟨hp,g,d,tk,os⟩:=s;obtain⟨hl,h⟩:=h;have f1:=AutoSeq1.idx_int;wp_walk using wpAny_loadPart' hl;refine wpAny_ite_false (by rw[h1];rfl) ?_;wp_walk using wpAny_loadPart' hl;exact⟨_,rfl,h⟩
theorem y6j(l:Addr)(items:Array Value)(n:Nat)(dd:Option Addr)(sl:Array (Option Value))(k:Int)(u:Tok)(h1:(decide (k < -(2^63))||decide (k≥2^63))=false)(hc:(items.isEmpty||k==1)=false)(hc2:(decide (k<=0)||items.isEmpty)=true) :
 Meets (Builtin.«tuple.__mul__» ⟨[.ref l,.int k u],[]⟩) (fun _ Q s=>s.heap.get? l=some { cls:=.type "tuple",dict:=dd,data:=.seq items n,slots:=sl }/\Q (.ok (.ret (Value.ref s.heap.objs.size))) { s with heap:=s.heap.push { cls:=.type "tuple",data:=.seq #[] } }) :=
 .of_wp fun prog w A Q s h=>by obtain⟨hp,g,d,tk,os⟩:=s;obtain⟨hl,h⟩:=h;have f1:=AutoSeq1.idx_int;wp_walk using wpAny_loadPart' hl;refine wpAny_ite_false (by rw[h1];rfl) ?_;wp_walk using wpAny_loadPart' hl;exact⟨_,rfl,h⟩
theorem y6i(l:Addr)(items:Array Value)(n:Nat)(dd:Option Addr)(sl:Array (Option Value))(k:Int)(u:Tok)(h1:(decide (k < -(2^63))||decide (k≥2^63))=false)(hc:(items.isEmpty||k==1)=false)(hc2:(decide (k<=0)||items.isEmpty)=false)(hc3:¬((items.size:Int)*k>(2^63-1)/8))(hc4:Builtin.Tuple.tupleTooMany ((items.size:Int)*k)=false)(hc5:¬((List.replicate k.toNat items).foldl (fun x1 x2=>x1++x2) #[]).size>sizeLine) :
 Meets (Builtin.«tuple.__mul__» ⟨[.ref l,.int k u],[]⟩) (fun _ Q s=>s.heap.get? l=some { cls:=.type "tuple",dict:=dd,data:=.seq items n,slots:=sl }/\Q (.ok (.ret (Value.ref s.heap.objs.size))) { s with heap:=s.heap.push { cls:=.type "tuple",data:=.seq ((List.replicate k.toNat items).foldl (·++·) #[]) } }) :=
 .of_wp fun prog w A Q s h=>by obtain⟨hp,g,d,tk,os⟩:=s;obtain⟨hl,h⟩:=h;have f1:=AutoSeq1.idx_int;wp_walk using wpAny_loadPart' hl;refine wpAny_ite_false (by rw[h1];rfl) ?_;wp_walk using wpAny_loadPart' hl;refine wpAny_ite_false (decide_eq_false hc3) ?_;wp_walk using wpAny_loadPart' hl;exact⟨_,rfl,h⟩
theorem z8x:fillsNumberSlot (.type "tuple") "mul"=pure false :=
 PySem.fillsNumberSlot_seq (id:="tuple.__mul__") (r:=some (.builtin "tuple.__rmul__")) F.slot_tuple_mul.lookup (by decide +kernel) F.slot_tuple_rmul.lookup (by decide +kernel)
theorem y2q:seqRepeat? (.type "tuple")=pure (some (.builtin "tuple.__mul__")):=by
 unfold seqRepeat?
 rw[PySem.seqSlot_of (T:="tuple") (name:="__mul__") (id:="tuple.__mul__") F.slot_tuple_mul.lookup (by decide +kernel),PySem.seqSlot_of (T:="tuple") (name:="__rmul__") (id:="tuple.__rmul__") F.slot_tuple_rmul.lookup (by decide +kernel)]
 rfl
theorem y0o(a:Int)(t:Tok)(l:Addr)(items:Array Value)(n:Nat)(dd:Option Addr)(sl:Array (Option Value)) :
 Meets (Builtin.«int.__rmul__» ⟨[.int a t,.ref l],[]⟩) (fun _ Q s=>s.heap.get? l=some { cls:=.type "tuple",dict:=dd,data:=.seq items n,slots:=sl }/\Q (.ok (.ret Value.notImplemented)) s) :=
 .of_wp fun prog w A Q s h=>by obtain⟨hp,g,d,tk,os⟩:=s;obtain⟨hl,h⟩:=h;wp_walk;exact⟨_,rfl,h⟩
noncomputable def x7b(K:PySem.W.Frag):R2:=fun x y H Q=>∃l k xs,x = .ref l/\y = .int k/\SqT K H l xs/\0<=k/\k<1000000/\xs.length*k.toNat<=1000 /\
 ((xs=[]∨k=1)->Q (.ref l) H)/\(xs≠[]->k≠1->∀p,H p=none->Q (.ref p) (upd H p (.tup (List.replicate k.toNat xs).flatten)))
theorem x3p:OpR X (binaryOp .Mult) (x7b X.K):=by
 intro pins s σ H x y v u Q I rx ry h
 obtain⟨l,k,xs,rfl,rfl,hH,h1,h2,hz,q0,q1⟩:=h
 cases rx
 obtain⟨t,rfl⟩:=ry
 obtain⟨its,r,p1,hz2⟩:=I.tuple hH
 have hl:its.length=xs.length:=r.length.symm
 obtain⟨⟨cls,dd,data,sl⟩,ho,hc,n,hd⟩:=id p1
 simp only at hc hd
 subst hc hd
 have hb:(decide (k < -(2^63))||decide (k≥2^63))=false:=by
  rw[decide_eq_false (by lia),decide_eq_false (by lia)];rfl
 refine wpAny_binaryOp_repeat_ref (T:="tuple") (U:="int") (by decide) ⟨_,ho,rfl⟩ (fun s'=>typeIs_int s' k t) z8x F.fills_int_mul F.slot_int_rmul y2q F.slot_int_index.lookup
  (call_meets F.slot_int_rmul (typeIs_int s k t) F.entry_int_rmul (F.args_int_rmul_2 _ _) (y0o k t l its.toArray n dd sl) ⟨ho,rfl,⟨_,ho,rfl⟩,?_⟩)
 by_cases c1:xs=[]∨k=1
 ·have hc1:(its.toArray.isEmpty||k==1)=true:=by
   rcases c1 with c | c
   ·have:its=[]:=List.length_eq_zero_iff.mp (by rw[hl,c];rfl)
    rw[this];rfl
   ·rw[c];simp
  exact call_meets F.slot_tuple_mul ⟨_,ho,rfl⟩ F.entry_tuple_mul (F.args_tuple_mul_2 _ _) (y6h l its.toArray n dd sl k t hb hc1) ⟨ho,⟨.ref l,H,I,rfl,q0 c1⟩⟩
 ·have hx:xs≠[]:=fun e=>c1 (.inl e)
  have hk1:k≠1:=fun e=>c1 (.inr e)
  have hne:its≠[]:=fun e=>hx (List.length_eq_zero_iff.mp (by rw[<-hl,e];rfl))
  have he:its.toArray.isEmpty=false:=by cases its with | nil=>exact absurd rfl hne | cons a b=>rfl
  have hc1:(its.toArray.isEmpty||k==1)=false:=by rw[he];simpa using hk1
  by_cases c2:k<=0
  ·have hk0:k=0:=by lia
   refine call_meets F.slot_tuple_mul ⟨_,ho,rfl⟩ F.entry_tuple_mul (F.args_tuple_mul_2 _ _) (y6j l its.toArray n dd sl k t hb hc1 (by rw[decide_eq_true c2];rfl)) ⟨ho,?_⟩
   have e0:(List.replicate k.toNat xs).flatten=[]:=by rw[hk0];rfl
   refine⟨.ref s.heap.objs.size,_,I.laid (t':=s.toks) (o:=.tup (List.replicate k.toNat xs).flatten) (fun b ob q=>Heap.get?_push_of_some _ q) (Nat.le_refl _) ?_,rfl,q1 hx hk1 _ (I.hok.fresh (Nat.le_refl _))⟩
   rw[e0]
   exact⟨by decide,[],.nil,⟨_,Heap.get?_push_size _ rfl,rfl,_,rfl⟩⟩
  ·have f0:∀m:Nat,List.foldl (fun x1 x2=>x1++x2) #[] (List.replicate m its.toArray)=(List.replicate m its).flatten.toArray:=fun m=>by
    have:=y0d its m []
    rw[List.nil_append] at this
    exact this
   have hlr:(List.replicate k.toNat its).flatten.length<=1000:=by rw[y4p,hl,Nat.mul_comm];exact hz
   have hsz:(its.toArray.size:Int)*k<=1000:=by
    rw[List.size_toArray,hl,show k=((k.toNat:Nat):Int) by lia]
    exact_mod_cast hz
   refine call_meets F.slot_tuple_mul ⟨_,ho,rfl⟩ F.entry_tuple_mul (F.args_tuple_mul_2 _ _) (y6i l its.toArray n dd sl k t hb hc1 (by rw[decide_eq_false c2,he];rfl) (by lia) ?_ ?_) ⟨ho,?_⟩
   ·unfold Builtin.Tuple.tupleTooMany
    have:(1000:Int)<=(sizeLine:Int):=by decide
    exact decide_eq_false (by lia)
   ·rw[f0,List.size_toArray]
    have:=z5b hlr
    lia
   ·rw[f0]
    refine⟨.ref s.heap.objs.size,_,I.laid (t':=s.toks) (o:=.tup (List.replicate k.toNat xs).flatten) (fun b ob q=>Heap.get?_push_of_some _ q) (Nat.le_refl _) ?_,rfl,q1 hx hk1 _ (I.hok.fresh (Nat.le_refl _))⟩
    exact⟨by rw[y4p,Nat.mul_comm];exact z5b hz,_,r.rep k.toNat,⟨_,Heap.get?_push_size _ rfl,rfl,_,rfl⟩⟩
theorem IsAll.rep{K:PySem.W.Frag}{H:Hp}{ds:List D}{xs:List V}(h:IsAll K H ds xs):∀n:Nat,IsAll K H (List.replicate n ds).flatten (List.replicate n xs).flatten
 | 0=>IsAll.nil
 | n+1=>by rw[List.replicate_succ,List.flatten_cons,List.replicate_succ,List.flatten_cons];exact h.append (IsAll.rep h n)
theorem y2w:OpD X (binaryOp .Mult) dMul:=by
 refine⟨_,OpR.or (x5w (X:=X.nox)) (x3p (X:=X.nox)),fun H x y dx dy ix iy hg=>?_⟩
 cases dx with
 | int i =>
   cases dy with
   | int j =>
     obtain⟨hc,e⟩:=R.guard_ne (show R.guard (z7k i j) (R.ok (D.int (i*j)))≠R.no from hg)
     refine .inl ⟨i,j,Is.int_iff.mp ix,Is.int_iff.mp iy,?_,.int (i*j),e,.refl _,Is.int_iff.mpr rfl⟩
     unfold z7k z9b at hc
     show(-(2^64)<i/\i<2^64)∨(-(2^64)<j/\j<2^64)
     lia
   | _=>exact absurd rfl hg
 | tup ds =>
   cases dy with
   | int j =>
     obtain⟨⟨hc1,hc2⟩,e⟩:=R.guard_ne (show R.guard (0<=j/\j<1000000/\ds.length*j.toNat<=1000) (R.ok (D.tup (List.replicate j.toNat ds).flatten))≠R.no from hg)
     obtain⟨a,xs,rfl,h1,h2⟩:=Is.tup_iff.mp ix
     have hxl:=h2.length
     refine .inr ⟨a,j,xs,rfl,Is.int_iff.mp iy,h1,hc1,hc2.1,by rw[<-hxl];exact hc2.2,fun c=>?_,fun z z' p hp=>?_⟩
     ·refine⟨_,e,.refl _,Is.tup_iff.mpr ⟨a,xs,rfl,h1,?_⟩⟩
      rcases c with c | c
      ·have:ds=[]:=List.length_eq_zero_iff.mp (by rw[hxl,c];rfl)
       rw[this,c]
       have e2:∀m:Nat,(List.replicate m ([]:List D)).flatten=[]:=fun m=>by simp
       rw[e2];exact IsAll.nil
      ·subst c
       show IsAll X.K H (List.replicate 1 ds).flatten xs
       rw[show(List.replicate 1 ds).flatten=ds by simp];exact h2
     ·have S:=z1v hp (.tup (List.replicate j.toNat xs).flatten)
      exact⟨_,e,S,Is.tup_iff.mpr ⟨p,_,rfl,SqT.of z0u,(h2.rep _).same S⟩⟩
   | _=>exact absurd rfl hg
 | _=>exact absurd rfl hg
mutual
noncomputable def D.py:D->PyData
 | .non=>.none
 | .bl b=>.bool b
 | .int i=>.int i
 | .str x=>.str x
 | .tup ds=>.tuple (D.pys ds)
 | .lst ds=>.list (D.pys ds)
 | .dct=>.dict []
 | .exc _=>.dict []
noncomputable def D.pys:List D->List PyData
 | []=>[]
 | d::ds=>d.py::D.pys ds
end
mutual
theorem y3h:∀(n:Nat) (d:D),D.lay n d=true->d.py.canLay0=true/\d.py.depth<=n
 | n,.non,_=>by simp[D.py,PyData.canLay0,PyData.depth]
 | n,.bl _,_=>by simp[D.py,PyData.canLay0,PyData.depth]
 | n,.int _,_=>by simp[D.py,PyData.canLay0,PyData.depth]
 | n,.str x,h=>by
   have h':PyData.strOk x=true:=by have:=h;rw[y4q] at this;exact this
   simp[D.py,PyData.canLay0,PyData.depth,h']
 | 0,.tup ds,h=>by simp[D.lay] at h
 | 0,.lst ds,h=>by simp[D.lay] at h
 | n+1,.tup ds,h=>by
   have q:=lays_py n ds (by simpa [D.lay] using h)
   constructor
   ·simpa [D.py,PyData.canLay0] using q.1
   ·have:=q.2
    simp only[D.py,PyData.depth];lia
 | n+1,.lst ds,h=>by
   have q:=lays_py n ds (by simpa [D.lay] using h)
   constructor
   ·simpa [D.py,PyData.canLay0] using q.1
   ·have:=q.2
    simp only[D.py,PyData.depth];lia
 | n,.dct,h=>by cases n<;>simp[D.lay] at h
 | n,.exc _,h=>by cases n<;>simp[D.lay] at h
theorem lays_py:∀(n:Nat) (ds:List D),D.lays n ds=true->PyData.canLayAll0 (D.pys ds)=true/\PyData.depthAll (D.pys ds)<=n
 | n,[],_=>by simp[D.pys,PyData.canLayAll0,PyData.depthAll]
 | n,d::ds,h=>by
   have h':D.lay n d=true/\D.lays n ds=true:=by simpa [D.lays] using h
   have q1:=y3h n d h'.1
   have q2:=lays_py n ds h'.2
   constructor
   ·simp[D.pys,PyData.canLayAll0,q1.1,q2.1]
   ·have:=q1.2;have:=q2.2
    simp only[D.pys,PyData.depthAll];lia
end
mutual
theorem z7r{pins:List (Addr×Obj)}{σ:St}{H:Hp}{s:Shared}(I:Inv X pins σ H s):∀(n:Nat) (d:D) (v:V) (u:Value),D.lay n d=true->Is X.K H d v->RelV v u->∃as,Reads s.heap u d.py as
 | _,.non,v,u,_,i,r=>by
   rw[Is.non_iff.mp i] at r;cases (show u=Value.none from r)
   exact⟨_,.none⟩
 | _,.bl b,v,u,_,i,r=>by
   rw[Is.bl_iff.mp i] at r;cases (show u=Value.bool b from r)
   exact⟨_,.bool b⟩
 | _,.int k,v,u,_,i,r=>by
   rw[Is.int_iff.mp i] at r
   obtain⟨t,rfl⟩:=(show ∃t,u=Value.int k t from r)
   exact⟨_,.int k t⟩
 | _,.str x,v,u,_,i,r=>by
   rw[Is.str_iff.mp i] at r
   obtain⟨t,rfl⟩:=(show ∃t,u=Value.str x t from r)
   exact⟨_,.str x t⟩
 | 0,.tup ds,v,u,h,_,_=>by simp[D.lay] at h
 | 0,.lst ds,v,u,h,_,_=>by simp[D.lay] at h
 | n+1,.tup ds,v,u,h,i,r=>by
   obtain⟨a,xs,rfl,h1,h2⟩:=Is.tup_iff.mp i
   cases (show u=Value.ref a from r)
   obtain⟨its,rv,⟨o,ho,hc,m,hd⟩,_⟩:=I.tuple h1
   obtain⟨as,ra⟩:=readsAll_of I n ds xs its (by simpa [D.lay] using h) h2 rv
   exact⟨as,by unfold D.py;exact .tuple ho hc hd (by simpa using ra)⟩
 | n+1,.lst ds,v,u,h,i,r=>by
   obtain⟨a,xs,rfl,h1,h2⟩:=Is.lst_iff.mp i
   cases (show u=Value.ref a from r)
   obtain⟨its,rv,⟨o,m,ho,hc,_,hd⟩,_⟩:=I.list h1
   obtain⟨as,ra⟩:=readsAll_of I n ds xs its (by simpa [D.lay] using h) h2 rv
   exact⟨a::as,by unfold D.py;exact .list ho hc hd (by simpa using ra)⟩
 | n,.dct,v,u,h,_,_=>by cases n<;>simp[D.lay] at h
 | n,.exc _,v,u,h,_,_=>by cases n<;>simp[D.lay] at h
theorem readsAll_of{pins:List (Addr×Obj)}{σ:St}{H:Hp}{s:Shared}(I:Inv X pins σ H s):∀(n:Nat) (ds:List D) (xs:List V) (us:List Value),D.lays n ds=true->IsAll X.K H ds xs->Vals xs us->∃as,ReadsAll s.heap us (D.pys ds) as
 | n,[],xs,us,_,i,r=>by
   rw[IsAll.nil_iff.mp i] at r
   cases r
   exact⟨_,by unfold D.pys;exact .nil⟩
 | n,d::ds,xs,us,h,i,r=>by
   obtain⟨x,r',rfl,h1,h2⟩:=IsAll.cons_iff.mp i
   have h':D.lay n d=true/\D.lays n ds=true:=by simpa [D.lays] using h
   cases r with
   | cons q1 q2 =>
     obtain⟨as,ra⟩:=z7r I n d x _ h'.1 h1 q1
     obtain⟨bs,rb⟩:=readsAll_of I n ds r' _ h'.2 h2 q2
     exact⟨as++bs,by unfold D.pys;exact .cons ra rb⟩
end
mutual
theorem y9r:∀x y:D,eqD x y=PyData.eqv x.py y.py
 | .non,y=>by cases y<;>simp[eqD,D.py,PyData.eqv]
 | .bl _,y=>by cases y<;>simp[eqD,D.py,PyData.eqv]
 | .int _,y=>by cases y<;>simp[eqD,D.py,PyData.eqv]
 | .str _,y=>by cases y<;>simp[eqD,D.py,PyData.eqv]
 | .dct,y=>by cases y<;>simp[eqD,D.py,PyData.eqv]
 | .exc _,y=>by cases y<;>simp[eqD,D.py,PyData.eqv]
 | .tup xs,y=>by
   cases y with
   | tup ys=>rw[eqD,D.py,D.py,PyData.eqv,eqDs_py xs ys]
   | _=>simp[eqD,D.py,PyData.eqv]
 | .lst xs,y=>by
   cases y with
   | lst ys=>rw[eqD,D.py,D.py,PyData.eqv,eqDs_py xs ys]
   | _=>simp[eqD,D.py,PyData.eqv]
theorem eqDs_py:∀xs ys:List D,eqDs xs ys=PyData.eqvAll (D.pys xs) (D.pys ys)
 | [],[]=>by simp[eqDs,D.pys,PyData.eqvAll]
 | [],_::_=>by simp[eqDs,D.pys,PyData.eqvAll]
 | _::_,[]=>by simp[eqDs,D.pys,PyData.eqvAll]
 | x::xs,y::ys=>by rw[eqDs,D.pys,D.pys,PyData.eqvAll,y9r x y,eqDs_py xs ys]
end
theorem z4c(hu:X.A.units+64<cLine):OpD X (compareOp .Eq) dEq:=by
 refine⟨fun x y H Q=>∃dx dy,Is X.K H dx x/\Is X.K H dy y/\D.lay 40 dx=true/\D.lay 40 dy=true/\Q (.bl (eqD dx dy)) H,?_,fun H x y dx dy ix iy hg=>?_⟩
 ·intro pins s σ H x y v u Q I rx ry h
  obtain⟨dx,dy,ix,iy,l1,l2,q⟩:=h
  obtain⟨as,ra⟩:=z7r I 40 dx x v l1 ix rx
  obtain⟨bs,rb⟩:=z7r I 40 dy y u l2 iy ry
  have p1:=y3h 40 dx l1
  have p2:=y3h 40 dy l2
  have hu':X.A.units+64<cLine:=hu
  refine PySem.SeqAt.compareEq_reads ra rb p1.1 p2.1 (show X.A.units+min dx.py.depth dy.py.depth<cLine by lia) ⟨.bl (eqD dx dy),H,I,by rw[y9r];rfl,q⟩
 ·obtain⟨⟨l1,l2⟩,e⟩:=R.guard_ne hg
  exact⟨dx,dy,ix,iy,l1,l2,.bl (eqD dx dy),e,.refl _,Is.bl_iff.mpr rfl⟩
theorem y4m(hu:X.A.units+64<cLine):OpD X (compareOp .NotEq) dNe:=by
 refine⟨fun x y H Q=>∃dx dy,Is X.K H dx x/\Is X.K H dy y/\D.lay 40 dx=true/\D.lay 40 dy=true/\Q (.bl (!eqD dx dy)) H,?_,fun H x y dx dy ix iy hg=>?_⟩
 ·intro pins s σ H x y v u Q I rx ry h
  obtain⟨dx,dy,ix,iy,l1,l2,q⟩:=h
  obtain⟨as,ra⟩:=z7r I 40 dx x v l1 ix rx
  obtain⟨bs,rb⟩:=z7r I 40 dy y u l2 iy ry
  have p1:=y3h 40 dx l1
  have p2:=y3h 40 dy l2
  have hu':X.A.units+64<cLine:=hu
  refine PySem.SeqAt.compareNe_reads ra rb p1.1 p2.1 (show X.A.units+min dx.py.depth dy.py.depth<cLine by lia) ⟨.bl (!eqD dx dy),H,I,by rw[y9r];rfl,q⟩
 ·obtain⟨⟨l1,l2⟩,e⟩:=R.guard_ne hg
  exact⟨dx,dy,ix,iy,l1,l2,.bl (!eqD dx dy),e,.refl _,Is.bl_iff.mpr rfl⟩
theorem IsAll.atI{K:PySem.W.Frag}{H:Hp}{ds:List D}{xs:List V}{i:Int}{d:D}(h:IsAll K H ds xs)(e:atI ds i=some d):∃x,L2.atI xs i=some x/\Is K H d x:=by
 unfold L2.atI
 unfold L3.atI at e
 rw[<-h.length]
 show ∃x,((L3.ixN ds.length i).bind fun j=>xs[j]?)=some x/\Is K H d x
 cases q:L3.ixN ds.length i with
 | none=>rw[q] at e;cases e
 | some j =>
   rw[q] at e
   exact h.get (by simpa using e)
theorem z0p(ha:PD X a ga)(hb:PD X b gb)(hs:x4z b:=by intro _ _;rfl):PD X (.Subscript a b pos) (gBin dIx ga gb):=by
 refine⟨fun pins s σ H F Γ I fo rl hg=>?_⟩
 refine Subscript_ (wpAny_mono (ha.run pins s σ H F Γ I fo rl (R.left hg)) (fun v s1 ⟨dx,x,H1,e1,I1,r1,S1,i1⟩=>?_) fun _ _ x=>x.bind _)
 have hg1:=R.next hg e1
 refine wpAny_mono (hb.run pins s1 σ H1 F Γ I1 (fo.same S1) (rl.same S1) (R.left hg1)) (fun u s2 ⟨dy,y,H2,e2,I2,r2,S2,i2⟩=>?_) fun _ _ x=>z1h.later e1 S1 (x.bind _)
 have hg2:=R.next hg1 e2
 have i1':=i1.same S2
 have fin:∀(d:D) (z:V),dIx dx dy = .ok d->Is X.K H2 d z->∀(w':Value) (s':Shared),EP X.nox pins σ (fun z' H'=>z'=z/\H'=H2) w' s'->Post X pins σ H (gBin dIx ga gb Γ) w' s':=fun d z ed iz w' s' ⟨z',H',I',rz,ez,eH⟩=>by
  subst ez eH
  exact Post.bind e1 S1 (Post.bind e2 S2 ⟨d,z',H',ed,I'.unwish,rz,.refl _,iz⟩)
 cases dx with
 | tup ds =>
   cases dy with
   | int i =>
     obtain⟨p,xs,rfl,h1,h2⟩:=Is.tup_iff.mp i1'
     cases q:atI ds i with
     | none=>exact absurd (show dIx (.tup ds) (.int i) = .no by simp only[dIx,q]) hg2
     | some d =>
       obtain⟨z,ez,iz⟩:=h2.atI q
       exact wpAny_mono (x6p (X:=X.nox) a b pins s2 σ H2 _ y v u _ (I2.wish _) r1 r2 ⟨p,xs,i,z,rfl,Is.int_iff.mp i2,h1,ez,rfl,rfl⟩ (hs _ _)) (fun w' s' h=>fin d z (by show dIx (.tup ds) (.int i) = .ok d;simp only[dIx,q]) iz w' s' h) fun _ _ z=>False.elim z
   | _=>exact absurd rfl hg2
 | lst ds =>
   cases dy with
   | int i =>
     obtain⟨p,xs,rfl,h1,h2⟩:=Is.lst_iff.mp i1'
     cases q:atI ds i with
     | none=>exact absurd (show dIx (.lst ds) (.int i) = .no by simp only[dIx,q]) hg2
     | some d =>
       obtain⟨z,ez,iz⟩:=h2.atI q
       exact wpAny_mono (x4j (X:=X.nox) a b pins s2 σ H2 _ y v u _ (I2.wish _) r1 r2 ⟨p,xs,i,z,rfl,Is.int_iff.mp i2,h1,ez,rfl,rfl⟩ (hs _ _)) (fun w' s' h=>fin d z (by show dIx (.lst ds) (.int i) = .ok d;simp only[dIx,q]) iz w' s' h) fun _ _ z=>False.elim z
   | _=>exact absurd rfl hg2
 | _=>exact absurd rfl hg2
variable {x:Str}{p:Pos}{es:List Expr}{gs:G->R (List D)}{bid T:String}
noncomputable def z9d(X:Cx)(f:Value)(g:List D->R D):Prop:=∃r:List V->Hp->VK->Prop,z7c X.nox f r/\∀H xs ds,IsAll X.K H ds xs->g ds ≠ .no->r xs H fun z H'=>∃d,g ds = .ok d/\Same H H'/\Is X.K H' d z
theorem z9d.run{f:Value}{g:List D->R D}(h:z9d X f g){pins:List (Addr×Obj)}{s:Shared}{σ:St}{H:Hp}{xs:List V}{us:List Value}{ds:List D}(I:Inv X pins σ H s)(r:Vals xs us)(i:IsAll X.K H ds xs)(hg:g ds ≠ .no){E:Value->Shared->Prop} :
 wpAny (model X.prog X.w) X.A (call f us) (Post X pins σ H (g ds)) E s:=by
 obtain⟨r',ho,hr⟩:=h
 exact wpAny_mono (ho pins s σ H xs us _ (I.wish _) r (hr H xs ds i hg)) (fun _ _ ⟨z,H',I',rz,d,e,S,i⟩=>⟨d,z,H',e,I'.unwish,rz,S,i⟩) fun _ _ z=>False.elim z
theorem z0x{g:List D->R D}(hc:z9d X (.builtin bid) g)(hm:X.mg x=none)(hv:bootBuiltins x=some (.builtin bid))(ha:PAD X (e::es) gs)(hg:Gl X x:=by rfl)(hn:x≠"__name__":=by decide)(hdb:(x==("__debug__":Str))=false:=by decide)
 (he:starEach (e::es) X.env=(false,eval e X.env)::starEach es X.env:=by rfl) (hpl:(backTo pos (starEach es X.env)).any (·.1)=false:=by rfl):PD X (.Call (.Name x p) (e::es) [] pos) (z0i g gs):=by
 refine⟨fun pins s σ H F Γ I fo rl hgg=>?_⟩
 refine wpAny_Call_Name_kw (z4q I hg hm hv ?_ hn hdb)
 refine PyProof.Rows.callWith_builtin1 (wpAny_mono (ha.run pos pins s σ H F Γ I fo rl (R.left hgg)) (fun us s1 ⟨ds,vs,H1,e1,I1,r1,S1,i1⟩=>?_) fun _ _ x=>x.bind _) he hpl
 exact thn (hc.run I1 r1 i1 (R.next hgg e1)) fun _ _ q=>Post.bind e1 S1 q
theorem z1n{g:List D->R D}(hc:z9d X (.type T) g)(hm:X.mg x=none)(hv:bootBuiltins x=some (.type T))(ha:PAD X (e::es) gs)(hg:Gl X x:=by rfl)(hn:x≠"__name__":=by decide)(hdb:(x==("__debug__":Str))=false:=by decide)
 (he:starEach (e::es) X.env=(false,eval e X.env)::starEach es X.env:=by rfl) (hpl:(backTo pos (starEach es X.env)).any (·.1)=false:=by rfl):PD X (.Call (.Name x p) (e::es) [] pos) (z0i g gs):=by
 refine⟨fun pins s σ H F Γ I fo rl hgg=>?_⟩
 refine wpAny_Call_Name_kw (z4q I hg hm hv ?_ hn hdb)
 refine PyProof.Rows.callWith_type1 (wpAny_mono (ha.run pos pins s σ H F Γ I fo rl (R.left hgg)) (fun us s1 ⟨ds,vs,H1,e1,I1,r1,S1,i1⟩=>?_) fun _ _ x=>x.bind _) he hpl
 exact thn (hc.run I1 r1 i1 (R.next hgg e1)) fun _ _ q=>Post.bind e1 S1 q
theorem z6c{K:PySem.W.Frag}{H:Hp}{d:D}{xs:List V}(h:IsAll K H [d] xs):∃v,xs=[v]/\Is K H d v:=by
 obtain⟨x,r,rfl,h1,h2⟩:=IsAll.cons_iff.mp h
 rw[IsAll.nil_iff.mp h2]
 exact⟨x,rfl,h1⟩
theorem x2m{K:PySem.W.Frag}{H:Hp}{d d':D}{xs:List V}(h:IsAll K H [d,d'] xs):∃v v',xs=[v,v']/\Is K H d v/\Is K H d' v':=by
 obtain⟨x,r,rfl,h1,h2⟩:=IsAll.cons_iff.mp h
 obtain⟨v,rfl,h3⟩:=z6c h2
 exact⟨x,v,rfl,h1,h3⟩
theorem z3y:z9d X (.builtin "len") dLen:=by
 refine⟨_,y3r (X:=X.nox),fun H xs ds i hg=>?_⟩
 unfold dLen at hg
 split at hg
 ·rename_i ys
  obtain⟨v,rfl,h⟩:=z6c i
  obtain⟨a,zs,rfl,h1,h2⟩:=Is.tup_iff.mp h
  exact⟨a,zs,rfl,.inr h1,.int ys.length,rfl,.refl _,Is.int_iff.mpr (by rw[h2.length])⟩
 ·rename_i ys
  obtain⟨v,rfl,h⟩:=z6c i
  obtain⟨a,zs,rfl,h1,h2⟩:=Is.lst_iff.mp h
  exact⟨a,zs,rfl,.inl h1,.int ys.length,rfl,.refl _,Is.int_iff.mpr (by rw[h2.length])⟩
 ·exact absurd rfl hg
theorem z2n:z9d X (.type "tuple") z2o:=by
 refine⟨_,y2d (X:=X.nox),fun H xs ds i hg=>?_⟩
 unfold z2o at hg
 split at hg
 ·rename_i ys
  obtain⟨v,rfl,h⟩:=z6c i
  obtain⟨a,zs,rfl,h1,h2⟩:=Is.tup_iff.mp h
  exact⟨a,zs,rfl,.inr ⟨h1,.tup ys,rfl,.refl _,h⟩⟩
 ·rename_i ys
  obtain⟨v,rfl,h⟩:=z6c i
  obtain⟨a,zs,rfl,h1,h2⟩:=Is.lst_iff.mp h
  refine⟨a,zs,rfl,.inl ⟨h1,fun l hl=>?_⟩⟩
  have S:=z1v hl (.tup zs)
  exact⟨.tup ys,rfl,S,Is.tup_iff.mpr ⟨l,zs,rfl,SqT.of z0u,h2.same S⟩⟩
 ·exact absurd rfl hg
theorem x2u(hc:X.calm=true):z9d X (.builtin "min") dMin:=by
 refine⟨_,x0c (X:=X.nox) hc,fun H xs ds i hg=>?_⟩
 unfold dMin at hg
 split at hg
 ·rename_i i' j'
  obtain⟨v,v',rfl,h,h'⟩:=x2m i
  exact⟨i',j',by rw[Is.int_iff.mp h,Is.int_iff.mp h'],_,rfl,.refl _,Is.int_iff.mpr rfl⟩
 ·exact absurd rfl hg
theorem x0q(hc:X.calm=true):z7c X (.builtin "sum") (fun xs H Q=>∃(a:Addr) (ns:List Int),xs=[.ref a]/\SqL X.K H a (ns.map V.int)/\Q (.int ns.sum) H):=by
 intro pins s σ H xs us Q I r h
 obtain⟨a,ns,rfl,hq,q⟩:=h
 obtain⟨u,rfl,ru⟩:=y1i r
 cases ru
 obtain⟨its,rv,pl,_⟩:=I.list hq
 have hi:IntsAre its ns:=y0z rv
 obtain⟨ys,hy⟩:=hi.allInts.items
 have hl:=pl.isList
 rw[hy] at hl
 refine sum_intListG (I.ok.hd hc) hl fun h' tk t' hk=>⟨.int ns.sum,H,I.kept hk,⟨t',?_⟩,q⟩
 have hn:numsOf its.toArray.toList=ns:=by rw[show its.toArray.toList=its from rfl,hi.numsOf]
 rw[hy,nums_intItems] at hn
 rw[preSum_eq,List.take_of_length_le (by simp),hn]
theorem x2t(hc:X.calm=true):z9d X (.builtin "sum") dSum:=by
 refine⟨_,x0q (X:=X.nox) hc,fun H xs ds i hg=>?_⟩
 unfold dSum at hg
 split at hg
 ·rename_i ys
  obtain⟨v,rfl,h⟩:=z6c i
  obtain⟨a,zs,rfl,h1,h2⟩:=Is.lst_iff.mp h
  cases q:ints? ys with
  | none=>rw[q] at hg;exact absurd rfl hg
  | some ns =>
    have:=ints?_some q
    subst this
    rw[h2.ints_eq] at h1
    exact⟨a,ns,rfl,h1,.int ns.sum,by show dSum [.lst (ns.map D.int)]=_;simp only[dSum,q],.refl _,Is.int_iff.mpr rfl⟩
 ·exact absurd rfl hg
theorem IsAll.bools_eq{K:PySem.W.Frag}{H:Hp}:∀{ns:List Bool} {xs:List V},IsAll K H (ns.map D.bl) xs->xs=ns.map V.bl
 | [],xs,h=>IsAll.nil_iff.mp h
 | n::ns,xs,h=>by
   obtain⟨x,r,rfl,hx,tr⟩:=IsAll.cons_iff.mp h
   rw[Is.bl_iff.mp hx,IsAll.bools_eq tr];rfl
theorem y0l:∀{bs:List Bool} {us:List Value} {i:Nat} {v:Value},Vals (bs.map V.bl) us->us[i]? = some v->∃b,bs[i]? = some b/\v = .bool b
 | [],us,i,v,r,e=>by cases r;simp at e
 | b::bs,us,0,v,r,e=>by
   cases r with
   | cons r1 r2=>simp at e;subst e;exact⟨b,rfl,r1⟩
 | b::bs,us,i+1,v,r,e=>by
   cases r with
   | cons r1 r2 =>
     obtain⟨b',e1,e2⟩:=y0l (i:=i) r2 (by simpa using e)
     exact⟨b',by simpa using e1,e2⟩
theorem y3y:∀bs:List Bool,((List.range bs.length).any fun i=>(bs[i]?).getD false)=bs.any (fun b=>b)
 | []=>rfl
 | b::bs=>by
   rw[List.length_cons,List.range_succ_eq_map,List.any_cons,List.any_map,List.any_cons,<-y3y bs]
   rfl
theorem x0i(hc:X.calm=true):z7c X (.builtin "any") (fun xs H Q=>∃(a:Addr) (bs:List Bool),xs=[.ref a]/\SqL X.K H a (bs.map V.bl)/\Q (.bl (bs.any (fun b=>b))) H):=by
 intro pins s σ H xs us Q I r h
 obtain⟨a,bs,rfl,hq,q⟩:=h
 obtain⟨u,rfl,ru⟩:=y1i r
 cases ru
 obtain⟨its,rv,pl,_⟩:=I.list hq
 have hl:=pl.isList
 have hlt:a<s.heap.objs.size:=by obtain⟨_,e,_⟩:=hl;exact Heap.lt_size e
 have hlen:its.length=bs.length:=by rw[<-rv.length,List.length_map]
 refine call_any_walk (wpAny_pyIter_list hl ?_)
 refine⟨s.heap.objs.size,[s.heap.objs.size,a],[s.heap.objs.size],its.toArray.size,_,_,fun i=>(bs[i]?).getD false,rfl,Walks.list (A:=X.A.in1) (I.ok.hd hc) _ a (Nat.ne_of_lt hlt) its.toArray,
  ⟨⟨_,Heap.get?_push_size _ rfl,rfl,rfl⟩,hl.push _⟩,fun i v s' Q' E' hP hQ=>?_,fun h' tk hk=>?_⟩
 ·obtain⟨b,e,rfl⟩:=y0l rv (i:=i) (v:=v) (by simpa using hP)
  simp only[e,Option.getD_some] at hQ
  exact wpAny_truthy_bool hQ
 ·have e:((List.range its.toArray.size).any fun i=>(bs[i]?).getD false)=bs.any (fun b=>b):=by
   rw[List.size_toArray,hlen];exact y3y bs
  refine⟨.bl (bs.any (fun b=>b)),H,I.kept (fun b x ex=>hk b x (fun hm=>by rw[List.mem_singleton.mp hm] at ex;exact Nat.lt_irrefl _ (Heap.lt_size ex)) (Heap.get?_push_of_some _ ex)),by rw[e];rfl,q⟩
theorem x6u(hc:X.calm=true):z9d X (.builtin "any") dAny:=by
 refine⟨_,x0i (X:=X.nox) hc,fun H xs ds i hg=>?_⟩
 unfold dAny at hg
 split at hg
 ·rename_i ys
  obtain⟨v,rfl,h⟩:=z6c i
  obtain⟨a,zs,rfl,h1,h2⟩:=Is.lst_iff.mp h
  cases q:bools? ys with
  | none=>rw[q] at hg;exact absurd rfl hg
  | some ns =>
    have:=bools?_some q
    subst this
    rw[h2.bools_eq] at h1
    exact⟨a,ns,rfl,h1,.bl (ns.any (fun b=>b)),by show dAny [.lst (ns.map D.bl)]=_;simp only[dAny,q],.refl _,Is.bl_iff.mpr rfl⟩
 ·exact absurd rfl hg
end
noncomputable def CXE(P:Program)(w:World):CXT:=fun outer H s E x s'=>∃(e C T:Addr) (oe oT:Obj) (vs ts:Array Value) (H':Hp),x = .ref e/\s'.os=s.os/\AllBare s'.gens/\Un (frs outer) [] H H' s.heap s'.heap/\HOk P w H' s'.heap /\
 H' e=none/\s.heap.get? e=none/\s'.heap.get? e=some oe/\oe.cls = .ref C/\oe.data = .fields vs/\(∃a0,vs[0]? = some a0)/\vs[1]? = some (.ref T)/\H' T=none/\s.heap.get? T=none/\T≠e/\s'.heap.get? T=some oT/\oT.data = .fields ts/\ts[3]? = some .none/\E (.ref C) none H'
noncomputable def spD(K:PySem.W.Frag)(mg:Str->Option Value)(φ:List D->R D):Sp:=fun vs H Q E=>∃ds,IsAll K H ds vs/\φ ds ≠ .no/\(∀d v H',φ ds = .ok d->Same H H'->Is K H' d v->Q v H')/\(∀c C H',φ ds = .er c->mg c.nm=some (.ref C)->Same H H'->E (.ref C) none H')
noncomputable def spF(K:PySem.W.Frag)(mg:Str->Option Value)(φ:List D->R (List D)):Sp:=fun vs H Q E=>∃ds,IsAll K H ds vs/\φ ds ≠ .no/\(∀es a xs H',φ ds = .ok es->Same H H'->H a=none->H' a=some (.lst xs)->IsAll K H' es xs->Q (.ref a) H')/\(∀c C H',φ ds = .er c->mg c.nm=some (.ref C)->Same H H'->E (.ref C) none H')
structure FnD (P:Program) (w:World) (K:PySem.W.Frag) (mg:Str->Option Value) (base:Heap) (k:Nat) (f:Addr) (fd:FuncData) (ps:List Str) (φ:List D->R D):Prop where
 ok:FnOk P w K mg base (CXE P w) k f fd ps (spD K mg φ)
 binds:z1u K fd ps []
 kp:PySem.W.keepIn K (.ref f)=true
structure FnF (P:Program) (w:World) (K:PySem.W.Frag) (mg:Str->Option Value) (base:Heap) (k:Nat) (f:Addr) (fd:FuncData) (ps:List Str) (φ:List D->R (List D)):Prop where
 ok:FnOk P w K mg base (CXE P w) k f fd ps (spF K mg φ)
 binds:z1u K fd ps []
 kp:PySem.W.keepIn K (.ref f)=true
theorem FnD.mono{P:Program}{w:World}{K:PySem.W.Frag}{mg:Str->Option Value}{base:Heap}{j k:Nat}{f:Addr}{fd:FuncData}{ps:List Str}{φ:List D->R D}(F:FnD P w K mg base j f fd ps φ)(h:j<=k):FnD P w K mg base k f fd ps φ:=⟨F.ok.mono h,F.binds,F.kp⟩
section
variable {X:Cx}{e a b c:Expr}{g ga gb gc:G->R D}{pos p:Pos}{x:Str}{es:List Expr}{gs:G->R (List D)}
theorem _root_.L2.Inv.gone{pins:List (Addr×Obj)}{σ:St}{H:Hp}{s:Shared}{q:Addr}(I:Inv X pins σ H s)(hex:X.ex=[])(hq:s.heap.get? q=none):X.s₀.heap.get? q=none/\q≠X.env.locals/\(∀y k,X.env.cells.lookup y=some k->k≠q)/\(∀p∈X.pn++pins,p.1≠q):=by
 refine⟨?_,fun z=>?_,fun y k ek z=>?_,fun p hp z=>?_⟩
 ·cases e0:X.s₀.heap.get? q with
  | none=>rfl
  | some o =>
    obtain⟨o',e1⟩:=I.base.there q o e0 (by rw[hex];simp)
    rw[hq] at e1;cases e1
 ·obtain⟨m,⟨o,_,_,ho,_⟩,_⟩:=I.loc
  rw[<-z,hq] at ho;cases ho
 ·obtain⟨v,o,ho,_⟩:=I.cell y k ek
  rw[z,hq] at ho;cases ho
 ·have ho:=(I.pin p hp).1
  rw[z,hq] at ho;cases ho
theorem z8r{pins:List (Addr×Obj)}{σ:St}{H:Hp}{s s':Shared}{u:Value}{r:R D}{E:XK}(hex:X.ex=[]∨∀C H',¬E (.ref C) none H')(I:Inv X pins σ H s)(h:CXE X.prog X.w X.stack H s E u s')
 (hE:∀C H',E (.ref C) none H'->∃c,r = .er c/\X.mg c.nm=some (.ref C)/\Same H H'):z1h X pins σ H r u s':=by
 obtain⟨e,C,T,oe,oT,vs,ts,H',rfl,os,bare,un,hok,he0,he1,he2,he3,he4,he5,hv,hT0,hT1,hT2,hT3,hT4,hT5,hE'⟩:=h
 have hex:X.ex=[]:=hex.resolve_right fun z=>z C H' hE'
 obtain⟨c,er,hm,S⟩:=hE C H' hE'
 obtain⟨hh,gg,dd,tt,os'⟩:=s'
 obtain rfl:os'=s.os:=os
 have I':Inv X pins σ H' { s with heap:=hh,gens:=gg,drawn:=dd,toks:=tt }:=I.call (h':=hh) (g':=gg) (d':=dd) (t':=tt) (ch:=[]) un hok bare (fun b z=>absurd z (by simp))
 have fr:∀q:Addr,s.heap.get? q=none->X.s₀.heap.get? q=none/\q≠X.env.locals/\(∀y k,X.env.cells.lookup y=some k->k≠q)/\(∀p∈X.pn++pins,p.1≠q):=fun q hq=>I.gone hex hq
 obtain⟨f1,f2,f3,f4⟩:=fr e he1
 obtain⟨g1,g2,g3,g4⟩:=fr T hT1
 exact⟨c,H',er,S,I',e,C,oe,vs,rfl,hm,he0,f1,f2,f3,f4,he2,he3,he4,he5,.inr ⟨T,oT,ts,hv,hT0,g1,g2,g3,g4,hT2,hT3,hT4,.inl hT5⟩⟩
theorem runD{k:Nat}{f:Addr}{fd:FuncData}{ps:List Str}{φ:List D->R D}(Fn:FnD X.prog X.w X.K X.mg X.base k f fd ps φ)(hr:Room k X.A){pins:List (Addr×Obj)}{σ:St}{H:Hp}{s:Shared}{us:List Value}{vs:List V}{ds:List D}
 (I:Inv X pins σ H s) (r:Vals vs us) (i:IsAll X.K H ds vs) (hg:φ ds ≠ .no) (hx:X.ex=[]∨∀c,φ ds ≠ .er c):wpAny (model X.prog X.w) X.A (call (.ref f) us) (Post X pins σ H (φ ds)) (z1h X pins σ H (φ ds)) s:=by
 have hsp:spD X.K X.mg φ vs H (fun v H'=>∃d,φ ds = .ok d/\Same H H'/\Is X.K H' d v) (fun C' _ H'=>∃c C,C' = .ref C/\φ ds = .er c/\X.mg c.nm=some (.ref C)/\Same H H') :=
  ⟨ds,i,hg,fun d v H' e S iv=>⟨d,e,S,iv⟩,fun c C H' e hm S=>⟨c,C,rfl,e,hm,S⟩⟩
 have hl:us.length=ps.length:=by rw[<-r.length];exact Fn.ok.len _ _ _ _ hsp
 have hb:=Fn.binds s us I.kIn (by rw[List.append_nil];exact hl)
 rw[List.append_nil] at hb
 refine wpAny_call (codeAny_mono (Fn.ok.run X.A X.stack s H ⟨us,[]⟩ us vs _ _ hr I.env0 hb r hsp) fun r' s' hq=>?_)
 cases r' with
 | error u =>
   refine z8r (E:=fun C' _ H'=>∃c C,C' = .ref C/\φ ds = .er c/\X.mg c.nm=some (.ref C)/\Same H H') (hx.imp_right fun z C H' ⟨c,_,_,q,_⟩=>z c q) I hq fun C H' hE=>?_
   obtain⟨c,C',e,h1,h2,h3⟩:=hE
   cases e
   exact⟨c,h1,h2,h3⟩
 | ok fl =>
   cases fl with
   | ret u =>
     obtain⟨v,H',I',rv,d,e,S,iv⟩:=I.after hq
     exact⟨d,v,H',e,I',rv,S,iv⟩
   | next=>exact False.elim hq
   | brk=>exact False.elim hq
   | cont=>exact False.elim hq
theorem z0k{k:Nat}{f:Addr}{fd:FuncData}{ps:List Str}{φ:List D->R D}(Fn:FnD X.prog X.w X.K X.mg X.base k f fd ps φ)(hr:Room k X.A)(hm:X.mg x=some (.ref f))(ha:PAD X (e::es) gs)(hex:X.ex=[]:=by rfl)(hg:Gl X x:=by rfl)(hdb:(x==("__debug__":Str))=false:=by decide)
 (he:starEach (e::es) X.env=(false,eval e X.env)::starEach es X.env:=by rfl) (hpl:(backTo pos (starEach es X.env)).any (·.1)=false:=by rfl):PD X (.Call (.Name x p) (e::es) [] pos) (z0i φ gs):=by
 refine⟨fun pins s σ H F Γ I fo rl hgg=>?_⟩
 refine wpAny_Call_Name_kw (z9y I hg hm ?_ hdb)
 refine PySem.W.callWith_K (h₀:=X.base) I.ok.mod.kin Fn.kp (wpAny_mono (ha.run pos pins s σ H F Γ I fo rl (R.left hgg)) (fun us s1 ⟨ds,vs,H1,e1,I1,r1,S1,i1⟩=>⟨I1.kIn,?_⟩) fun _ _ x=>x.bind _) he hpl
 exact wpAny_mono (runD Fn hr I1 r1 i1 (R.next hgg e1) (.inl hex)) (fun _ _ q=>Post.bind e1 S1 q) fun _ _ q=>z1h.later e1 S1 q
theorem FnD.noEr{P:Program}{w:World}{K:PySem.W.Frag}{mg:Str->Option Value}{base:Heap}{k:Nat}{f:Addr}{fd:FuncData}{ps:List Str}{φ:List D->R D}(F:FnD P w K mg base k f fd ps φ):FnD P w K mg base k f fd ps (L3.noEr φ):=by
 refine⟨F.ok.imp fun vs H Q E h=>?_,F.binds,F.kp⟩
 obtain⟨ds,i,hne,hok,her⟩:=h
 obtain⟨d,e1,e2⟩:=y8t hne
 exact⟨ds,i,(by rw[e1];exact fun z=>nomatch z),fun d' v H' e S iv=>hok d' v H' (e2.trans (e1.symm.trans e)) S iv,fun c C H' e=>by rw[e1] at e;cases e⟩
theorem z3z{k:Nat}{f:Addr}{fd:FuncData}{ps:List Str}{φ:List D->R D}(Fn:FnD X.prog X.w X.K X.mg X.base k f fd ps φ)(hr:Room k X.A)(hm:X.mg x=some (.ref f))(ha:PAD X (e::es) gs)(hg:Gl X x:=by rfl)(hdb:(x==("__debug__":Str))=false:=by decide)
 (he:starEach (e::es) X.env=(false,eval e X.env)::starEach es X.env:=by rfl) (hpl:(backTo pos (starEach es X.env)).any (·.1)=false:=by rfl):PD X (.Call (.Name x p) (e::es) [] pos) (z0i (L3.noEr φ) gs):=by
 refine⟨fun pins s σ H F Γ I fo rl hgg=>?_⟩
 refine wpAny_Call_Name_kw (z9y I hg hm ?_ hdb)
 refine PySem.W.callWith_K (h₀:=X.base) I.ok.mod.kin Fn.kp (wpAny_mono (ha.run pos pins s σ H F Γ I fo rl (R.left hgg)) (fun us s1 ⟨ds,vs,H1,e1,I1,r1,S1,i1⟩=>⟨I1.kIn,?_⟩) fun _ _ x=>x.bind _) he hpl
 have hg1:=R.next hgg e1
 obtain⟨d,_,e3⟩:=y8t hg1
 exact wpAny_mono (runD Fn.noEr hr I1 r1 i1 hg1 (.inr fun c z=>by rw[e3] at z;cases z)) (fun _ _ q=>Post.bind e1 S1 q) fun _ _ q=>z1h.later e1 S1 q
theorem runF{k:Nat}{f:Addr}{fd:FuncData}{ps:List Str}{φ:List D->R (List D)}(Fn:FnF X.prog X.w X.K X.mg X.base k f fd ps φ)(hr:Room k X.A){pins:List (Addr×Obj)}{σ:St}{H:Hp}{s:Shared}{us:List Value}{vs:List V}{ds:List D}
 (I:Inv X pins σ H s) (r:Vals vs us) (i:IsAll X.K H ds vs) (hg:φ ds ≠ .no) (hx:X.ex=[]∨∀c,φ ds ≠ .er c):wpAny (model X.prog X.w) X.A (call (.ref f) us) (fun u s'=>∃es a xs H',φ ds = .ok es/\Inv X pins σ H' s'/\u = .ref a/\Same H H'/\H a=none/\H' a=some (.lst xs)/\IsAll X.K H' es xs) (z1h X pins σ H (φ ds)) s:=by
 have hsp:spF X.K X.mg φ vs H (fun v H'=>∃es a xs,v = .ref a/\φ ds = .ok es/\Same H H'/\H a=none/\H' a=some (.lst xs)/\IsAll X.K H' es xs) (fun C' _ H'=>∃c C,C' = .ref C/\φ ds = .er c/\X.mg c.nm=some (.ref C)/\Same H H') :=
  ⟨ds,i,hg,fun es a xs H' e S h1 h2 h3=>⟨es,a,xs,rfl,e,S,h1,h2,h3⟩,fun c C H' e hm S=>⟨c,C,rfl,e,hm,S⟩⟩
 have hl:us.length=ps.length:=by rw[<-r.length];exact Fn.ok.len _ _ _ _ hsp
 have hb:=Fn.binds s us I.kIn (by rw[List.append_nil];exact hl)
 rw[List.append_nil] at hb
 refine wpAny_call (codeAny_mono (Fn.ok.run X.A X.stack s H ⟨us,[]⟩ us vs _ _ hr I.env0 hb r hsp) fun r' s' hq=>?_)
 cases r' with
 | error u =>
   obtain⟨c,H',e1,S,fl⟩:=z8r (r:=φ ds>>=fun _=>.ok D.non) (E:=fun C' _ H'=>∃c C,C' = .ref C/\φ ds = .er c/\X.mg c.nm=some (.ref C)/\Same H H') (hx.imp_right fun z C H' ⟨c,_,_,q,_⟩=>z c q) I hq fun C H' hE=>by
    obtain⟨c,C',e,h1,h2,h3⟩:=hE
    cases e
    exact⟨c,R.stop h1 _,h2,h3⟩
   refine⟨c,H',?_,S,fl⟩
   cases q:φ ds with
   | no=>exact absurd q hg
   | ok _=>rw[q] at e1;cases e1
   | er c'=>rw[q] at e1;cases e1;rfl
 | ok fl =>
   cases fl with
   | ret u =>
     obtain⟨v,H',I',rv,es,a,xs,rfl,e,S,h1,h2,h3⟩:=I.after hq
     exact⟨es,a,xs,H',e,I',rv,S,h1,h2,h3⟩
   | next=>exact False.elim hq
   | brk=>exact False.elim hq
   | cont=>exact False.elim hq
theorem y1p{k:Nat}{f:Addr}{fd:FuncData}{ps:List Str}{φ:List D->R (List D)}(Fn:FnF X.prog X.w X.K X.mg X.base k f fd ps φ)(hr:Room k X.A)(hm:X.mg x=some (.ref f))(ha:PAD X (e::es) gs)(hex:X.ex=[]:=by rfl)(hg:Gl X x:=by rfl)(hdb:(x==("__debug__":Str))=false:=by decide)
 (he:starEach (e::es) X.env=(false,eval e X.env)::starEach es X.env:=by rfl) (hpl:(backTo pos (starEach es X.env)).any (·.1)=false:=by rfl):PF X (.Call (.Name x p) (e::es) [] pos) (z5o φ gs):=by
 refine⟨fun pins s σ H F Γ I fo rl hgg=>?_⟩
 refine wpAny_Call_Name_kw (z9y I hg hm ?_ hdb)
 refine PySem.W.callWith_K (h₀:=X.base) I.ok.mod.kin Fn.kp (wpAny_mono (ha.run pos pins s σ H F Γ I fo rl (R.left hgg)) (fun us s1 ⟨ds,vs,H1,e1,I1,r1,S1,i1⟩=>⟨I1.kIn,?_⟩) fun _ _ x=>x.bind _) he hpl
 have hg1:=R.next hgg e1
 refine wpAny_mono (runF Fn hr I1 r1 i1 (R.left hg1) (.inl hex)) (fun u s' ⟨es',a,xs,H',e2,I2,eu,S2,h1,h2,h3⟩=>?_) fun _ _ q=>z1h.later e1 S1 (q.bind _)
 have hgx:=R.next hg1 e2
 obtain⟨n,e3⟩:=R.guard_ne hgx
 exact⟨es',a,xs,H',(R.step e1 _).trans ((R.step e2 _).trans e3),I2,eu,S1.trans S2,S1.free h1,h2,IsAll.hid (((fo.same S1).same S2).cons h2) es' xs n h3⟩
theorem y8n{x:Str}(ha:PD X a ga)(hm:X.mg x=none)(hv:bootBuiltins x=some (.type "list"))(hg:Gl X x:=by rfl)(hn:x≠"__name__":=by decide)(hdb:(x==("__debug__":Str))=false:=by decide)
 (he:starEach [a] X.env=(false,eval a X.env)::starEach [] X.env:=by rfl) (hpl:(backTo pos (starEach [] X.env)).any (·.1)=false:=by rfl):PF X (.Call (.Name x p) [a] [] pos) (z6o ga):=by
 refine⟨fun pins s σ H F Γ I fo rl hgg=>?_⟩
 refine wpAny_Call_Name_kw (z4q I hg hm hv ?_ hn hdb)
 refine PyProof.Rows.callWith_type1 (wpAny_mono ((z0a ha z0c he).run pos pins s σ H F Γ I fo rl (fun z=>?_)) (fun us s1 ⟨ds,vs,H1,e1,I1,r1,S1,i1⟩=>?_) fun _ _ q=>?_) he hpl
 ·unfold gCons at z
  cases q:ga Γ with
  | no=>exact absurd (show z6o ga Γ = .no by unfold z6o;rw[q];rfl) hgg
  | ok d=>rw[q] at z;cases z
  | er c=>rw[q] at z;cases z
 ·have e0:∃d,ga Γ = .ok d/\ds=[d]:=by
   unfold gCons at e1
   cases q:ga Γ with
   | no=>rw[q] at e1;cases e1
   | ok d=>rw[q] at e1;cases e1;exact⟨d,rfl,rfl⟩
   | er c=>rw[q] at e1;cases e1
  obtain⟨d,ed,rfl⟩:=e0
  obtain⟨v,rfl,iv⟩:=z6c i1
  have hg1:=R.next hgg ed
  have fin:∀(p':Addr) (ys:List V) (es':List D),v = .ref p'->(SqL X.K H1 p' ys∨SqT X.K H1 p' ys)->IsAll X.K H1 es' ys->D.noLs es'=true->z6o ga Γ = .ok es' ->
   wpAny (model X.prog X.w) X.A (call (.type "list") us) (fun u s'=>∃ds a xs H',z6o ga Γ = .ok ds/\Inv X pins σ H' s'/\u = .ref a/\Same H H'/\H a=none/\H' a=some (.lst xs)/\IsAll X.K (hid (a::F) H') ds xs) (z1h X pins σ H (z6o ga Γ)) s1:=fun p' ys es' ev hq ie hn' eg=>by
   subst ev
   refine wpAny_mono (y3q (X:=X.nox) pins s1 σ H1 _ us (fun z H'=>∃l,z = .ref l/\H1 l=none/\H'=upd H1 l (.lst ys)) (I1.wish _) r1 ⟨p',ys,rfl,hq,fun l hl=>⟨l,rfl,hl,rfl⟩⟩) (fun u s' ⟨z,H',I',rz,l,ez,hl,eH⟩=>?_) fun _ _ z=>False.elim z
   subst ez eH
   have S2:=z1v hl (.lst ys)
   exact⟨es',l,ys,_,eg,I'.unwish,rz,S1.trans S2,S1.free hl,z0u,IsAll.hid (((fo.same S1).same S2).cons z0u) es' ys hn' (ie.same S2)⟩
  cases d with
  | tup es' =>
    obtain⟨n,e2⟩:=R.guard_ne (show R.guard (D.noLs es'=true) (.ok es') ≠ .no from hg1)
    obtain⟨p',ys,ev,h1,h2⟩:=Is.tup_iff.mp iv
    exact fin p' ys es' ev (.inr h1) h2 n ((R.step ed _).trans e2)
  | lst es' =>
    obtain⟨n,e2⟩:=R.guard_ne (show R.guard (D.noLs es'=true) (.ok es') ≠ .no from hg1)
    obtain⟨p',ys,ev,h1,h2⟩:=Is.lst_iff.mp iv
    exact fin p' ys es' ev (.inl h1) h2 n ((R.step ed _).trans e2)
  | _=>exact absurd rfl hg1
 ·obtain⟨c',H',e1,S,fl⟩:=q
  refine⟨c',H',?_,S,fl⟩
  unfold gCons at e1
  cases q:ga Γ with
  | no=>rw[q] at e1;cases e1
  | ok d=>rw[q] at e1;cases e1
  | er c=>rw[q] at e1;cases e1;unfold z6o;rw[q];rfl
theorem x5o{ga gb:G->R (List D)}(ha:PF X a ga)(hb:PF X b gb):PF X (.BinOp a .Add b pos) (gCat ga gb):=by
 refine⟨fun pins s σ H F Γ I fo rl hg=>?_⟩
 refine wpAny_BinOp (wpAny_mono (ha.run pins s σ H F Γ I fo rl (R.left hg)) (fun v s1 ⟨dx,a1,xs,H1,e1,I1,r1,S1,n1,h1,i1⟩=>?_) fun _ _ x=>x.bind _)
 have hg1:=R.next hg e1
 refine wpAny_mono (hb.run pins s1 σ H1 F Γ I1 (fo.same S1) (rl.same S1) (R.left hg1)) (fun u s2 ⟨dy,a2,ys,H2,e2,I2,r2,S2,n2,h2,i2⟩=>?_) fun _ _ x=>z1h.later e1 S1 (x.bind _)
 have hgx:=R.next hg1 e2
 obtain⟨hc,e3⟩:=R.guard_ne hgx
 subst r1 r2
 have hz:xs.length+ys.length<=sizeLine:=by rw[<-i1.length,<-i2.length];exact z5b hc
 refine wpAny_mono (x5z (X:=X.nox) pins s2 σ H2 (.ref a1) (.ref a2) _ _ (fun z H'=>∃l,z = .ref l/\H2 l=none/\H'=upd H2 l (.lst (xs++ys))) (I2.wish _) rfl rfl ⟨a1,a2,xs,ys,rfl,rfl,S2 _ _ h1,h2,hz,fun l hl=>⟨l,rfl,hl,rfl⟩⟩) (fun u s' ⟨z,H',I',rz,l,ez,hl,eH⟩=>?_) fun _ _ z=>False.elim z
 subst ez eH
 have S3:=z1v hl (.lst (xs++ys))
 have up:∀{q:Addr} {Hq:Hp} {zs:List V} {ds:List D},Same Hq H2->Hq q≠none->IsAll X.K (hid (q::F) Hq) ds zs->IsAll X.K (hid (l::F) (upd H2 l (.lst (xs++ys)))) ds zs:=fun {q Hq zs ds} Sq hq i=>by
  refine i.same fun b o hb=>?_
  obtain⟨z1,z2⟩:=z3g hb
  have z3:=Sq _ _ z2
  have hbl:b≠l:=z0s z3 hl
  rw[z2r fun z=>(List.mem_cons.mp z).elim hbl fun z'=>z1 (List.mem_cons_of_mem _ z'),z0q hbl]
  exact z3
 exact⟨dx++dy,l,xs++ys,_,(R.step e1 _).trans ((R.step e2 _).trans e3),I'.unwish,rz,(S1.trans S2).trans S3,S1.free (S2.free hl),z0u,(up S2 (by rw[h1];simp) i1).append (up (.refl _) (by rw[h2];simp) i2)⟩
end
noncomputable def JD(K:PySem.W.Frag)(H:Hp)(F:List Addr)(J:It)(ds:List D):Prop:=∀H1,(∀b o,b ∉ F->H b=some o->H1 b=some o) ->
 (∀i:Nat,i<ds.length->J.go i H1/\∀x H2,J.yld i H1 x H2->H2=H1/\∃d,ds[i]? = some d/\∀F',(∀b,b∈F'->b∈F∨H b=none)->Is K (hid F' H1) d x)/\J.stop ds.length H1
noncomputable def JC(K:PySem.W.Frag)(H:Hp)(F:List Addr)(J:It)(ds:List D):Prop:=∀H1,Same H H1 ->
 (∀i:Nat,i<ds.length->J.go i H1/\∀x H2,J.yld i H1 x H2->H2=H1/\∃d,ds[i]? = some d/\Is K (hid F H1) d x)/\J.stop ds.length H1
theorem JD.jc{K:PySem.W.Frag}{H:Hp}{F:List Addr}{J:It}{ds:List D}(h:JD K H F J ds):JC K H F J ds:=fun H1 S=>by
 obtain⟨h1,h2⟩:=h H1 fun b o _ q=>S b o q
 refine⟨fun i hi=>⟨(h1 i hi).1,fun x H2 y=>?_⟩,h2⟩
 obtain⟨e,d,ed,iv⟩:=(h1 i hi).2 x H2 y
 exact⟨e,d,ed,iv F fun b hb=>.inl hb⟩
structure PIx (Jx:PySem.W.Frag->Hp->List Addr->It->List D->Prop) (X:Cx) (tg iter:Expr) (g:G->R (List D)):Prop where
 run:∀(pins:List (Addr×Obj)) (s:Shared) (σ:St) (H:Hp) (F:List Addr) (Γ:G),Inv X pins σ H s->FOk H F->Rel X.K H F Γ σ->g Γ ≠ .no ->
  wpAny (model X.prog X.w) X.A (eval iter X.env) (fun v s1=>wpAny (model X.prog X.w) X.A (pyIter v) (fun itv s2=>∃(ds:List D) (it:Addr) (fp:List Addr) (tn:Nat->Heap->Prop) (J:It) (H':Hp),g Γ = .ok ds/\itv = .ref it/\Inv X pins σ H' s2/\Same H H' /\
   Turn X.prog X.w X.K tg J fp it tn/\tn 0 s2.heap/\(∀b∈fp,FpOk X pins H' b)/\Jx X.K H' F J ds) (z1h X pins σ H (g Γ)) s1) (z1h X pins σ H (g Γ)) s
noncomputable abbrev PIF:=PIx JD
noncomputable abbrev PIC:=PIx JC
theorem PIx.pic{X:Cx}{tg iter:Expr}{g:G->R (List D)}(h:PIF X tg iter g):PIC X tg iter g:=⟨fun pins s σ H F Γ I fo rl hg =>
 thn (h.run pins s σ H F Γ I fo rl hg) fun v s1 h1=>thn h1 fun itv s2 ⟨ds,it,fp,tn,J,H',e,ei,I',S,T,t0,fk,j⟩=>⟨ds,it,fp,tn,J,H',e,ei,I',S,T,t0,fk,j.jc⟩⟩
section
variable {X:Cx}{tg a b:Expr}{ga gb:G->R D}
theorem x4i{K:PySem.W.Frag}{H:Hp}{F:List Addr}{p:Addr}{xs:List V}{ds:List D}(h:SqL K H p xs)(i:IsAll K (hid F H) ds xs):JC K H F (Itl K p) ds:=fun H1 S=>by
 have h1:=S.seq h
 have il:=i.length
 refine⟨fun j hj=>⟨⟨xs,xs[j]'(by lia),h1,List.getElem?_eq_getElem (by lia)⟩,fun x H2 y=>⟨y.1,?_⟩⟩,⟨xs,h1,by lia⟩⟩
 exact(i.same (z2i S)).getX (y.2 xs h1)
theorem y6x{H H1:Hp}{F F':List Addr}(S:∀b o,b ∉ F->H b=some o->H1 b=some o)(o:∀b,b∈F'->b∈F∨H b=none):Same (hid F H) (hid F' H1):=Ext.hid ⟨S,o⟩
theorem x2k{K:PySem.W.Frag}{H:Hp}{F:List Addr}{p:Addr}{xs:List V}{ds:List D}(h:SqT K (hid F H) p xs)(i:IsAll K (hid F H) ds xs):JD K H F (Itt K p) ds:=fun H1 S=>by
 have h1:SqT K H1 p xs:=z3o (z3s (F:=F)) (z3o (y6x S fun b hb=>.inl hb) h)
 have il:=i.length
 refine⟨fun j hj=>⟨⟨xs,xs[j]'(by lia),h1,List.getElem?_eq_getElem (by lia)⟩,fun x H2 y=>⟨y.1,?_⟩⟩,⟨xs,h1,by lia⟩⟩
 obtain⟨d,ed,iv⟩:=i.getX (y.2 xs h1)
 exact⟨d,ed,fun F' hF=>iv.same (y6x S hF)⟩
theorem x4g{K:PySem.W.Frag}{H:Hp}{F:List Addr}{p:Addr}{xs:List V}{ds:List D}(h:SqL K (hid F H) p xs)(i:IsAll K (hid F H) ds xs):JD K H F (Itl K p) ds:=fun H1 S=>by
 have h1:SqL K H1 p xs:=(z3s (F:=F)).seq ((y6x S fun b hb=>.inl hb).seq h)
 have il:=i.length
 refine⟨fun j hj=>⟨⟨xs,xs[j]'(by lia),h1,List.getElem?_eq_getElem (by lia)⟩,fun x H2 y=>⟨y.1,?_⟩⟩,⟨xs,h1,by lia⟩⟩
 obtain⟨d,ed,iv⟩:=i.getX (y.2 xs h1)
 exact⟨d,ed,fun F' hF=>iv.same (y6x S hF)⟩
theorem y9f{pins:List (Addr×Obj)}{σ:St}{H:Hp}{s:Shared}{p:Addr}{xs:List V}{E:Value->Shared->Prop}{Q:Value->Shared->Prop}(I:Inv X pins σ H s)(h:SqL X.K H p xs)
 (q:∀it s2,Inv X pins σ H s2->Turn X.prog X.w X.K tg (Itl X.K p) [it] it (fun i h=>h.IsListIter it p i)->s2.heap.IsListIter it p 0->(∀b∈[it],FpOk X pins H b)->Q (.ref it) s2):wpAny (model X.prog X.w) X.A (pyIter (.ref p)) Q E s:=by
 obtain⟨its,rv,pl,hz⟩:=I.list h
 refine wpAny_pyIter_list pl.isList (q s.heap.objs.size _ (I.kept (t':=s.toks) fun b o e=>Heap.get?_push_of_some _ e) (y7r p _) ⟨_,Heap.get?_push_size _ rfl,rfl,rfl⟩ fun b hb=>?_)
 have e:b=s.heap.objs.size:=by simpa using hb
 subst e
 exact I.fpOk (Nat.le_refl _) (I.hok.fresh (Nat.le_refl _))
theorem x2l{pins:List (Addr×Obj)}{σ:St}{H:Hp}{s:Shared}{p:Addr}{xs:List V}{E:Value->Shared->Prop}{Q:Value->Shared->Prop}(I:Inv X pins σ H s)(h:SqT X.K H p xs)
 (q:∀it s2,Inv X pins σ H s2->Turn X.prog X.w X.K tg (Itt X.K p) [it] it (fun i h=>h.IsTupleIter it p i)->s2.heap.IsTupleIter it p 0->(∀b∈[it],FpOk X pins H b)->Q (.ref it) s2):wpAny (model X.prog X.w) X.A (pyIter (.ref p)) Q E s:=by
 obtain⟨its,rv,pl,hz⟩:=I.tuple h
 refine wpAny_pyIter_tuple (show s.heap.IsTuple p its.toArray from pl) (q s.heap.objs.size _ (I.kept (t':=s.toks) fun b o e=>Heap.get?_push_of_some _ e) (y6e p _) ⟨_,Heap.get?_push_size _ rfl,rfl,rfl⟩ fun b hb=>?_)
 have e:b=s.heap.objs.size:=by simpa using hb
 subst e
 exact I.fpOk (Nat.le_refl _) (I.hok.fresh (Nat.le_refl _))
theorem y4h(ha:PDr X a ga):PIF X tg a (gSeq ga):=by
 refine⟨fun pins s σ H F Γ I fo rl hg=>?_⟩
 refine wpAny_mono (ha.run pins s σ H F Γ I fo rl (R.left hg)) (fun v s1 ⟨d,x,H1,e1,I1,r1,S1,i1⟩=>?_) fun _ _ x=>x.bind _
 have hg1:=R.next hg e1
 cases d with
 | tup ds =>
   obtain⟨p,xs,rfl,h1,h2⟩:=Is.tup_iff.mp i1
   cases (show v=Value.ref p from r1)
   exact x2l (tg:=tg) I1 (z3o (z3s (F:=F)) h1) fun it s2 I2 T t0 fk=>⟨ds,it,_,_,_,H1,R.step e1 _,rfl,I2,S1,T,t0,fk,x2k h1 h2⟩
 | lst ds =>
   obtain⟨p,xs,rfl,h1,h2⟩:=Is.lst_iff.mp i1
   cases (show v=Value.ref p from r1)
   exact y9f (tg:=tg) I1 ((z3s (F:=F)).seq h1) fun it s2 I2 T t0 fk=>⟨ds,it,_,_,_,H1,R.step e1 _,rfl,I2,S1,T,t0,fk,x4g h1 h2⟩
 | _=>exact absurd rfl hg1
theorem z7j(ha:PD X a ga):PIC X tg a (z7a ga):=by
 refine⟨fun pins s σ H F Γ I fo rl hg=>?_⟩
 refine wpAny_mono (ha.run pins s σ H F Γ I fo rl (R.left hg)) (fun v s1 ⟨d,x,H1,e1,I1,r1,S1,i1⟩=>?_) fun _ _ x=>x.bind _
 have hg1:=R.next hg e1
 cases d with
 | tup ds =>
   obtain⟨n,e2⟩:=R.guard_ne (show R.guard (D.noLs ds=true) (.ok ds) ≠ .no from hg1)
   obtain⟨p,xs,rfl,h1,h2⟩:=Is.tup_iff.mp i1
   cases (show v=Value.ref p from r1)
   exact x2l (tg:=tg) I1 h1 fun it s2 I2 T t0 fk=>⟨ds,it,_,_,_,H1,(R.step e1 _).trans e2,rfl,I2,S1,T,t0,fk,(x2k (y8b (fo.same S1) h1) (IsAll.hid (fo.same S1) ds xs n h2)).jc⟩
 | lst ds =>
   obtain⟨n,e2⟩:=R.guard_ne (show R.guard (D.noLs ds=true) (.ok ds) ≠ .no from hg1)
   obtain⟨p,xs,rfl,h1,h2⟩:=Is.lst_iff.mp i1
   cases (show v=Value.ref p from r1)
   exact y9f (tg:=tg) I1 h1 fun it s2 I2 T t0 fk=>⟨ds,it,_,_,_,H1,(R.step e1 _).trans e2,rfl,I2,S1,T,t0,fk,x4i h1 (IsAll.hid (fo.same S1) ds xs n h2)⟩
 | _=>exact absurd rfl hg1
theorem y5r{K:PySem.W.Frag}{H:Hp}{F:List Addr}(lo:Int)(n:Nat):JD K H F (Itr lo n) (z4b lo n):=fun H1 S=>by
 rw[z0w]
 refine⟨fun j hj=>⟨hj,fun x H2 y=>⟨y.1,.int (lo+(j:Int)),z8g lo n j hj,fun F' _=>?_⟩⟩,Nat.le_refl _⟩
 exact Is.int_iff.mpr y.2
theorem z2p{p pos:Pos}(ha:PD X a ga)(hm:X.mg "range"=none)(hg:Gl X "range":=by rfl)(hs:starEach [a] X.env=[(false,eval a X.env)]:=by rfl):PIF X tg (.Call (.Name "range" p) [a] [] pos) (z5n ga):=by
 refine⟨fun pins s σ H F Γ I fo rl hgg=>?_⟩
 refine Call_ (z4q I hg hm boot_range (PyProof.Rows.callWith_type1 ?_ hs rfl))
 rw[hs]
 show wpAny _ _ (spliced ((false,eval a X.env)::backTo pos [])) _ _ s
 refine Calls.spliced_cons (wpAny_mono (ha.run pins s σ H F Γ I fo rl (R.left hgg)) (fun u s1 ⟨d,v,H1,e1,I1,r1,S1,i1⟩=>Calls.spliced_nil ?_) fun _ _ x=>x.bind _)
 have hg1:=R.next hgg e1
 cases d with
 | int j =>
   obtain⟨⟨h1,h2⟩,e2⟩:=R.guard_ne (show R.guard (-(2^62)<=j/\j<2^62) (.ok (z4b 0 j.toNat)) ≠ .no from hg1)
   rw[Is.int_iff.mp i1] at r1
   obtain⟨t,rfl⟩:=(show ∃t,u=Value.int j t from r1)
   refine call_range_1 (thn (y5i (tg:=tg) (R:=fun J H'=>J=Itr 0 (j-0).toNat/\H'=H1) I1 (by lia) (by lia) h1 h2 ⟨rfl,rfl⟩) fun itv s2 ⟨it,fp,tn,J,H',ei,I2,T,t0,fk,eJ,eH⟩=>?_)
   subst eJ eH
   rw[Int.sub_zero] at T
   exact⟨_,it,fp,tn,_,H',(R.step e1 _).trans e2,ei,I2,S1,T,t0,fk,y5r 0 j.toNat⟩
 | _=>exact absurd rfl hg1
theorem y6t{p pos:Pos}(ha:PD X a ga)(hb:PD X b gb)(hm:X.mg "range"=none)(hg:Gl X "range":=by rfl)(hs:starEach [a,b] X.env=[(false,eval a X.env),(false,eval b X.env)]:=by rfl)(hs2:starEach [b] X.env=[(false,eval b X.env)]:=by rfl) :
 PIF X tg (.Call (.Name "range" p) [a,b] [] pos) (z8y ga gb):=by
 refine⟨fun pins s σ H F Γ I fo rl hgg=>?_⟩
 refine Call_ (z4q I hg hm boot_range (PyProof.Rows.callWith_type1 ?_ (by rw[hs,hs2]) (by rw[hs2];rfl)))
 rw[hs]
 show wpAny _ _ (spliced ((false,eval a X.env)::backTo pos [(false,eval b X.env)])) _ _ s
 refine Calls.spliced_cons (wpAny_mono (ha.run pins s σ H F Γ I fo rl (R.left hgg)) (fun u s1 ⟨d,v,H1,e1,I1,r1,S1,i1⟩=>?_) fun _ _ x=>x.bind _)
 have hg1:=R.next hgg e1
 show wpAny _ _ (spliced ((false,eval b X.env)::backTo pos [])) _ _ s1
 refine Calls.spliced_cons (wpAny_mono (hb.run pins s1 σ H1 F Γ I1 (fo.same S1) (rl.same S1) (R.left hg1)) (fun u2 s2 ⟨d2,v2,H2,e2,I2,r2,S2,i2⟩=>Calls.spliced_nil ?_) fun _ _ x=>z1h.later e1 S1 (x.bind _))
 have hg2:=R.next hg1 e2
 cases d with
 | int i =>
   cases d2 with
   | int j =>
     obtain⟨⟨⟨h1,h2⟩,h3,h4⟩,e3⟩:=R.guard_ne (show R.guard ((-(2^62)<=i/\i<2^62) /\ -(2^62)<=j/\j<2^62) (.ok (z4b i (j-i).toNat)) ≠ .no from hg2)
     rw[Is.int_iff.mp i1] at r1
     rw[Is.int_iff.mp i2] at r2
     obtain⟨t,rfl⟩:=(show ∃t,u=Value.int i t from r1)
     obtain⟨t',rfl⟩:=(show ∃t,u2=Value.int j t from r2)
     refine call_range_2 (thn (y5i (tg:=tg) (R:=fun J H'=>J=Itr i (j-i).toNat/\H'=H2) I2 h1 h2 h3 h4 ⟨rfl,rfl⟩) fun itv s3 ⟨it,fp,tn,J,H',ei,I3,T,t0,fk,eJ,eH⟩=>?_)
     subst eJ eH
     exact⟨_,it,fp,tn,_,H',(R.step e1 _).trans ((R.step e2 _).trans e3),ei,I3,S1.trans S2,T,t0,fk,y5r i (j-i).toNat⟩
   | _=>exact absurd rfl hg2
 | _=>exact absurd rfl hg2
end
theorem x1m{k:NameKind}(h:(k==NameKind.free)=true):k = .free:=by cases k<;>first | rfl | (exact absurd h (by decide))
noncomputable def capt(env:Env):List (Str×NameKind)->List (Str×Addr)->List (Str×Addr)
 | [],cs=>cs
 | (n,k)::r,cs=>if (k == .free)=true then (match env.cells.lookup n with | some a=>capt env r ((n,a)::cs) | none=>capt env r cs) else capt env r cs
theorem z3a{env:Env}{x:Str}{c:Addr}:∀(names:List (Str×NameKind)) (cs:List (Str×Addr)),(x,c)∈capt env names cs->(x,c)∈cs∨env.cells.lookup x=some c
 | [],cs,h=>.inl h
 | (n,k)::r,cs,h=>by
   unfold capt at h
   split at h
   ·split at h
    ·rename_i a e
     rcases z3a r _ h with q | q
     ·rcases List.mem_cons.mp q with z | z
      ·cases z;exact .inr e
      ·exact .inl z
     ·exact .inr q
    ·exact z3a r _ h
   ·exact z3a r _ h
theorem z9i{env:Env}{p:Str×Addr}:∀(names:List (Str×NameKind)) (cs:List (Str×Addr)),p∈cs->p∈capt env names cs
 | [],cs,h=>h
 | (n,k)::r,cs,h=>by
   unfold capt
   split
   ·split
    ·exact z9i r _ (List.mem_cons_of_mem _ h)
    ·exact z9i r _ h
   ·exact z9i r _ h
theorem z5y{env:Env}{x:Str}{c:Addr}(e:env.cells.lookup x=some c):∀(names:List (Str×NameKind)) (cs:List (Str×Addr)),(x,NameKind.free)∈names->(x,c)∈capt env names cs
 | [],cs,h=>by simp at h
 | (n,k)::r,cs,h=>by
   unfold capt
   rcases List.mem_cons.mp h with z | z
   ·cases z
    rw[if_pos (show(NameKind.free==NameKind.free)=true by decide),e]
    exact z9i r _ List.mem_cons_self
   ·split
    ·split
     ·exact z5y e r _ z
     ·exact z5y e r _ z
    ·exact z5y e r _ z
theorem z2j{α:Type}:∀{l:List (Str×α)} {x:Str} {c:α},(x,c)∈l->∃c',l.lookup x=some c'/\(x,c')∈l
 | [],_,_,h=>by simp at h
 | (n,a)::r,x,c,h=>by
   by_cases e:x=n
   ·subst e;exact⟨a,by simp[List.lookup],List.mem_cons_self⟩
   ·rcases List.mem_cons.mp h with z | z
    ·cases z;exact absurd rfl e
    ·obtain⟨c',h1,h2⟩:=z2j z
     exact⟨c',by rw[List.lookup_cons,beq_eq_false_iff_ne.mpr e];exact h1,List.mem_cons_of_mem _ h2⟩
noncomputable def y0k(N:List Str)(env:Env)(y:Str)(scope:Scope):Bool :=
 decide (scope.kind = .function)&&scope.names.all (fun p=>decide (p.2 ≠ .cell)&&(decide (p.2 ≠ .local)||decide (scope.names.lookup p.1=some .local))&&(decide (p.2 ≠ .free)||((env.cells.lookup p.1).isSome&&(decide (env.scope.names.lookup p.1=some .cell)||decide (env.scope.names.lookup p.1=some .free)))))
  && decide (scope.names.lookup y=some .local)&&decide (scope.names.lookup (("":Str))=none)&&N.all (fun z=>decide (scope.names.lookup z≠some .local)||decide (z=y))&&N.all (fun z=>decide (z≠("":Str)))
structure CompOk (N:List Str) (env:Env) (y:Str) (scope:Scope):Prop where
 kind:scope.kind = .function
 nocell:∀p∈scope.names,p.2 ≠ .cell
 names:∀p∈scope.names,p.2 = .local->scope.names.lookup p.1=some .local
 free:∀p∈scope.names,p.2 = .free->(∃c,env.cells.lookup p.1=some c)/\(env.scope.names.lookup p.1=some .cell∨env.scope.names.lookup p.1=some .free)
 loc:scope.names.lookup y=some .local
 nil:scope.names.lookup (("":Str))=none
 only:∀z∈N,scope.names.lookup z=some .local->z=y
 none:∀z∈N,z≠("":Str)
theorem y0i{N:List Str}{env:Env}{y:Str}{scope:Scope}(h:y0k N env y scope=true):CompOk N env y scope:=by
 unfold y0k at h
 simp only[Bool.and_eq_true,List.all_eq_true,Bool.or_eq_true,decide_eq_true_eq] at h
 obtain⟨⟨⟨⟨⟨h1,h2⟩,h3⟩,h4⟩,h5⟩,h6⟩:=h
 refine⟨h1,fun p hp=>(h2 p hp).1.1,fun p hp e=>((h2 p hp).1.2).resolve_left fun z=>z e,fun p hp e=>?_,h3,h4,fun z hz e=>(h5 z hz).resolve_left fun q=>q e,h6⟩
 have q:=((h2 p hp).2).resolve_left fun z=>z e
 exact⟨Option.isSome_iff_exists.mp q.1,q.2⟩
noncomputable def z0v(X:Cx)(y:Str)(scope:Scope)(C:Addr)(s₂:Shared)(H₂:Hp)(fp:List Addr)(pn:List (Addr×Obj)):Cx :=
 { X with N:=y::X.N.map (fun z=>if z=y then ("":Str) else z),s₀:=s₂,H₀:=H₂,env:=compEnvC scope (capt X.env scope.names []) C X.env,outer:=X.stack,ex:=fp,fn:=fun _=>false,pn:=pn,xe:=fun _ _=>False }
theorem pure_I{α β:Type}{M:Model}{A:Around}{E E':Value->Shared->Prop}{s:Shared}{a:α}{t:Sem β}{P:α->Shared->Prop}{Q:β->Shared->Prop}(h:wpAny M A (pure a) P E s)(k:P a s->wpAny M A t Q E' s):wpAny M A t Q E' s:=fun Γ p hΓ=>k (h Γ p hΓ) Γ p hΓ
theorem y5s{P:Program}{w:World}{H:Hp}{h:Heap}{a:Addr}{o:HO}(x:HOk P w H h)(hn:H a=none)(new:z7b P w (upd H a o) h a o):HOk P w (upd H a o) h:=fun b u e=>by
 by_cases hb:b=a
 ·subst hb;rw[z0u] at e;cases e;exact new
 ·rw[z0q hb] at e
  exact(x b u e).stay (fun c v _ q=>q) (fun c q=>by rw[z0q (z0s q hn)];exact q) fun c xs q=>by rw[z0q (z0s q hn)];exact q
theorem y3m{X:Cx}{y:Str}{scope:Scope}{C Dd:Addr}{fp:List Addr}{pins pl:List (Addr×Obj)}{σ σ':St}{H₂ H':Hp}{s₂ s1:Shared}{xs:List V}{its:List Value}{n:Nat}(I:Inv X pins σ H₂ s₂)
 (J:Inv (z0v X y scope C s₂ H₂ fp (X.pn++pins)) pl σ' H' s1) (hD:s₂.heap.objs.size<=Dd) (hn:H' Dd=none) (hd:s1.heap.get? Dd=some { cls:=.type "list",data:=.seq its.toArray n }) (rv:Vals xs its) (hz:xs.length<=sizeLine) (hf:∀b∈fp,FpOk X pins H₂ b) :
 Inv X pins σ (upd H' Dd (.lst xs)) s1:=by
 have os:s1.os=s₂.os:=J.os
 have un:Un (frs X.stack) fp H₂ H' s₂.heap s1.heap:=J.base
 have hok:HOk X.prog X.w H' s1.heap:=J.hok
 have bare:AllBare s1.gens:=J.bare
 clear J
 obtain⟨hh,gg,dd,tt,os'⟩:=s1
 obtain rfl:os'=s₂.os:=os
 have neD:∀b o,s₂.heap.get? b=some o->b≠Dd:=fun b o e=>Nat.ne_of_lt (Nat.lt_of_lt_of_le (Heap.lt_size e) hD)
 refine I.call (h':=hh) (g':=gg) (d':=dd) (t':=tt) (ch:=fp) ⟨un.keep,un.slot,fun b o e n' hx=>?_,un.there,fun b ys e=>?_,fun b o u e=>?_,fun b ps e=>?_⟩ (y5s hok hn ⟨hz,its,n,rv,hd⟩) bare fun b hb=>?_
 ·rw[z0q (neD b o e)];exact un.free b o e n' hx
 ·have q:=un.tups b ys e
  rw[z0q (z0s q hn)];exact q
 ·have q:=un.frzs b o u e
  rw[z0q (z0s q hn)];exact q
 ·obtain⟨more,q⟩:=un.tbls b ps e
  exact⟨more,by rw[z0q (z0s q hn)];exact q⟩
 ·obtain⟨f0,f1,f2,f3,f4,f5⟩:=hf b hb
  exact⟨f3.imp_right fun z=>Heap.get?_none_of_le z,f1,f4,f5⟩
theorem x4s{X:Cx}{y:Str}{scope:Scope}{C:Addr}{fp:List Addr}{pins:List (Addr×Obj)}{σ:St}{H₂:Hp}{s₂:Shared}(I:Inv X pins σ H₂ s₂)(c:CompOk X.N X.env y scope)(hC:s₂.heap.objs.size<=C)(hf:∀b∈fp,FpOk X pins H₂ b)(ho:∀b∈fp,b<s₂.heap.objs.size) :
 (z0v X y scope C s₂ H₂ fp (X.pn++pins)).Ok:=by
 have cells:∀x k,(capt X.env scope.names []).lookup x=some k->X.env.cells.lookup x=some k:=fun x k e=>by
  rcases z3a scope.names [] (PySem.mem_of_lookup e) with q | q
  ·simp at q
  ·exact q
 refine⟨I.ok.mod,c.kind,I.ok.glob,I.ok.blt,hC,fun x z k h1 h2=>I.ok.inj x z k (cells x k h1) (cells z k h2),fun x hx=>?_,fun x k h _=>absurd h (by simp[z0v]),I.ok.hd,I.ok.frames,.inl rfl,fun b hb=>?_,I.bs,Nat.le_trans I.ok.bsz I.sz,fun b o e hb=>?_,fun b hb z=>?_,I.stack,I.stkFree⟩
 ·have hx':(relabel scope X.env).names.lookup x=some .cell∨(relabel scope X.env).names.lookup x=some .free:=hx
  have hm:∃k,(x,k)∈scope.names/\(k = .free∨k = .cell):=by
   rcases hx' with q | q <;>
   ·have m:=PySem.mem_of_lookup q
    unfold relabel at m
    simp only[List.mem_map] at m
    obtain⟨⟨n,k⟩,hm,e⟩:=m
    by_cases hc:(k==NameKind.free&&X.env.scope.kind == .function&&X.env.kindOf n==some .cell)=true
    ·rw[if_pos hc] at e
     have e1:n=x:=congrArg Prod.fst e
     subst e1
     rw[Bool.and_eq_true,Bool.and_eq_true] at hc
     exact⟨k,hm,.inl (x1m hc.1.1)⟩
    ·rw[if_neg hc] at e
     have e1:n=x:=congrArg Prod.fst e
     have e2:=congrArg Prod.snd e
     dsimp only at e2
     subst e1 e2
     exact⟨_,hm,by first | exact .inr rfl | exact .inl rfl⟩
  obtain⟨k,hm,hk⟩:=hm
  rcases hk with rfl | rfl
  ·obtain⟨⟨a,ea⟩,_⟩:=c.free _ hm rfl
   obtain⟨c',h1,_⟩:=z2j (z5y ea scope.names [] hm)
   exact⟨c',h1⟩
  ·exact absurd rfl (c.nocell _ hm)
 ·refine⟨Nat.ne_of_lt (Nat.lt_of_lt_of_le (ho b hb) hC),fun x k e=>(hf b hb).2.2.2.2.1 x k (cells x k e)⟩
 ·rcases(hf b hb).2.2.2.1 with z | z
  ·exact I.ok.noex b o e z
  ·exact absurd (Nat.lt_of_lt_of_le (Nat.lt_of_lt_of_le (Heap.lt_size e) I.ok.bsz) z) (Nat.lt_irrefl _)
 ·rcases List.mem_cons.mp (I.stkSub b z) with q | q
  ·exact(hf b hb).2.1 q
  ·exact(hf b hb).2.2.1 q
section
variable {X:Cx}{y:Str}{scope:Scope}
theorem y1d{C Dd:Addr}{fp:List Addr}{pins:List (Addr×Obj)}{σ:St}{H₂:Hp}{s₂:Shared}{h₁:Heap}{tk:Nat}{oD:Obj}{m:Str->Option Value}(I:Inv X pins σ H₂ s₂)(c:CompOk X.N X.env y scope)(hC:s₂.heap.objs.size<=C)(hD:s₂.heap.objs.size<=Dd)(hDC:Dd≠C)(hf:∀b∈fp,FpOk X pins H₂ b)(ho:∀b∈fp,b<s₂.heap.objs.size)
 (old:∀b o,s₂.heap.get? b=some o->h₁.get? b=some o) (hns:h₁.Ns C m) (hd:h₁.get? Dd=some oD) (hdd:∀v,oD.data ≠ .cell v) :
 Inv (z0v X y scope C s₂ H₂ fp (X.pn++pins)) [(Dd,oD)] (none::σ) H₂ { s₂ with heap:=h₁,toks:=tk }:=by
 have cells:∀x k,(capt X.env scope.names []).lookup x=some k->X.env.cells.lookup x=some k:=fun x k e=>by
  rcases z3a scope.names [] (PySem.mem_of_lookup e) with q | q
  ·simp at q
  ·exact q
 have nstk:∀b,s₂.heap.objs.size<=b->b ∉ frs X.stack:=fun b hb z=>by
  rcases List.mem_cons.mp (I.stkSub b z) with q | q
  ·exact absurd (Nat.lt_of_lt_of_le I.lt (by rw[<-q];exact hb)) (Nat.lt_irrefl _)
  ·exact I.nofs hb q
 refine⟨x4s I c hC hf ho,rfl,I.bare,Un.kept old,⟨m,hns,fun i x v e1 e2 e3=>?_⟩,fun x k e=>?_,I.hok.fresh hC,fun x k e=>I.freeC x k (cells x k e),fun p hp=>?_,I.hok.kept old,?_⟩
 ·cases i with
  | zero=>simp at e2
  | succ i =>
    have e2':σ[i]? = some (some v):=by simpa using e2
    have e1':(X.N.map (fun z=>if z=y then ("":Str) else z))[i]? = some x:=by simpa [z0v] using e1
    rw[List.getElem?_map] at e1'
    cases hz:X.N[i]? with
    | none=>rw[hz] at e1';cases e1'
    | some z =>
      rw[hz] at e1'
      simp only[Option.map_some,Option.some.injEq] at e1'
      have e3':Vis (relabel scope X.env) x:=e3
      have look0:∀{k:NameKind},(relabel scope X.env).names.lookup x=some k->∃k',(x,k')∈scope.names/\(k'=k∨(k' = .free/\k = .cell)):=fun {k} q=>by
       have m':=PySem.mem_of_lookup q
       unfold relabel at m'
       simp only[List.mem_map] at m'
       obtain⟨⟨n,k0⟩,hm,e⟩:=m'
       by_cases hc:(k0==NameKind.free&&X.env.scope.kind == .function&&X.env.kindOf n==some .cell)=true
       ·rw[if_pos hc] at e
        have e1:n=x:=congrArg Prod.fst e
        have e2:=congrArg Prod.snd e
        dsimp only at e2
        subst e1 e2
        rw[Bool.and_eq_true,Bool.and_eq_true] at hc
        exact⟨k0,hm,.inr ⟨x1m hc.1.1,rfl⟩⟩
       ·rw[if_neg hc] at e
        have e1:n=x:=congrArg Prod.fst e
        have e2:=congrArg Prod.snd e
        dsimp only at e2
        subst e1 e2
        exact⟨_,hm,.inl rfl⟩
      have inames:∀k',(x,k')∈scope.names->x≠("":Str):=fun k' hm z=>by
       subst z
       obtain⟨c',h1,_⟩:=z2j hm
       rw[c.nil] at h1;cases h1
      have ne:x≠("":Str):=by
       rcases e3' with q | q | q<;>(obtain⟨k',hm,_⟩:=look0 q;exact inames k' hm)
      by_cases hzy:z=y
      ·rw[if_pos hzy] at e1';exact absurd e1'.symm ne
      ·rw[if_neg hzy] at e1'
       subst e1'
       have fr:(z,NameKind.free)∈scope.names:=by
        rcases e3' with q | q | q
        ·obtain⟨k',hm,hk⟩:=look0 q
         rcases hk with rfl | ⟨_,hk⟩
         ·exact absurd (c.only z (List.mem_of_getElem? hz) (c.names _ hm rfl)) hzy
         ·cases hk
        ·obtain⟨k',hm,hk⟩:=look0 q
         rcases hk with rfl | ⟨rfl,_⟩
         ·exact absurd rfl (c.nocell _ hm)
         ·exact hm
        ·obtain⟨k',hm,hk⟩:=look0 q
         rcases hk with rfl | ⟨_,hk⟩
         ·exact hm
         ·cases hk
       obtain⟨⟨ca,eca⟩,hv⟩:=c.free _ fr rfl
       obtain⟨m0,hn0,hl0⟩:=I.loc
       obtain⟨u,ru,lk⟩:=hl0 i z v hz e2' (.inr hv)
       refine⟨u,ru,?_⟩
       rcases lk with ⟨q,_⟩ | ⟨_,k,ek,hk⟩
       ·exfalso
        have q':X.env.scope.names.lookup z=some .local:=q
        rcases hv with w | w<;>(rw[q'] at w;cases w)
       ·obtain⟨c',h1,_⟩:=z2j (z5y ek scope.names [] fr)
        have h2:=cells z c' h1
        rw[ek] at h2;cases h2
        refine .inr ⟨?_,k,h1,?_⟩
        ·rcases e3' with q | q | q
         ·exfalso
          obtain⟨k',hm,hk'⟩:=look0 q
          rcases hk' with rfl | ⟨_,hk'⟩
          ·exact hzy (c.only z (List.mem_of_getElem? hz) (c.names _ hm rfl))
          ·cases hk'
         ·exact .inl q
         ·exact .inr q
        ·obtain⟨o,ho',hd'⟩:=hk
         exact⟨o,old _ _ ho',hd'⟩
 ·obtain⟨v,o,ho',hd'⟩:=I.cell x k (cells x k e)
  exact⟨v,o,old _ _ ho',hd'⟩
 ·rcases List.mem_append.mp hp with q | q
  ·obtain⟨h1,h2,h3,h4,h5⟩:=I.pin p q
   refine⟨old _ _ h1,h2,Nat.ne_of_lt (Nat.lt_of_lt_of_le (Heap.lt_size h1) hC),fun z=>?_,h5⟩
   rcases List.mem_cons.mp (I.stkSub p.1 z) with q' | q'
   ·exact h3 q'
   ·exact h4 q'
  ·have e:p=(Dd,oD):=by simpa using q
   subst e
   exact⟨hd,I.hok.fresh hD,hDC,nstk Dd hD,hdd⟩
 ·show σ.length+1=(y::X.N.map _).length
  rw[List.length_cons,List.length_map,I.len]
structure PC1 (X:Cx) (y:Str) (scope:Scope) (ifs:List Expr) (elt:Expr) (f:D->G->R (Option D)):Prop where
 run:∀(C:Addr) (s₂:Shared) (H₂:Hp) (fp:List Addr) (pn:List (Addr×Obj)) (pins:List (Addr×Obj)) (s:Shared) (σ:St) (H:Hp) (F:List Addr) (Γ:G) (d:D),Inv (z0v X y scope C s₂ H₂ fp pn) pins σ H s->FOk H F->Rel X.K H F (.ro d::Γ) σ->(∃o,f d Γ = .ok o) ->
  wpAny (model X.prog X.w) X.A (forIn ifs true fun c r=>if r=true then do let ok <-isTrue c (compEnvC scope (capt X.env scope.names []) C X.env) (eval c (compEnvC scope (capt X.env scope.names []) C X.env));pure (ForInStep.yield ok) else pure (ForInStep.yield r)) (fun ok s₃ =>
   if ok=true then wpAny (model X.prog X.w) X.A (eval elt (compEnvC scope (capt X.env scope.names []) C X.env)) (fun u s₄=>∃e v H',f d Γ = .ok (some e)/\Inv (z0v X y scope C s₂ H₂ fp pn) pins σ H' s₄/\RelV v u/\Same H H'/\Is X.K (hid F H') e v) (fun _ _=>False) s₃
   else f d Γ = .ok none/\∃H',Inv (z0v X y scope C s₂ H₂ fp pn) pins σ H' s₃/\Same H H') (fun _ _=>False) s
theorem z4w{elt:Expr}{ge:G->R D}(he:∀C s₂ H₂ fp pn,PDr (z0v X y scope C s₂ H₂ fp pn) elt ge):PC1 X y scope [] elt (fElt ge):=by
 refine⟨fun C s₂ H₂ fp pn pins s σ H F Γ d I fo rl ⟨o,eo⟩=>?_⟩
 refine wpAny_tests_nil ?_
 rw[if_pos rfl]
 have hne:ge (.ro d::Γ) ≠ .no:=fun z=>by unfold fElt at eo;rw[z] at eo;cases eo
 refine wpAny_mono ((he C s₂ H₂ fp pn).run pins s σ H F (.ro d::Γ) I fo rl hne) (fun u s4 ⟨e,v,H',e1,I',rv,S,iv⟩=>⟨e,v,H',R.step e1 _,I',rv,S,iv⟩) fun x s' ⟨c,H',e1,_⟩=>?_
 unfold fElt at eo;rw[e1] at eo;cases eo
theorem x3n{elt c:Expr}{gc:G->R Bool}{ge:G->R D}(hc:∀C s₂ H₂ fp pn,PTD (z0v X y scope C s₂ H₂ fp pn) c gc)(he:∀C s₂ H₂ fp pn,PDr (z0v X y scope C s₂ H₂ fp pn) elt ge):PC1 X y scope [c] elt (z7m gc ge):=by
 refine⟨fun C s₂ H₂ fp pn pins s σ H F Γ d I fo rl ⟨o,eo⟩=>?_⟩
 have hne:gc (.ro d::Γ) ≠ .no:=fun z=>by unfold z7m at eo;rw[z] at eo;cases eo
 refine wpAny_tests_one (wpAny_mono ((hc C s₂ H₂ fp pn).run pins s σ H F (.ro d::Γ) I fo rl hne) (fun k s3 ⟨H1,e1,I1,S1⟩=>?_) fun x s' ⟨c',H',e1,_⟩=>?_)
 ·have eo':(if k=true then ge (.ro d::Γ)>>=fun e=>R.ok (some e) else .ok none) = .ok o:=by
   unfold z7m at eo;rw[e1] at eo;exact eo
  cases k with
  | false =>
    rw[if_neg Bool.false_ne_true]
    exact⟨R.step e1 _,H1,I1,S1⟩
  | true =>
    rw[if_pos rfl] at eo' ⊢
    have hne2:ge (.ro d::Γ) ≠ .no:=fun z=>by rw[z] at eo';cases eo'
    refine wpAny_mono ((he C s₂ H₂ fp pn).run pins s3 σ H1 F (.ro d::Γ) I1 (fo.same S1) (rl.same S1) hne2) (fun u s4 ⟨e,v,H',e2,I',rv,S,iv⟩=>⟨e,v,H',(R.step e1 _).trans (R.step e2 _),I',rv,S1.trans S,iv⟩) fun x s' ⟨c',H',e2,_⟩=>?_
    rw[e2] at eo';cases eo'
 ·unfold z7m at eo;rw[e1] at eo;cases eo
theorem z9f{K:PySem.W.Frag}{H:Hp}{F:List Addr}{Γ:G}{σ:St}{d:D}{v:V}(r:Rel K H F Γ σ)(i:Is K (hid F H) d v):Rel K H F (.ro d::Γ) (some v::σ) where
 len:=by rw[List.length_cons,List.length_cons,r.len]
 ro:=fun j d' h=>by
  cases j with
  | zero=>simp at h;cases h;exact⟨v,rfl,i⟩
  | succ j=>exact r.ro j d' (by simpa using h)
 own:=fun j ds h=>by
  cases j with
  | zero=>simp at h
  | succ j=>exact r.own j ds (by simpa using h)
 inj:=fun j k ds es a h1 h2 h3 h4=>by
  cases j with
  | zero=>simp at h1
  | succ j =>
    cases k with
    | zero=>simp at h2
    | succ k=>rw[r.inj j k ds es a (by simpa using h1) (by simpa using h2) (by simpa using h3) (by simpa using h4)]
theorem sb1{n a i:Nat}(e:n=a-i)(h:i<a):a-(i+1)<n:=by lia
theorem sb2{a c d:Nat}(h:c=d+1)(e:a=d):(d≠c/\a<=c/\a<=d)/\∀b,b<a->b≠c/\b≠d:=⟨⟨by lia,by lia,by lia⟩,fun b hb=>⟨by lia,by lia⟩⟩
theorem y3n{elt iter:Expr}{px pos:Pos}{ifs:List Expr}{f:D->G->R (Option D)}{pins:List (Addr×Obj)}{σ:St}{H₂:Hp}{s₂:Shared}{F:List Addr}{Γ:G}{items:List D}{it:Addr}{fp:List Addr}{tn:Nat->Heap->Prop}{J:It}{E:Value->Shared->Prop}{total:List D}
 (hp:PC1 X y scope ifs elt f) (c:CompOk X.N X.env y scope) (hN:X.N.Nodup) (hcalm:X.calm=true) (I:Inv X pins σ H₂ s₂) (fo:FOk H₂ F) (rl:Rel X.K H₂ F Γ σ) (T:Turn X.prog X.w X.K (.Name y px) J fp it tn) (t0:tn 0 s₂.heap) (hf:∀b∈fp,FpOk X pins H₂ b) (hj:JC X.K H₂ F J items)
 (ht:z1g (fun d=>f d Γ) items [] = .ok total) (hl:items.length<=100000) {RR:Value->Addr->Result->Shared->Prop}
 (hR:∀(Dd C:Addr) (xs:List V) (H':Hp) (m:Str->Option Value) (s':Shared),s₂.heap.objs.size<=C->Dd≠C->H₂ Dd=none->H' Dd=none->H' C=none->s₂.heap.objs.size<=Dd->Same H₂ H'->IsAll X.K (hid F H') total xs->Inv X pins σ (upd H' Dd (.lst xs)) s'->s'.heap.Ns C m->RR (.ref Dd) C (.ok .next) s') :
 wpAny (model X.prog X.w) X.A (newList []) (fun acc s₃=>wpAny (model X.prog X.w) X.A (newFunctionEnv scope X.env.globals (capt X.env scope.names []) [] X.env.qual none .none (some X.env)) (fun cenv s₄ =>
  codeAny (model X.prog X.w) X.A (.compStart (.ListComp elt [⟨.Name y px,iter,ifs,0⟩] scope pos) 0 (.ref it) acc { cenv with scope:=relabel scope X.env }) (RR acc cenv.locals) s₄) E s₃) E s₂:=by
 have ho:∀b∈fp,b<s₂.heap.objs.size:=fun b hb=>by obtain⟨o,e,_⟩:=T.obj _ _ t0 b hb;exact Heap.lt_size e
 refine wpAny_newObj_type (wpAny_newFunctionEnv c.nocell (by intro y hy;simp at hy) (fun h₁ hns₁ hsb₁=>?_) c.kind)
 dsimp only at hns₁ hsb₁ ⊢
 generalize hH2:s₂.heap.push { cls:=.type "list",dict:=none,data:=.seq ([]:List Value).toArray }=H2 at hns₁ hsb₁ ⊢
 have hCs:H2.objs.size=s₂.heap.objs.size+1:=by rw[<-hH2,Heap.size_push]
 generalize hCC:H2.objs.size=C at hns₁ hsb₁ hCs ⊢
 generalize hDD:s₂.heap.objs.size=Dd at hCs ⊢
 obtain⟨⟨hDC,hC,hD⟩,below⟩:=sb2 hCs hDD
 have old:∀b o,s₂.heap.get? b=some o->h₁.get? b=some o:=fun b o e=>by
  refine hsb₁.extBut b o (below b (Heap.lt_size e)).1 ?_
  exact Heap.get?_push_of_some _ (hH2 ▸ Heap.get?_push_of_some _ e)
 have hacc:h₁.get? Dd=some { cls:=.type "list",dict:=none,data:=.seq ([]:List Value).toArray }:=by
  refine hsb₁.extBut _ _ hDC ?_
  refine Heap.get?_push_of_some _ ?_
  rw[<-hH2,<-hDD]
  exact Heap.get?_push_size _ rfl
 have J0:∀tk,Inv (z0v X y scope C s₂ H₂ fp (X.pn++pins)) [(Dd,{ cls:=.type "list",dict:=none,data:=.seq ([]:List Value).toArray })] (none::σ) H₂ { s₂ with heap:=h₁,toks:=tk }:=fun tk =>
  y1d I c hC hD hDC hf ho old hns₁ hacc (fun v z=>nomatch z)
 have t1:tn 0 h₁:=T.keep _ _ _ t0 fun b hb o e=>old b o e
 have fpY:∀{H':Hp} {o:Obj},(∀b∈fp,H' b=none)->∀b∈fp,FpOk (z0v X y scope C s₂ H₂ fp (X.pn++pins)) [(Dd,o)] H' b:=fun {H' o} hn b hb=>by
  obtain⟨f0,f1,f2,f3,f4,f5⟩:=hf b hb
  have lt:=ho b hb
  refine⟨hn b hb,(below b lt).1,fun z=>?_,.inl hb,fun x k e=>?_,fun p hp'=>?_⟩
  ·rcases List.mem_cons.mp (I.stkSub b z) with q | q
   ·exact f1 q
   ·exact f2 q
  ·rcases z3a scope.names [] (PySem.mem_of_lookup e) with q | q
   ·simp at q
   ·exact f4 x k q
  ·rcases List.mem_append.mp hp' with q | q
   ·exact f5 p q
   ·have e:p=(Dd,o):=by simpa using q
    subst e
    exact Ne.symm (below b lt).2
 have NdY:(z0v X y scope C s₂ H₂ fp (X.pn++pins)).N.Nodup:=by
  show(y::X.N.map (fun z=>if z=y then ("":Str) else z)).Nodup
  refine List.nodup_cons.mpr ⟨fun z=>?_,?_⟩
  ·obtain⟨z',hz,e⟩:=List.mem_map.mp z
   by_cases q:z'=y
   ·rw[if_pos q] at e
    subst e
    have:=c.loc;rw[c.nil] at this;cases this
   ·rw[if_neg q] at e;exact q e
  ·have inj:∀a∈X.N,∀b∈X.N,(if a=y then ("":Str) else a)=(if b=y then ("":Str) else b)->a=b:=fun a ha b hb e=>by
    by_cases qa:a=y
    ·by_cases qb:b=y
     ·rw[qa,qb]
     ·rw[if_pos qa,if_neg qb] at e;exact absurd e.symm (c.none b hb)
    ·by_cases qb:b=y
     ·rw[if_neg qa,if_pos qb] at e;exact absurd e (c.none a ha)
     ·rw[if_neg qa,if_neg qb] at e;exact e
   have gen:∀l:List Str,(∀a∈l,a∈X.N)->l.Nodup->(l.map (fun z=>if z=y then ("":Str) else z)).Nodup:=by
    intro l
    induction l with
    | nil=>intro _ _;exact List.nodup_nil
    | cons a l ih =>
      intro hs nd
      obtain⟨n1,n2⟩:=List.nodup_cons.mp nd
      rw[List.map_cons]
      refine List.nodup_cons.mpr ⟨fun z=>?_,ih (fun b hb=>hs b (List.mem_cons_of_mem _ hb)) n2⟩
      obtain⟨b,hb,e⟩:=List.mem_map.mp z
      exact n1 (inj b (hs b (List.mem_cons_of_mem _ hb)) a (hs a List.mem_cons_self) e ▸ hb)
   exact gen X.N (fun _ h=>h) hN
 let L:Nat->Shared->Prop:=fun n s'=>∃(i:Nat) (H':Hp) (o:Option V) (xs:List V) (its:List Value) (acc:List D) (k:Nat),n=items.length-i/\i<=items.length/\Inv (z0v X y scope C s₂ H₂ fp (X.pn++pins)) [(Dd,{ cls:=.type "list",dict:=none,data:=.seq its.toArray k })] (o::σ) H' s' /\
  Same H₂ H'/\(∀b∈fp,H' b=none)/\tn i s'.heap/\Vals xs its/\acc.length<=i/\IsAll X.K (hid F H') acc xs/\z1g (fun d=>f d Γ) (items.drop i) acc = .ok total
 have loop:∀s₄:Shared,L items.length s₄->codeAny (model X.prog X.w) X.A (.compLoop (.ListComp elt [⟨.Name y px,iter,ifs,0⟩] scope pos) 0 (.ref it) (.ref Dd) (compEnvC scope (capt X.env scope.names []) C X.env)) (RR (.ref Dd) C) s₄:=fun s₄ h4=>by
  refine codeAny_compLoop_tests L (fun n s' hL=>wpAny_mono (E:=fun _ _=>False) ?_ (fun _ _ q=>q) fun _ _ z=>z.elim) items.length h4
  obtain⟨i,H',o,xs,its,acc,k,en,hi,J',S',fr',tn',rv,hal,ia,eg⟩:=hL
  obtain⟨jgo,jstop⟩:=hj H' S'
  have hpD:=J'.pin (Dd,{ cls:=.type "list",dict:=none,data:=.seq its.toArray k }) (List.mem_append_right _ (by simp))
  have hxl:xs.length<=100000:=by rw[<-ia.length];exact Nat.le_trans hal (Nat.le_trans hi hl)
  have hsl:(100000:Nat)<=sizeLine:=by rw[sizeLine_eq];decide
  by_cases hlt:i<items.length
  ·obtain⟨go,yl⟩:=jgo i hlt
   refine thn (T.item (z0v X y scope C s₂ H₂ fp (X.pn++pins)) rfl rfl rfl hcalm i _ s' _ H' (fun _ _=>False) J' (fpY fr') tn' go) fun r s2 ⟨u,hr,h1⟩=>?_
   subst hr
   refine pure_I (a:=()) h1 fun⟨x,H5,J5,r5,y5,st5,fr5⟩=>?_
   obtain⟨e5,d,ed,iv⟩:=yl x H5 y5
   subst e5
   have J5':=J5.pinned (fpY fr5) (T.obj _ _ st5)
   have hdrop:items.drop i=d::items.drop (i+1):=by
    rw[List.drop_eq_getElem_cons hlt]
    have:items[i]=d:=by
     have:=List.getElem?_eq_getElem hlt
     rw[ed] at this;exact(Option.some.inj this).symm
    rw[this]
   rw[hdrop] at eg
   have hfo:∃od,f d Γ = .ok od/\(match od with | some e=>z1g (fun d=>f d Γ) (items.drop (i+1)) (acc++[e]) | none=>z1g (fun d=>f d Γ) (items.drop (i+1)) acc) = .ok total:=by
    unfold z1g at eg
    cases q:f d Γ with
    | no=>simp only[q] at eg;cases eg
    | er c'=>simp only[q] at eg;cases eg
    | ok od =>
      refine⟨od,rfl,?_⟩
      cases od with
      | none=>simp only[q] at eg;exact eg
      | some e=>simp only[q] at eg;exact eg
   obtain⟨od,eod,etot⟩:=hfo
   have hpg:PG (z0v X y scope C s₂ H₂ fp (X.pn++pins)).nox (.Name y px) (y3k 0):=z5v (X:=(z0v X y scope C s₂ H₂ fp (X.pn++pins)).nox) NdY rfl (.inl (lookup_relabel_local c.loc)) (.inr (lookup_relabel_local c.loc))
   refine wpAny_mono (hpg _ s2 (o::σ) H5 x u (fun σ' H'=>σ'=some x::σ/\H'=H5) (J5'.wish _) r5 ⟨rfl,rfl⟩) (fun _ s3 ⟨σ6,H6,J6,e6,e6'⟩=>?_) fun _ _ z=>z.elim
   subst e6 e6'
   have J6':=J6.unwish
   have fo6:=fo.same S'
   refine wpAny_mono (hp.run C s₂ H₂ fp (X.pn++pins) _ s3 _ H6 F Γ d J6' fo6 (z9f (rl.same S') iv) ⟨od,eod⟩) (fun ok s4 h4=>?_) fun _ _ z=>z.elim
   have back:∀{s5:Shared} {H7:Hp} {σ7:St},Inv (z0v X y scope C s₂ H₂ fp (X.pn++pins)) ([(Dd,{ cls:=.type "list",dict:=none,data:=.seq its.toArray k })]++z4o fp s2.heap) σ7 H7 s5->tn (i+1) s5.heap/\(∀b∈fp,H7 b=none):=fun {s5 H7 σ7} J7=>by
    refine⟨T.keep _ _ _ st5 fun b hb o' e=>(J7.pin (b,o') (List.mem_append_right _ (List.mem_append_right _ (z2b hb e)))).1,fun b hb=>?_⟩
    obtain⟨o',e,dd⟩:=T.obj _ _ st5 b hb
    exact(J7.pin (b,o') (List.mem_append_right _ (List.mem_append_right _ (z2b hb e)))).2.1
   cases ok with
   | false =>
     rw[if_neg Bool.false_ne_true] at h4 ⊢
     obtain⟨ef,H7,J7,S7⟩:=h4
     rw[eod] at ef;cases ef
     obtain⟨tn7,fr7⟩:=back J7
     exact⟨items.length-(i+1),sb1 en hlt,i+1,H7,some x,xs,its,acc,k,rfl,hlt,J7.unpinned,S'.trans S7,fr7,tn7,rv,Nat.le_succ_of_le hal,ia.same (z2i S7),etot⟩
   | true =>
     rw[if_pos rfl] at h4 ⊢
     refine wpAny_mono h4 (fun u7 s5 ⟨e,v7,H7,ef,J7,r7,S7,iv7⟩=>?_) fun _ _ z=>z.elim
     rw[eod] at ef;cases ef
     obtain⟨tn7,fr7⟩:=back J7
     have J8:=J7.unpinned
     have hpD7:=J8.pin (Dd,{ cls:=.type "list",dict:=none,data:=.seq its.toArray k }) (List.mem_append_right _ (by simp))
     have hlen:its.length=acc.length:=by rw[<-rv.length,<-ia.length]
     refine wpAny_list_append_plain (l:=Dd) (items:=its.toArray) (x:=u7) ⟨k,hpD7.1⟩ (fun h' hl' hs'=>?_) (by rw[List.size_toArray,<-rv.length];exact Nat.le_trans hxl hsl)
     obtain⟨k',hk'⟩:=hl'
     have epush:its.toArray.push u7=(its++[u7]).toArray:=by simp
     rw[epush] at hk'
     have J9:Inv (z0v X y scope C s₂ H₂ fp (X.pn++pins)) [] (some x::σ) H7 s5:=J8.pins_of fun p hp'=>by simp at hp'
     have J10:Inv (z0v X y scope C s₂ H₂ fp (X.pn++pins)) [] (some x::σ) H7 { s5 with heap:=h' }:=J9.turned (t':=s5.toks) (it:=Dd) (fun b o' hb e'=>(hs'.2 b hb).trans e') hpD7.2.1 hDC (.inr hD) (fun x' k'' e' z=>by
      rcases z3a scope.names [] (PySem.mem_of_lookup e') with q | q
      ·simp at q
      ·obtain⟨v',o',ho',_⟩:=I.cell x' k'' q
       exact(below k'' (Heap.lt_size ho')).2 z) (fun p hp' z=>by
      rcases List.mem_append.mp hp' with q | q
      ·obtain⟨h1',_⟩:=I.pin p q
       exact(below p.1 (Heap.lt_size h1')).2 z
      ·simp at q)
     have J11:Inv (z0v X y scope C s₂ H₂ fp (X.pn++pins)) [(Dd,{ cls:=.type "list",dict:=none,data:=.seq (its++[u7]).toArray k' })] (some x::σ) H7 { s5 with heap:=h' }:=J10.pins_of fun p hp'=>by
      have e':p=(Dd,{ cls:=.type "list",dict:=none,data:=.seq (its++[u7]).toArray k' }):=by simpa using hp'
      subst e'
      exact⟨hk',hpD7.2.1,hDC,hpD7.2.2.2.1,fun v z=>nomatch z⟩
     refine⟨items.length-(i+1),sb1 en hlt,i+1,H7,some x,xs++[v7],its++[u7],acc++[e],k',rfl,hlt,J11,S'.trans S7,fr7,T.keep _ _ _ tn7 fun b hb o' e'=>(hs'.2 b (below b (ho b hb)).2).trans e',rv.append (.cons r7 .nil),by rw[List.length_append,List.length_singleton];exact Nat.succ_le_succ hal,(ia.same (z2i S7)).append (IsAll.cons iv7 IsAll.nil),etot⟩
  ·have hi':i=items.length:=Nat.le_antisymm hi (Nat.le_of_not_lt hlt)
   subst hi'
   refine thn (T.done (z0v X y scope C s₂ H₂ fp (X.pn++pins)) rfl rfl rfl hcalm _ _ s' _ H' (fun _ _=>False) J' (fpY fr') tn' jstop) fun r s1 ⟨hr,J1⟩=>?_
   subst hr
   have hpD1:=J1.pin (Dd,{ cls:=.type "list",dict:=none,data:=.seq its.toArray k }) (List.mem_append_right _ (by simp))
   rw[List.drop_length] at eg
   have:acc=total:=by unfold z1g at eg;cases eg;rfl
   subst this
   obtain⟨mC,hnC,_⟩:=J1.loc
   exact hR Dd C xs H' mC s1 hC hDC (I.hok.fresh hD) hpD1.2.1 J1.free hD S' ia (y3m I J1 hD hpD1.2.1 hpD1.1 rv (Nat.le_trans hxl hsl) hf) hnC
 have L0:∀tk,L items.length { s₂ with heap:=h₁,toks:=tk }:=fun tk=>⟨0,H₂,none,[],[],[],_,rfl,Nat.zero_le _,J0 tk,.refl _,fun b hb=>(hf b hb).1,t1,.nil,Nat.le_refl _,IsAll.nil,by rw[List.drop_zero];exact ht⟩
 exact codeAny_compStart_list (loop _ (L0 _)) (T.self _ 0 _ _ _ t1 (loop _ (L0 _)))
theorem z3p{elt iter:Expr}{px pos:Pos}{ifs:List Expr}{f:D->G->R (Option D)}{gi:G->R (List D)}(hi:PIC X (.Name y px) iter gi)(hp:PC1 X y scope ifs elt f)(hN:X.N.Nodup)(hcalm:X.calm=true)
 (chk:y0k X.N X.env y scope=true:=by rfl) (hclos:closureFor scope X.env=pure (capt X.env scope.names []):=by rfl) (hs:∀x,foldedSetIterable iter X.env x=pure x:=by intro _;rfl) :
 PF X (.ListComp elt [⟨.Name y px,iter,ifs,0⟩] scope pos) (z3m gi f):=by
 refine⟨fun pins s σ H F Γ I fo rl hg=>?_⟩
 have c:=y0i chk
 rw[eval_ListComp]
 refine wpAny_comprehension_free (use:=none) rfl hs hclos c.kind c.names (wpAny_mono (hi.run pins s σ H F Γ I fo rl (R.left hg)) (fun xv s₁ h₁=>wpAny_mono h₁ (fun itv s₂ h₂=>?_) fun _ _ x=>x.bind _) fun _ _ x=>x.bind _)
 obtain⟨items,it,fp,tn,J,H₂,e1,rfl,I2,S2,T,t0,fk,jc⟩:=h₂
 have hgx:=R.next hg e1
 obtain⟨hl,e2⟩:=R.guard_ne hgx
 have hne:z1g (fun d=>f d Γ) items [] ≠ .no:=by
  have:=R.next hg e1
  rw[e2] at this;exact this
 obtain⟨total,et⟩:=z6r hne
 refine y3n (RR:=fun acc C=>compPost (model X.prog X.w) X.A _ none _ acc C) hp c hN hcalm I2 (fo.same S2) (rl.same S2) T t0 fk jc et hl ?_
 intro Dd C xs H' m s' hC hDC hn hn' hnC hD S' ia I' hnsC
 refine⟨m,hnsC,fun h'' hs''=>?_⟩
 have nlt:∀{b:Addr} {o:Obj},s₂.heap.get? b=some o->b≠C:=fun e=>Nat.ne_of_lt (Nat.lt_of_lt_of_le (Heap.lt_size e) hC)
 have I'':Inv X pins σ (upd H' Dd (.lst xs)) { s' with heap:=h'' }:=I'.turned (t':=s'.toks) (it:=C) (fun b o hb e=>hs''.extBut b o hb e) (by rw[z0q (Ne.symm hDC)];exact hnC) (Nat.ne_of_gt (Nat.lt_of_lt_of_le I2.lt hC)) (.inr (Nat.le_trans I2.sz hC))
  (fun x k e=>by obtain⟨v,o,ho,_⟩:=I2.cell x k e;exact nlt ho) (fun p hp'=>nlt (I2.pin p hp').1)
 have S3:=z1v hn' (.lst xs)
 refine⟨total,Dd,xs,_,(R.step e1 _).trans (e2.trans et),I'',rfl,(S2.trans S').trans S3,S2.free hn,z0u,ia.same fun b o hb=>?_⟩
 obtain⟨z1,z2⟩:=z3g hb
 have hbl:b≠Dd:=z0s z2 hn'
 rw[z2r fun z=>(List.mem_cons.mp z).elim hbl z1,z0q hbl]
 exact z2
end
noncomputable def NxP(X:Cx)(pins:List (Addr×Obj))(H:Hp)(F:List Addr)(Γ:G)(s':Shared):Prop:=∃σ' H' F',Inv X pins σ' H' s'/\FOk H' F'/\Rel X.K H' F' Γ σ'/\Ext H F H' F'
noncomputable def RtP(X:Cx)(pins:List (Addr×Obj))(H:Hp)(F:List Addr)(r:R Fl)(u:Value)(s':Shared):Prop:=∃v σ' H' F',Inv X pins σ' H' s'/\RelV v u/\Ext H F H' F' /\
 ((∃d,r = .ok (.rt d)/\Is X.K H' d v)∨∃ds a xs,r = .ok (.rtF ds)/\v = .ref a/\(a∈F∨H a=none)/\H' a=some (.lst xs)/\IsAll X.K H' ds xs)
theorem RtP.map{X:Cx}{pins pins':List (Addr×Obj)}{H H1:Hp}{F F1:List Addr}{r r':R Fl}{u:Value}{s':Shared}(h:RtP X pins H1 F1 r u s')(E:Ext H F H1 F1)(hI:∀σ' H',Inv X pins σ' H' s'->Inv X pins' σ' H' s')
 (h1:∀d,r = .ok (.rt d)->r' = .ok (.rt d)) (h2:∀ds,r = .ok (.rtF ds)->r' = .ok (.rtF ds)):RtP X pins' H F r' u s':=by
 obtain⟨v,σ',H',F',I,rv,E',q⟩:=h
 refine⟨v,σ',H',F',hI _ _ I,rv,E.trans E',?_⟩
 rcases q with ⟨d,e,i⟩ | ⟨ds,a,xs,e,ev,hn,ha,i⟩
 ·exact .inl ⟨d,h1 d e,i⟩
 ·refine .inr ⟨ds,a,xs,h2 ds e,ev,?_,ha,i⟩
  rcases hn with z | z
  ·exact E.old a z
  ·by_cases c:a∈F
   ·exact .inl c
   ·refine .inr ?_
    cases q:H a with
    | none=>rfl
    | some o=>rw[E.keep a o c q] at z;cases z
noncomputable def FlP(X:Cx)(pins:List (Addr×Obj))(H:Hp)(F:List Addr)(r:R Fl)(fl:Flow)(s':Shared):Prop:=match fl with
 | .next=>∃Γ',r = .ok (.nx Γ')/\NxP X pins H F Γ' s'
 | .brk=>∃Γ',r = .ok (.bk Γ')/\NxP X pins H F Γ' s'
 | .cont=>∃Γ',r = .ok (.ct Γ')/\NxP X pins H F Γ' s'
 | .ret u=>RtP X pins H F r u s'
noncomputable def FlX(X:Cx)(pins:List (Addr×Obj))(H:Hp)(F:List Addr)(r:R Fl)(x:Value)(s':Shared):Prop:=∃c Γ' σ' H' F',r = .ok (.ex c Γ')/\y0n X pins σ' H' c x s'/\FOk H' F'/\Rel X.K H' F' Γ' σ'/\Ext H F H' F'
structure PQ (X:Cx) (st:Stmt) (g:G->R Fl):Prop where
 run:∀(pins:List (Addr×Obj)) (s:Shared) (σ:St) (H:Hp) (F:List Addr) (Γ:G),Inv X pins σ H s->FOk H F->Rel X.K H F Γ σ->g Γ ≠ .no ->
  wpAny (model X.prog X.w) X.A (exec st X.env) (FlP X pins H F (g Γ)) (FlX X pins H F (g Γ)) s
structure PQs (X:Cx) (st:List Stmt) (g:G->R Fl):Prop where
 run:∀(pins:List (Addr×Obj)) (s:Shared) (σ:St) (H:Hp) (F:List Addr) (Γ:G),Inv X pins σ H s->FOk H F->Rel X.K H F Γ σ->g Γ ≠ .no ->
  wpAny (model X.prog X.w) X.A (execs st X.env) (FlP X pins H F (g Γ)) (FlX X pins H F (g Γ)) s
theorem FlP.later{X:Cx}{pins:List (Addr×Obj)}{H H1:Hp}{F F1:List Addr}{r:R Fl}{fl:Flow}{s':Shared}(E:Ext H F H1 F1)(h:FlP X pins H1 F1 r fl s'):FlP X pins H F r fl s':=by
 cases fl with
 | next=>obtain⟨Γ',e,σ',H',F',h1,h2,h3,h4⟩:=h;exact⟨Γ',e,σ',H',F',h1,h2,h3,E.trans h4⟩
 | brk=>obtain⟨Γ',e,σ',H',F',h1,h2,h3,h4⟩:=h;exact⟨Γ',e,σ',H',F',h1,h2,h3,E.trans h4⟩
 | cont=>obtain⟨Γ',e,σ',H',F',h1,h2,h3,h4⟩:=h;exact⟨Γ',e,σ',H',F',h1,h2,h3,E.trans h4⟩
 | ret u=>exact RtP.map h E (fun _ _ I=>I) (fun _ e=>e) fun _ e=>e
theorem FlX.later{X:Cx}{pins:List (Addr×Obj)}{H H1:Hp}{F F1:List Addr}{r:R Fl}{x:Value}{s':Shared}(E:Ext H F H1 F1)(h:FlX X pins H1 F1 r x s'):FlX X pins H F r x s':=by
 obtain⟨c,Γ',σ',H',F',e,h1,h2,h3,h4⟩:=h
 exact⟨c,Γ',σ',H',F',e,h1,h2,h3,E.trans h4⟩
theorem z1h.lift{α:Type}{X:Cx}{pins:List (Addr×Obj)}{σ:St}{H:Hp}{F:List Addr}{Γ:G}{r:R α}{x:Value}{s':Shared}(fo:FOk H F)(rl:Rel X.K H F Γ σ)(h:z1h X pins σ H r x s')(k:α->R Fl):FlX X pins H F (lift r Γ k) x s':=by
 obtain⟨c,H',e,S,fl⟩:=h
 exact⟨c,Γ,σ,H',F,by rw[e];rfl,fl,fo.same S,rl.same S,.of_same S⟩
theorem Rel.set_ro{K:PySem.W.Frag}{H:Hp}{F:List Addr}{Γ:G}{σ:St}{i:Nat}{d:D}{v:V}(r:Rel K H F Γ σ)(iv:Is K (hid F H) d v):Rel K H F (Γ.set i (.ro d)) (σ.set i (some v)) where
 len:=by rw[List.length_set,List.length_set,r.len]
 ro:=fun j d' h=>by
  by_cases e:i=j
  ·subst e
   by_cases hi:i<Γ.length
   ·rw[List.getElem?_set_self hi] at h;cases h
    exact⟨v,List.getElem?_set_self (by rw[<-r.len];exact hi),iv⟩
   ·rw[List.getElem?_eq_none (by rw[List.length_set];lia)] at h;cases h
  ·rw[List.getElem?_set_ne e] at h
   rw[List.getElem?_set_ne e]
   exact r.ro j d' h
 own:=fun j ds h=>by
  by_cases e:i=j
  ·subst e
   by_cases hi:i<Γ.length
   ·rw[List.getElem?_set_self hi] at h;cases h
   ·rw[List.getElem?_eq_none (by rw[List.length_set];lia)] at h;cases h
  ·rw[List.getElem?_set_ne e] at h
   rw[List.getElem?_set_ne e]
   exact r.own j ds h
 inj:=fun j k ds es a h1 h2 h3 h4=>by
  by_cases ej:i=j
  ·subst ej
   by_cases hi:i<Γ.length
   ·rw[List.getElem?_set_self hi] at h1;cases h1
   ·rw[List.getElem?_eq_none (by rw[List.length_set];lia)] at h1;cases h1
  ·by_cases ek:i=k
   ·subst ek
    by_cases hi:i<Γ.length
    ·rw[List.getElem?_set_self hi] at h2;cases h2
    ·rw[List.getElem?_eq_none (by rw[List.length_set];lia)] at h2;cases h2
   ·rw[List.getElem?_set_ne ej] at h1 h3
    rw[List.getElem?_set_ne ek] at h2 h4
    exact r.inj j k ds es a h1 h2 h3 h4
theorem Rel.set_own{K:PySem.W.Frag}{H H':Hp}{F:List Addr}{Γ:G}{σ:St}{i:Nat}{ds:List D}{xs:List V}{a:Addr}(r:Rel K H F Γ σ)(fo:FOk H F)(S:Same H H')(hn:H a=none)(ha:H' a=some (.lst xs))(iv:IsAll K (hid (a::F) H') ds xs):Rel K H' (a::F) (Γ.set i (.own ds)) (σ.set i (some (.ref a))) where
 len:=by rw[List.length_set,List.length_set,r.len]
 ro:=fun j d' h=>by
  by_cases e:i=j
  ·subst e
   by_cases hi:i<Γ.length
   ·rw[List.getElem?_set_self hi] at h;cases h
   ·rw[List.getElem?_eq_none (by rw[List.length_set];lia)] at h;cases h
  ·rw[List.getElem?_set_ne e] at h
   rw[List.getElem?_set_ne e]
   obtain⟨v,h1,h2⟩:=r.ro j d' h
   exact⟨v,h1,h2.same (y9h S hn)⟩
 own:=fun j ds' h=>by
  by_cases e:i=j
  ·subst e
   by_cases hi:i<Γ.length
   ·rw[List.getElem?_set_self hi] at h;cases h
    exact⟨a,xs,List.getElem?_set_self (by rw[<-r.len];exact hi),List.mem_cons_self,ha,iv⟩
   ·rw[List.getElem?_eq_none (by rw[List.length_set];lia)] at h;cases h
  ·rw[List.getElem?_set_ne e] at h
   rw[List.getElem?_set_ne e]
   obtain⟨b,ys,h1,h2,h3,h4⟩:=r.own j ds' h
   exact⟨b,ys,h1,List.mem_cons_of_mem _ h2,S _ _ h3,h4.same (y9h S hn)⟩
 inj:=fun j k ds' es b h1 h2 h3 h4=>by
  have nF:∀(l:Nat) (es':List D),i≠l->Γ[l]? = some (.own es')->σ[l]? ≠ some (some (.ref a)):=fun l es' _ h z=>by
   obtain⟨b',ys,q1,q2,q3,_⟩:=r.own l es' h
   rw[z] at q1;cases q1
   rw[hn] at q3;cases q3
  by_cases ej:i=j
  ·by_cases ek:i=k
   ·rw[<-ej,<-ek]
   ·exfalso
    subst ej
    have hi:i<σ.length:=by
     by_cases hi:i<σ.length
     ·exact hi
     ·rw[List.getElem?_eq_none (by rw[List.length_set];lia)] at h3;cases h3
    rw[List.getElem?_set_self hi] at h3;cases h3
    rw[List.getElem?_set_ne ek] at h2 h4
    exact nF k es ek h2 h4
  ·by_cases ek:i=k
   ·exfalso
    subst ek
    have hi:i<σ.length:=by
     by_cases hi:i<σ.length
     ·exact hi
     ·rw[List.getElem?_eq_none (by rw[List.length_set];lia)] at h4;cases h4
    rw[List.getElem?_set_self hi] at h4;cases h4
    rw[List.getElem?_set_ne ej] at h1 h3
    exact nF j ds' ej h1 h3
   ·rw[List.getElem?_set_ne ej] at h1 h3
    rw[List.getElem?_set_ne ek] at h2 h4
    exact r.inj j k ds' es b h1 h2 h3 h4
theorem Rel.put{K:PySem.W.Frag}{H:Hp}{F:List Addr}{Γ:G}{σ:St}{i:Nat}{ds ds':List D}{xs':List V}{a:Addr}(r:Rel K H F Γ σ)(e:Γ[i]? = some (.own ds))(ea:σ[i]? = some (some (.ref a)))(iv:IsAll K (hid F H) ds' xs'):Rel K (upd H a (.lst xs')) F (Γ.set i (.own ds')) σ/\a∈F:=by
 obtain⟨a',xs,h1,hF,h3,h4⟩:=r.own i ds e
 rw[ea] at h1;cases h1
 have hh:hid F (upd H a (.lst xs'))=hid F H:=by
  funext b
  by_cases hb:b∈F
  ·rw[x2p hb,x2p hb]
  ·rw[z2r hb,z2r hb,z0q (fun z=>hb (by rw[z];exact hF))]
 have hi:i<Γ.length:=(List.getElem?_eq_some_iff.mp e).1
 refine⟨⟨by rw[List.length_set,r.len],fun j d' h=>?_,fun j es h=>?_,fun j k es1 es2 b h1 h2 h3' h4'=>?_⟩,hF⟩
 ·by_cases ej:i=j
  ·subst ej;rw[List.getElem?_set_self hi] at h;cases h
  ·rw[List.getElem?_set_ne ej] at h
   rw[hh];exact r.ro j d' h
 ·by_cases ej:i=j
  ·subst ej;rw[List.getElem?_set_self hi] at h;cases h
   exact⟨a,xs',ea,hF,z0u,by rw[hh];exact iv⟩
  ·rw[List.getElem?_set_ne ej] at h
   obtain⟨b,ys,q1,q2,q3,q4⟩:=r.own j es h
   refine⟨b,ys,q1,q2,?_,by rw[hh];exact q4⟩
   rw[z0q (fun z=>ej (r.inj i j ds es a e h ea (by rw[<-z];exact q1)))];exact q3
 ·have old:∀(l:Nat) (es':List D),(Γ.set i (En.own ds'))[l]? = some (En.own es')->∃es0,Γ[l]? = some (En.own es0):=fun l es' h=>by
   by_cases el:i=l
   ·subst el;exact⟨ds,e⟩
   ·rw[List.getElem?_set_ne el] at h;exact⟨es',h⟩
  obtain⟨e1,q1⟩:=old j es1 h1
  obtain⟨e2,q2⟩:=old k es2 h2
  exact r.inj j k e1 e2 b q1 q2 h3' h4'
section
variable {X:Cx}{st:Stmt}{rest:List Stmt}{t u:G->R Fl}{e a b c:Expr}{g ga gb:G->R D}{pos p pos':Pos}
theorem z1o:PQs X [] z2l:=⟨fun pins s σ H F Γ I fo rl _=>wpAny_execs_nil ⟨Γ,rfl,σ,H,F,I,fo,rl,.refl⟩⟩
theorem z0f(h1:PQ X st t)(h2:PQs X rest u):PQs X (st::rest) (gSt t u):=by
 refine⟨fun pins s σ H F Γ I fo rl hg=>?_⟩
 refine wpAny_execs_cons (wpAny_mono (h1.run pins s σ H F Γ I fo rl (R.left hg)) (fun fl s1 q=>?_) fun x s1 q=>?_)
 ·cases fl with
  | next =>
    obtain⟨Γ',e,σ',H',F',I',fo',rl',E⟩:=q
    have e2:gSt t u Γ=u Γ':=R.step e _
    rw[e2] at hg ⊢
    exact wpAny_mono (h2.run pins s1 σ' H' F' Γ' I' fo' rl' hg) (fun _ _ q=>q.later E) fun _ _ q=>q.later E
  | ret v=>exact RtP.map q .refl (fun _ _ I=>I) (fun _ e=>R.step e _) fun _ e=>R.step e _
  | brk=>obtain⟨Γ',e,r⟩:=q;exact⟨Γ',R.step e _,r⟩
  | cont=>obtain⟨Γ',e,r⟩:=q;exact⟨Γ',R.step e _,r⟩
 ·obtain⟨c,Γ',σ',H',F',e,r⟩:=q
  exact⟨c,Γ',σ',H',F',R.step e _,r⟩
theorem z0g(h1:PQ X st t):PQs X [st] t:=by
 refine⟨fun pins s σ H F Γ I fo rl hg=>?_⟩
 refine wpAny_execs_cons (thn (h1.run pins s σ H F Γ I fo rl hg) fun fl s1 q=>?_)
 cases fl with
 | next=>exact wpAny_execs_nil q
 | ret v=>exact q
 | brk=>exact q
 | cont=>exact q
theorem z0o(he:PD X e g):PQ X (.Return (some e) pos) (gRet g):=⟨fun pins s σ H F Γ I fo rl hg =>
 wpAny_Return_some (wpAny_mono (he.run pins s σ H F Γ I fo rl (z2c hg)) (fun u s1 ⟨d,v,H',e1,I',rv,S,i⟩=>⟨v,σ,H',F,I',rv,.of_same S,.inl ⟨d,z3r e1,i⟩⟩) fun _ _ x=>x.lift fo rl _)⟩
theorem y8h{g:G->R (List D)}(he:PF X e g):PQ X (.Return (some e) pos) (z7y g):=⟨fun pins s σ H F Γ I fo rl hg =>
 wpAny_Return_some (wpAny_mono (he.run pins s σ H F Γ I fo rl (z2c hg)) (fun u s1 ⟨ds,a,xs,H',e1,I',eu,S,hn,ha,i⟩=>⟨.ref a,σ,H',F,I',eu,.of_same S,.inr ⟨ds,a,xs,z3r e1,rfl,.inr hn,ha,i.same z3s⟩⟩) fun _ _ x=>x.lift fo rl _)⟩
theorem x3i(i:Nat){x:Str}{p:Pos}(hN:X.N[i]? = some x:=by rfl)(hv:Vis X.env.scope x:=by first | exact Or.inl rfl | exact Or.inr (Or.inl rfl) | exact Or.inr (Or.inr rfl))(hd:(x==("__debug__":Str))=false:=by decide)
 (hcd:(x==("__classdict__":Str))=false:=by decide):PQ X (.Return (some (.Name x p)) pos) (y0b i):=by
 refine⟨fun pins s σ H F Γ I fo rl hg=>?_⟩
 unfold y0b at hg ⊢
 cases q:Γ[i]? with
 | none=>rw[q] at hg;exact absurd rfl hg
 | some en =>
   cases en with
   | own ds =>
     obtain⟨a,xs,h1,h2,h3,h4⟩:=rl.own i ds q
     refine wpAny_Return_some (wpAny_mono (y2t (X:=X.nox) hN hv hd hcd pins s σ H (fun v' H'=>v' = .ref a/\H'=H) (I.wish _) ⟨.ref a,h1,rfl,rfl⟩) (fun u s1 ⟨v',H',I',r,e1,e2⟩=>?_) fun _ _ z=>False.elim z)
     subst e1 e2
     exact⟨.ref a,σ,H',F,I'.unwish,r,.refl,.inr ⟨ds,a,xs,rfl,rfl,.inl h2,h3,h4.same z3s⟩⟩
   | _=>rw[q] at hg;exact absurd rfl hg
theorem z4j{cs ds:List Stmt}{gc:G->R Bool}(hc:PTD X c gc)(ha:PQs X cs t)(hb:PQs X ds u):PQ X (.If c cs ds pos) (gIfS gc t u):=by
 refine⟨fun pins s σ H F Γ I fo rl hg=>?_⟩
 refine wpAny_If (wpAny_mono (hc.run pins s σ H F Γ I fo rl (z2c hg)) (fun k s1 ⟨H1,e1,I1,S1⟩=>?_) fun _ _ x=>x.lift fo rl _)
 have e2:gIfS gc t u Γ=if k=true then t Γ else u Γ:=z3r e1
 rw[e2] at hg ⊢
 cases k with
 | true=>exact wpAny_mono (ha.run pins s1 σ H1 F Γ I1 (fo.same S1) (rl.same S1) hg) (fun _ _ q=>q.later (.of_same S1)) fun _ _ q=>q.later (.of_same S1)
 | false=>exact wpAny_mono (hb.run pins s1 σ H1 F Γ I1 (fo.same S1) (rl.same S1) hg) (fun _ _ q=>q.later (.of_same S1)) fun _ _ q=>q.later (.of_same S1)
theorem z0y(i:Nat){x:Str}(he:PDr X e g)(hN:X.N.Nodup)(hi:X.N[i]? = some x:=by rfl)(hx:Loc X.env.scope x:=by first | exact Or.inl rfl | exact Or.inr rfl)(hs:swapsWith e (some (.Name x pos')) pos.line X.env=pure false:=by rfl)(hf:X.fn x=true∨X.env.scope.names.lookup x=some .local:=by first | exact .inl rfl | exact .inr rfl | assumption) :
 PQ X (.Assign [.Name x pos'] e pos) (gSet i g):=by
 refine⟨fun pins s σ H F Γ I fo rl hg=>?_⟩
 refine wpAny_Assign_Name (wpAny_mono (he.run pins s σ H F Γ I fo rl (z2c hg)) (fun v s1 ⟨d,y,H1,e1,I1,r1,S1,i1⟩=>?_) fun _ _ x=>x.lift fo rl _) hs
 exact y1l I1 hN hi hx r1 (fun s2 I2=>⟨_,z3r e1,_,H1,F,I2,fo.same S1,(rl.same S1).set_ro i1,.of_same S1⟩) hf
theorem z6g(i:Nat){x:Str}{g:G->R (List D)}(he:PF X e g)(hN:X.N.Nodup)(hi:X.N[i]? = some x:=by rfl)(hx:Loc X.env.scope x:=by first | exact Or.inl rfl | exact Or.inr rfl)(hs:swapsWith e (some (.Name x pos')) pos.line X.env=pure false:=by rfl)(hf:X.fn x=true∨X.env.scope.names.lookup x=some .local:=by first | exact .inl rfl | exact .inr rfl | assumption) :
 PQ X (.Assign [.Name x pos'] e pos) (z4r i g):=by
 refine⟨fun pins s σ H F Γ I fo rl hg=>?_⟩
 refine wpAny_Assign_Name (wpAny_mono (he.run pins s σ H F Γ I fo rl (z2c hg)) (fun v s1 ⟨ds,a,xs,H1,e1,I1,eu,S1,hn,ha,i1⟩=>?_) fun _ _ x=>x.lift fo rl _) hs
 subst eu
 exact y1l (v:=.ref a) I1 hN hi hx rfl (fun s2 I2=>⟨_,z3r e1,_,H1,a::F,I2,(fo.same S1).cons ha,rl.set_own fo S1 hn ha i1,⟨fun b o _ h=>S1 _ _ h,fun b hb=>(List.mem_cons.mp hb).elim (fun z=>.inr (z ▸ hn)) .inl⟩⟩) hf
theorem y6p(i:Nat){x y:Str}{elt iter:Expr}{px:Pos}{ifs:List Expr}{scope:Scope}{f:D->G->R (Option D)}{gi:G->R (List D)}(hi':PIC X (.Name y px) iter gi)(hp:PC1 X y scope ifs elt f)(hN:X.N.Nodup)(hcalm:X.calm=true)(hi:X.N[i]? = some x:=by rfl)(hx:Loc X.env.scope x:=by first | exact Or.inl rfl | exact Or.inr rfl)
 (hsw:swapsWith (.ListComp elt [⟨.Name y px,iter,ifs,0⟩] scope p) (some (.Name x pos')) pos.line X.env=pure true:=by rfl) (hf:X.fn x=true∨X.env.scope.names.lookup x=some .local:=by first | exact .inl rfl | exact .inr rfl | assumption)
 (chk:y0k X.N X.env y scope=true:=by rfl) (hclos:closureFor scope X.env=pure (capt X.env scope.names []):=by rfl) (hs:∀x,foldedSetIterable iter X.env x=pure x:=by intro _;rfl) :
 PQ X (.Assign [.Name x pos'] (.ListComp elt [⟨.Name y px,iter,ifs,0⟩] scope p) pos) (z4r i (z3m gi f)):=by
 refine⟨fun pins s σ H F Γ I fo rl hg=>?_⟩
 have c:=y0i chk
 rw[exec_Assign_Name_used _ _ _ _ hsw]
 refine wpAny_bind (wpAny_standAt (wpAny_bind ?_))
 show wpAny _ X.A (do let _ <-comprehension (.ListComp elt [⟨.Name y px,iter,ifs,0⟩] scope p) scope X.env _ (newList []) false (eval iter X.env) (some (assign (.Name x pos') X.env))) _ _ s
 have hg0:=z2c hg
 refine wpAny_bind (wpAny_mono (wpAny_comprehension_free (use:=some (assign (.Name x pos') X.env)) (Q:=fun _ s'=>FlP X pins H F (z4r i (z3m gi f) Γ) .next s') rfl hs hclos c.kind c.names
  (wpAny_mono (hi'.run pins s σ H F Γ I fo rl (R.left hg0)) (fun xv s₁ h₁=>wpAny_mono h₁ (fun itv s₂ h₂=>?_) fun _ _ x=>(x.bind _).lift fo rl _) fun _ _ x=>(x.bind _).lift fo rl _)) (fun _ s' hq=>wpAny_pure (wpAny_pure hq)) fun _ _ e=>e)
 obtain⟨items,it,fp,tn,J,H₂,e1,rfl,I2,S2,T,t0,fk,jc⟩:=h₂
 have hgx:=R.next hg0 e1
 obtain⟨hl,e2⟩:=R.guard_ne hgx
 have hne:z1g (fun d=>f d Γ) items [] ≠ .no:=by
  have:=R.next hg0 e1
  rw[e2] at this;exact this
 obtain⟨total,et⟩:=z6r hne
 have eT:z3m gi f Γ = .ok total:=(R.step e1 _).trans (e2.trans et)
 refine y3n (RR:=fun acc C=>compPost (model X.prog X.w) X.A _ (some (assign (.Name x pos') X.env)) _ acc C) hp c hN hcalm I2 (fo.same S2) (rl.same S2) T t0 fk jc et hl ?_
 intro Dd C xs H' m s' hC hDC hn hn' hnC hD S' ia I' hnsC
 have nlt:∀{b:Addr} {o:Obj},s₂.heap.get? b=some o->b≠C:=fun e=>Nat.ne_of_lt (Nat.lt_of_lt_of_le (Heap.lt_size e) hC)
 have S3:=z1v hn' (.lst xs)
 have hall:Same H (upd H' Dd (.lst xs)):=(S2.trans S').trans S3
 have hH:H Dd=none:=S2.free hn
 have ia':IsAll X.K (hid (Dd::F) (upd H' Dd (.lst xs))) total xs:=ia.same fun b o hb=>by
  obtain⟨z1,z2⟩:=z3g hb
  have hbl:b≠Dd:=z0s z2 hn'
  rw[z2r fun z=>(List.mem_cons.mp z).elim hbl z1,z0q hbl]
  exact z2
 show wpAny _ X.A (assign (.Name x pos') X.env (.ref Dd)) _ _ s'
 refine wpAny_assign_Name (y2m (v:=.ref Dd) I' hN hi hx rfl (fun s3 I3 hsb=>?_) hf)
 obtain⟨aa,hsb,haa⟩:=hsb
 have haC:aa≠C:=by
  rcases haa with z | z
  ·subst z;exact Nat.ne_of_lt (Nat.lt_of_lt_of_le I2.lt hC)
  ·obtain⟨v,o,ho,_⟩:=I2.cell x aa z;exact nlt ho
 refine⟨m,hnsC.sameBut hsb (Ne.symm haC),fun h'' hs''=>?_⟩
 have I4:Inv X pins (σ.set i (some (.ref Dd))) (upd H' Dd (.lst xs)) { s3 with heap:=h'' }:=I3.turned (t':=s3.toks) (it:=C) (fun b o hb e=>hs''.extBut b o hb e) (by rw[z0q (Ne.symm hDC)];exact hnC) (Nat.ne_of_gt (Nat.lt_of_lt_of_le I2.lt hC)) (.inr (Nat.le_trans I2.sz hC))
  (fun x k e=>by obtain⟨v,o,ho,_⟩:=I2.cell x k e;exact nlt ho) (fun p hp'=>nlt (I2.pin p hp').1)
 exact⟨_,z3r eT,_,_,Dd::F,I4,(fo.same hall).cons z0u,rl.set_own fo hall hH z0u ia',⟨fun b o _ h=>hall _ _ h,fun b hb=>(List.mem_cons.mp hb).elim (fun z=>.inr (z ▸ hH)) .inl⟩⟩
theorem z7s(i:Nat){x:Str}{apos cpos:Pos}(he:PDr X e g)(hN:X.N[i]? = some x:=by rfl)(hv:Vis X.env.scope x:=by first | exact Or.inl rfl | exact Or.inr (Or.inl rfl) | exact Or.inr (Or.inr rfl))(hd:(x==("__debug__":Str))=false:=by decide)(hcd:(x==("__classdict__":Str))=false:=by decide)
 (hsw:swapsWith (.Call (.Attribute (.Name x p) "append" apos) [e] [] cpos) none pos.line X.env=pure false:=by rfl)
 (hbase:attributeBase (.Name x p) "append" X.env (eval (.Name x p) X.env)=eval (.Name x p) X.env:=by rfl)
 (hfew:((backTo cpos (starEach [e] X.env)).all (fun x=>!x.1)&&(backToKw cpos (keywordEach [] X.env)).all (fun x=>x.1.isSome)
   && decide ([e].length+([]:List Keyword).length+(if ([]:List Keyword).isEmpty then 0 else 1)<30))=true:=by rfl)
 (hline:(apos.endLine==cpos.line)=true:=by rfl) (hs:starEach [e] X.env=(false,eval e X.env)::starEach [] X.env:=by rfl) :
 PQ X (.Expr (.Call (.Attribute (.Name x p) "append" apos) [e] [] cpos) pos) (gApp i g):=by
 refine⟨fun pins s σ H F Γ I fo rl hg=>?_⟩
 refine wpAny_Expr_any ?_ I.quiet hsw
 have hown:∃ds,Γ[i]? = some (.own ds):=by
  unfold gApp at hg
  split at hg
  ·rename_i ds e1;exact⟨ds,e1⟩
  ·exact absurd rfl hg
 obtain⟨ds,eo⟩:=hown
 have egA:gApp i g Γ=lift (g Γ) Γ fun d=>R.guard (ds.length<=100000) (.ok (.nx (Γ.set i (.own (ds++[d]))))):=by unfold gApp;rw[eo]
 rw[egA] at hg ⊢
 obtain⟨a',xs,h1,hF,h3,h4⟩:=rl.own i ds eo
 refine wpAny_Call_method_late hbase hfew hline rfl (wpAny_mono (y2t (X:=X.nox) hN hv hd hcd pins s σ H (fun v' H'=>v' = .ref a'/\H'=H) (I.wish _) ⟨.ref a',h1,rfl,rfl⟩) (fun v s1 ⟨v',H',I1,r1,e1,e2⟩=>?_) fun _ _ z=>False.elim z)
 subst e1 e2
 have I1':=I1.unwish
 obtain⟨t1,t2⟩:=x5b (T:="list") I1' r1 (.inl ⟨rfl,xs,SqL.of h3⟩)
 refine⟨"list",_,PySem.F.plainAttrs_list,PySem.F.slot_list_append,PySem.F.type_list_append,t1,t2,?_⟩
 rw[hs]
 refine Calls.callWith_builtin rfl (Calls.evalArgs_plain ?_)
 show wpAny _ _ (spliced ((false,eval e X.env)::backTo cpos [])) _ _ s1
 refine Calls.spliced_cons (wpAny_mono (he.run pins s1 σ H' F Γ I1' fo rl (z2c hg)) (fun u s2 ⟨d,y,H2,e3,I2,r2,S2,i2⟩=>Calls.spliced_nil ?_) fun _ _ x=>x.lift fo rl _)
 have hgx:=z7w hg e3
 obtain⟨hl,e4⟩:=R.guard_ne hgx
 have hx2:=S2 _ _ h3
 have hsl:(100001:Nat)<=sizeLine:=by rw[sizeLine_eq];decide
 have hxl:=h4.length
 refine wpAny_mono (y8u (X:=X.nox) pins s2 σ H2 (.ref a') [y] v [u] (fun z H''=>z = .non/\H''=upd H2 a' (.lst (xs++[y]))) (I2.wish _) r1 (.cons r2 .nil) ⟨a',xs,y,rfl,rfl,hx2,by lia,rfl,rfl⟩) (fun w' s3 ⟨z,H'',I3,rz,ez,eH⟩=>?_) fun _ _ z=>False.elim z
 subst ez eH
 obtain⟨rl',hF'⟩:=(rl.same S2).put eo h1 (xs':=xs++[y]) (ds':=ds++[d]) ((h4.same (z2i S2)).append (IsAll.cons i2 IsAll.nil))
 refine⟨_,(z3r e3).trans e4,σ,_,F,I3.unwish,fun b hb=>?_,rl',⟨fun b o hb h=>?_,fun b hb=>.inl hb⟩⟩
 ·by_cases hba:b=a'
  ·exact⟨xs++[y],by rw[hba];exact z0u⟩
  ·obtain⟨ys,q⟩:=fo b hb
   exact⟨ys,by rw[z0q hba];exact S2 _ _ q⟩
 ·rw[z0q (fun z=>hb (by rw[z];exact hF))];exact S2 _ _ h
theorem y8i(i:Nat){x:Str}{k:Expr}{gk:G->R D}{spos:Pos}(hk:PD X k gk)(he:PDr X e g)(hN:X.N[i]? = some x:=by rfl)(hv:Vis X.env.scope x:=by first | exact Or.inl rfl | exact Or.inr (Or.inl rfl) | exact Or.inr (Or.inr rfl))(hd:(x==("__debug__":Str))=false:=by decide)(hcd:(x==("__classdict__":Str))=false:=by decide)
 (ha:∀v,assign (.Subscript (.Name x p) k spos) X.env v=(do
   let ov <-holding [v] (eval (.Name x p) X.env)
   let iv <-holding [v,ov] (eval k X.env)
   standAt spos
   holding [v,ov,iv] (setItem ov iv v)
   release [v,ov,iv] []):=by intro _;rfl)
 (hs:swapsWithSole [.Subscript (.Name x p) k spos] e pos.line X.env=pure false:=by rfl) (hw:swappedStores [.Subscript (.Name x p) k spos] e X.env=pure none:=by rfl)
 (h1':(assignEach [.Subscript (.Name x p) k spos] X.env).map (·.2)=[assign (.Subscript (.Name x p) k spos) X.env]:=by rfl) :
 PQ X (.Assign [.Subscript (.Name x p) k spos] e pos) (gPut i gk g):=by
 refine⟨fun pins s σ H F Γ I fo rl hg=>?_⟩
 have hown:∃ds,Γ[i]? = some (.own ds):=by
  unfold gPut at hg
  split at hg
  ·rename_i ds e1;exact⟨ds,e1⟩
  ·exact absurd rfl hg
 obtain⟨ds,eo⟩:=hown
 have egA:gPut i gk g Γ=lift (g Γ) Γ fun d=>lift (gk Γ) Γ fun k=>(match k with
  | .int j=>(match ixN ds.length j with | some j'=>.ok (.nx (Γ.set i (.own (ds.set j' d)))) | none=>.no)
  | _=>.no):=by(unfold gPut;rw[eo])<;>rfl
 rw[egA] at hg ⊢
 obtain⟨a',xs,h1,hF,h3,h4⟩:=rl.own i ds eo
 refine wpAny_Assign_stores (wpAny_mono (he.run pins s σ H F Γ I fo rl (z2c hg)) (fun u s1 ⟨d,y,H1,e1,I1,r1,S1,i1⟩=>?_) fun _ _ x=>x.lift fo rl _) hs hw
 have hg1:=z7w hg e1
 rw[h1']
 rw[z3r e1] at hg ⊢
 show wpAny _ _ (assign (.Subscript (.Name x p) k spos) X.env u) _ _ s1
 rw[ha]
 refine wpAny_bind (wpAny_holding (wpAny_mono (y2t (X:=X.nox) hN hv hd hcd pins s1 σ H1 (fun v' H'=>v' = .ref a'/\H'=H1) (I1.wish _) ⟨.ref a',h1,rfl,rfl⟩) (fun v s2 ⟨v',H',I2,r2,e2,e3⟩=>?_) fun _ _ z=>False.elim z))
 subst e2 e3
 refine wpAny_bind (wpAny_holding (wpAny_mono (hk.run pins s2 σ H' F Γ I2.unwish (fo.same S1) (rl.same S1) (z2c hg)) (fun w' s3 ⟨dk,vk,H3,e4,I3,r3,S3,i3⟩=>?_) fun _ _ x=>(x.lift (fo.same S1) (rl.same S1) _).later (.of_same S1)))
 have hg2:=z7w hg e4
 rw[z3r e4] at hg ⊢
 cases dk with
 | int j =>
   cases q:ixN ds.length j with
   | none=>simp only[q] at hg2;exact absurd rfl hg2
   | some j' =>
     have hx3:=S3 _ _ (S1 _ _ h3)
     refine wpAny_bind (wpAny_standAt (wpAny_bind (wpAny_holding (wpAny_mono (x0s (X:=X.nox) pins s3 σ H3 (.ref a') vk y v w' u (fun H''=>H''=upd H3 a' (.lst (xs.set j' y))) (I3.wish _) r2 r3 r1 ⟨a',xs,j,j',rfl,Is.int_iff.mp i3,hx3,by rw[<-h4.length];exact q,rfl⟩) (fun _ s4 ⟨H'',I4,eH⟩=>?_) fun _ _ z=>False.elim z))))
     subst eH
     refine wpAny_release ?_
     have S13:=S1.trans S3
     obtain⟨rl',hF'⟩:=(rl.same S13).put eo h1 (xs':=xs.set j' y) (ds':=ds.set j' d) (IsAll.set (i1.same (z2i S3)) j' (h4.same (z2i S13)))
     refine⟨_,by simp only[q],σ,_,F,I4.unwish,fun b hb=>?_,rl',⟨fun b o hb h=>?_,fun b hb=>.inl hb⟩⟩
     ·by_cases hba:b=a'
      ·exact⟨_,by rw[hba];exact z0u⟩
      ·obtain⟨ys,q'⟩:=fo b hb
       exact⟨ys,by rw[z0q hba];exact S13 _ _ q'⟩
     ·rw[z0q (fun z=>hb (by rw[z];exact hF))];exact S13 _ _ h
 | _=>exact absurd rfl hg2
noncomputable def PO'(X:Cx):Prop:=∀pins H F r,PassesOwn (model X.prog X.w) X.A X.env (FlX X pins H F r)
theorem z9q(i:Nat){x:Str}{px:Pos}{iter:Expr}{body:List Stmt}{gi:G->R (List D)}{gb:G->R Fl}(hp:PO' X)(hcalm:X.calm=true)(hi:PIF X (.Name x px) iter gi)(hb:PQs X body gb)(hN:X.N.Nodup)(hix:X.N[i]? = some x:=by rfl)(hx:Loc X.env.scope x:=by first | exact Or.inl rfl | exact Or.inr rfl)
 (hf:X.fn x=true∨X.env.scope.names.lookup x=some .local:=by first | exact .inl rfl | exact .inr rfl | assumption)
 (hs:∀x,foldedSetIterable iter X.env x=pure x:=by intro _;rfl):PQ X (.For (.Name x px) iter body [] pos) (gFor i gi gb):=by
 refine⟨fun pins s σ H F Γ I fo rl hg=>?_⟩
 refine wpAny_For (wpAny_mono (hi.run pins s σ H F Γ I fo rl (z2c hg)) (fun v s1 h1=>wpAny_mono h1 (fun itv s2 h2=>?_) fun _ _ x=>x.lift fo rl _) fun _ _ x=>x.lift fo rl _) hs
 obtain⟨ds,it,fp,tn,J,H2,e1,rfl,I2,S2,T,t0,fk,jd⟩:=h2
 have eg:gFor i gi gb Γ=z3n gb i ds Γ:=z3r e1
 rw[eg] at hg ⊢
 have hp':=hp pins H F (z3n gb i ds Γ)
 have stat:∀{H':Hp},(∀b∈fp,H' b=none)->∀b∈fp,FpOk X pins H' b:=fun hn b hb=>⟨hn b hb,(fk b hb).2⟩
 refine codeAny_forLoop_any (fun n s'=>∃(j:Nat) (σ':St) (H':Hp) (F':List Addr) (Γ':G),n=ds.length-j/\j<=ds.length/\Inv X pins σ' H' s'/\tn j s'.heap/\(∀b∈fp,H' b=none)/\FOk H' F'/\Rel X.K H' F' Γ' σ'/\Ext H2 F H' F'/\z3n gb i (ds.drop j) Γ'=z3n gb i ds Γ) ?_ ds.length
  ⟨0,σ,H2,F,Γ,by lia,Nat.zero_le _,I2,t0,fun b hb=>(fk b hb).1,fo.same S2,rl.same S2,.refl,by rw[List.drop_zero]⟩
 rintro n s3 ⟨j,σ3,H3,F3,Γ3,en,hj,I3,t3,fr3,fo3,rl3,E3,ev3⟩
 have E03:Ext H F H3 F3:=(Ext.of_same S2).trans E3
 obtain⟨jgo,jstop⟩:=jd H3 fun b o hb h=>E3.keep b o hb h
 by_cases hlt:j<ds.length
 ·obtain⟨go,yl⟩:=jgo j hlt
  refine wpAny_passesOwn hp' (thn (T.item X rfl rfl rfl hcalm j pins s3 σ3 H3 _ I3 (stat fr3) t3 go) fun r s4 ⟨u,hr,h4⟩=>?_)
  subst hr
  refine wpAny_passesOwn hp' (thn h4 fun _ s5 ⟨y,H5,I5,r5,y5,st5,fr5⟩=>?_)
  obtain⟨e5,d,ed,iv⟩:=yl y H5 y5
  subst e5
  have iv':=iv F3 fun b hb=>E3.old b hb
  have hdrop:ds.drop j=d::ds.drop (j+1):=by
   rw[List.drop_eq_getElem_cons hlt]
   have:ds[j]=d:=by
    have:=List.getElem?_eq_getElem hlt
    rw[ed] at this;exact(Option.some.inj this).symm
   rw[this]
  have I5':=I5.pinned (stat fr5) (T.obj _ _ st5)
  have hpg:PG X.nox (.Name x px) (y3k i):=z5v (X:=X.nox) hN hix hx hf
  refine wpAny_passesOwn hp' (wpAny_mono (hpg _ s5 σ3 H5 y u (fun σ' H'=>σ'=σ3.set i (some y)/\H'=H5) (I5'.wish _) r5 ⟨rfl,rfl⟩) (fun _ s6 ⟨σ6,H6,I6,e6,e6'⟩=>?_) fun _ _ z=>False.elim z)
  subst e6 e6'
  have evd:z3n gb i (d::ds.drop (j+1)) Γ3=z3n gb i ds Γ:=by rw[<-hdrop];exact ev3
  have hgb:gb (Γ3.set i (.ro d)) ≠ .no:=fun z=>by
   rw[<-evd] at hg
   unfold z3n at hg
   rw[z] at hg
   exact hg rfl
  have back:∀{s7:Shared} {σ7:St} {H7:Hp},Inv X (pins++z4o fp s5.heap) σ7 H7 s7->Inv X pins σ7 H7 s7/\tn (j+1) s7.heap/\∀b∈fp,H7 b=none:=fun {s7 σ7 H7} I7=>by
   refine⟨I7.unpinned,T.keep _ _ _ st5 fun b hb o e=>(I7.pin (b,o) (List.mem_append_right _ (List.mem_append_right _ (z2b hb e)))).1,fun b hb=>?_⟩
   obtain⟨o,e,dd⟩:=T.obj _ _ st5 b hb
   exact(I7.pin (b,o) (List.mem_append_right _ (List.mem_append_right _ (z2b hb e)))).2.1
  refine wpAny_passesOwn hp' (wpAny_mono (hb.run _ s6 _ H6 F3 _ I6.unwish fo3 (rl3.set_ro iv') hgb) (fun f s7 q7=>?_) fun x7 s7 q7=>?_)
  ·cases f with
   | next =>
     obtain⟨Γ7,e7,σ7,H7,F7,I7,fo7,rl7,E7⟩:=q7
     obtain⟨b1,b2,b3⟩:=back I7
     refine⟨ds.length-(j+1),by lia,j+1,σ7,H7,F7,Γ7,rfl,hlt,b1,b2,b3,fo7,rl7,E3.trans E7,?_⟩
     rw[<-evd]
     conv=>rhs;unfold z3n
     rw[e7]
   | cont =>
     obtain⟨Γ7,e7,σ7,H7,F7,I7,fo7,rl7,E7⟩:=q7
     obtain⟨b1,b2,b3⟩:=back I7
     refine⟨ds.length-(j+1),by lia,j+1,σ7,H7,F7,Γ7,rfl,hlt,b1,b2,b3,fo7,rl7,E3.trans E7,?_⟩
     rw[<-evd]
     conv=>rhs;unfold z3n
     rw[e7]
   | brk =>
     obtain⟨Γ7,e7,σ7,H7,F7,I7,fo7,rl7,E7⟩:=q7
     refine⟨Γ7,?_,σ7,H7,F7,I7.unpinned,fo7,rl7,E03.trans E7⟩
     rw[<-evd]
     conv=>lhs;unfold z3n
     rw[e7]
   | ret v7 =>
     refine RtP.map q7 E03 (fun _ _ I7=>I7.unpinned) (fun d7 e7=>?_) fun d7 e7=>?_
     ·rw[<-evd]
      conv=>lhs;unfold z3n
      rw[e7]
     ·rw[<-evd]
      conv=>lhs;unfold z3n
      rw[e7]
  ·obtain⟨c7,Γ7,σ7,H7,F7,e7,fl7,fo7,rl7,E7⟩:=q7
   refine⟨c7,Γ7,σ7,H7,F7,?_,?_,fo7,rl7,E03.trans E7⟩
   ·rw[<-evd]
    conv=>lhs;unfold z3n
    rw[e7]
   ·obtain⟨I7,e',C',oe,vs,q1,q2,q3,q4,q5,q6,q7',q8⟩:=fl7
    refine⟨I7.unpinned,e',C',oe,vs,q1,q2,q3,q4,q5,q6,fun p hp2=>q7' p ?_,?_⟩
    ·rcases List.mem_append.mp hp2 with z | z
     ·exact List.mem_append_left _ z
     ·exact List.mem_append_right _ (List.mem_append_left _ z)
    ·obtain⟨w1,w2,w3,w4,w5⟩:=q8
     refine⟨w1,w2,w3,w4,?_⟩
     rcases w5 with w5 | ⟨T',oT,ts,z1,z2,z3,z4,z5,z6,z7⟩
     ·exact .inl w5
     ·refine .inr ⟨T',oT,ts,z1,z2,z3,z4,z5,fun p hp2=>z6 p ?_,z7⟩
      rcases List.mem_append.mp hp2 with z | z
      ·exact List.mem_append_left _ z
      ·exact List.mem_append_right _ (List.mem_append_left _ z)
 ·have ej:j=ds.length:=by lia
  subst ej
  refine wpAny_passesOwn hp' (thn (T.done X rfl rfl rfl hcalm _ pins s3 σ3 H3 _ I3 (stat fr3) t3 jstop) fun r s4 ⟨hr,I4⟩=>?_)
  subst hr
  rw[List.drop_length] at ev3
  exact wpAny_execs_nil ⟨Γ3,ev3.symm,σ3,H3,F3,I4,fo3,rl3,E03⟩
theorem y5j(n:Nat){cnd:Expr}{body:List Stmt}{gc:G->R Bool}{gb:G->R Fl}(hp:PO' X)(hc:PTD X cnd gc)(hb:PQs X body gb):PQ X (.While cnd body [] pos) (whGo gc gb n):=by
 refine⟨fun pins s σ H F Γ I fo rl hg=>?_⟩
 have hp':=hp pins H F (whGo gc gb n Γ)
 refine wpAny_While (codeAny_whileLoop (fun m s'=>∃(σ':St) (H':Hp) (F':List Addr) (Γ':G),Inv X pins σ' H' s'/\FOk H' F'/\Rel X.K H' F' Γ' σ'/\Ext H F H' F'/\whGo gc gb m Γ'=whGo gc gb n Γ) ?_ n ⟨σ,H,F,Γ,I,fo,rl,.refl,rfl⟩)
 rintro m s1 ⟨σ1,H1,F1,Γ1,I1,fo1,rl1,E1,ev1⟩
 have hg1:whGo gc gb m Γ1 ≠ .no:=by rw[ev1];exact hg
 cases m with
 | zero=>exact absurd rfl hg1
 | succ m =>
   have evu:whGo gc gb (m+1) Γ1=lift (gc Γ1) Γ1 fun k=>if k=true then (match gb Γ1 with
    | .ok (.nx Γ')=>whGo gc gb m Γ'
    | .ok (.ct Γ')=>whGo gc gb m Γ'
    | .ok (.bk Γ')=>.ok (.nx Γ')
    | .ok (.rt d)=>.ok (.rt d)
    | .ok (.rtF d)=>.ok (.rtF d)
    | .ok (.ex c Γ')=>.ok (.ex c Γ')
    | _=>.no) else .ok (.nx Γ1):=rfl
   rw[evu] at hg1 ev1
   refine wpAny_passesOwn hp' (wpAny_mono (hc.run pins s1 σ1 H1 F1 Γ1 I1 fo1 rl1 (z2c hg1)) (fun k s2 ⟨H2,e2,I2,S2⟩=>?_) fun _ _ x=>by rw[<-ev1];exact(x.lift fo1 rl1 _).later E1)
   rw[z3r e2] at hg1 ev1
   cases k with
   | false =>
     rw[if_neg Bool.false_ne_true] at ev1 ⊢
     exact wpAny_execs_nil ⟨Γ1,ev1.symm,σ1,H2,F1,I2,fo1.same S2,rl1.same S2,E1.trans (.of_same S2)⟩
   | true =>
     rw[if_pos rfl] at ev1 hg1 ⊢
     have hgb:gb Γ1 ≠ .no:=fun z=>by rw[z] at hg1;exact hg1 rfl
     refine wpAny_passesOwn hp' (wpAny_mono (hb.run pins s2 σ1 H2 F1 Γ1 I2 (fo1.same S2) (rl1.same S2) hgb) (fun f s3 q3=>?_) fun x3 s3 q3=>?_)
     ·cases f with
      | next =>
        obtain⟨Γ7,e7,σ7,H7,F7,I7,fo7,rl7,E7⟩:=q3
        rw[e7] at ev1
        exact⟨m,Nat.lt_succ_self _,σ7,H7,F7,Γ7,I7,fo7,rl7,(E1.trans (.of_same S2)).trans E7,ev1⟩
      | cont =>
        obtain⟨Γ7,e7,σ7,H7,F7,I7,fo7,rl7,E7⟩:=q3
        rw[e7] at ev1
        exact⟨m,Nat.lt_succ_self _,σ7,H7,F7,Γ7,I7,fo7,rl7,(E1.trans (.of_same S2)).trans E7,ev1⟩
      | brk =>
        obtain⟨Γ7,e7,σ7,H7,F7,I7,fo7,rl7,E7⟩:=q3
        rw[e7] at ev1
        exact⟨Γ7,ev1.symm,σ7,H7,F7,I7,fo7,rl7,(E1.trans (.of_same S2)).trans E7⟩
      | ret v =>
        exact RtP.map q3 (E1.trans (.of_same S2)) (fun _ _ I7=>I7) (fun d7 e7=>by rw[e7] at ev1;exact ev1.symm) fun d7 e7=>by rw[e7] at ev1;exact ev1.symm
     ·obtain⟨c7,Γ7,σ7,H7,F7,e7,fl7,fo7,rl7,E7⟩:=q3
      rw[e7] at ev1
      exact⟨c7,Γ7,σ7,H7,F7,ev1.symm,fl7,fo7,rl7,(E1.trans (.of_same S2)).trans E7⟩
end
noncomputable def z7h(X:Cx)(pins:List (Addr×Obj))(σ:St)(H:Hp)(c:Er)(x:Value)(s:Shared)(fl:Value):Prop :=
 Inv X pins σ H s/\∃(e C:Addr) (oe:Obj) (vs:Array Value),x = .ref e/\X.mg c.nm=some (.ref C)/\H e=none/\X.s₀.heap.get? e=none/\e≠X.env.locals/\(∀y k,X.env.cells.lookup y=some k->k≠e)/\(∀p∈X.pn++pins,p.1≠e) /\
  s.heap.get? e=some oe/\oe.cls = .ref C/\oe.data = .fields vs/\(∃a0,vs[0]? = some a0) /\
  ∃(T:Addr) (oT:Obj) (ts:Array Value),vs[1]? = some (.ref T)/\H T=none/\X.s₀.heap.get? T=none/\T≠X.env.locals/\(∀y k,X.env.cells.lookup y=some k->k≠T)/\(∀p∈X.pn++pins,p.1≠T)/\T≠e /\
   s.heap.get? T=some oT/\oT.data = .fields ts/\ts[3]? = some fl
section
variable {X:Cx}{pins:List (Addr×Obj)}{σ:St}{H:Hp}{c:Er}{x:Value}{s:Shared}{E:Value->Shared->Prop}{Q:Unit->Shared->Prop}
theorem z7h.here{L:Addr}(hf:X.env.frame=some L)(h:z7h X pins σ H c x s (rawInt L)):y0n X pins σ H c x s:=by
 obtain⟨I,e,C,oe,vs,h1,h2,h3,h4,h5,h6,h7,h8,h9,h10,h11,T,oT,ts,k1,k2,k3,k4,k5,k6,k7,k8,k9,k10⟩:=h
 exact⟨I,e,C,oe,vs,h1,h2,h3,h4,h5,h6,h7,h8,h9,h10,h11,.inr ⟨T,oT,ts,k1,k2,k3,k4,k5,k6,k7,k8,k9,.inr ⟨L,hf,k10⟩⟩⟩
theorem x2j{P:Program}{w:World}{H:Hp}{h:Heap}{a:Addr}{o:HO}(x:z7b P w H h a o):∃ob,h.get? a=some ob:=by
 cases o with
 | lst xs=>obtain⟨_,_,_,_,e⟩:=x;exact⟨_,e⟩
 | tup xs=>obtain⟨_,_,_,ob,e,_⟩:=x;exact⟨_,e⟩
 | dK kvs=>obtain⟨_,_,_,_,o,_,_,e,_⟩:=x;exact⟨_,e⟩
 | dT kvs=>obtain⟨_,_,_,_,o,_,_,e,_⟩:=x;exact⟨_,e⟩
 | set S n=>obtain⟨o,_,_,_,e,_⟩:=x;exact⟨_,e⟩
 | ins C dx fs=>obtain⟨_,_,_,e,_⟩:=x;exact⟨_,e⟩
 | own y=>exact x
 | xd fs=>obtain⟨_,⟨_,_,_,e,_⟩,_⟩:=x;exact⟨_,e⟩
 | rng lo hi=>obtain⟨_,_,_,e⟩:=x;exact⟨_,e⟩
 | frz ob u=>obtain⟨e,_⟩:=x;exact⟨_,e⟩
 | tbl ps=>exact⟨_,x⟩
 | met f y=>exact⟨_,x⟩
 | ext φ=>exact x.2.1
theorem Inv.recs{ch:List Addr}{h':Heap}(I:Inv X pins σ H s)(hch:∀b∈ch,H b=none/\X.s₀.heap.get? b=none/\b≠X.env.locals/\(∀y k,X.env.cells.lookup y=some k->k≠b)/\∀p∈X.pn++pins,p.1≠b)
 (keep:∀b o,b ∉ frs X.stack->b ∉ ch->s.heap.get? b=some o->h'.get? b=some o) (slot:∀b o,b ∉ ch->s.heap.get? b=some o->∃sl,h'.get? b=some { o with slots:=sl }):Inv X pins σ H { s with heap:=h' }:=by
 refine I.call (g':=s.gens) (t':=s.toks) (d':=s.drawn) (ch:=ch) ⟨fun b o e _ hb hc=>keep b o hb hc e,fun b o e _ _ hc=>slot b o hc e,fun _ _ _ n _=>n,fun b o e hc=>let ⟨sl,q⟩:=slot b o hc e;⟨_,q⟩,fun _ _ q=>q,fun _ _ _ q=>q,fun _ ps q=>⟨#[],by rw[q];simp⟩⟩ (fun b u e=>?_) I.bare fun b hb=>?_
 ·have tr:∀d w',H d=some w'->d ∉ frs X.stack/\d ∉ ch:=fun d w' q=>by
   refine⟨fun z=>?_,fun z=>?_⟩
   ·rw[I.stkFree d z] at q;cases q
   ·rw[(hch d z).1] at q;cases q
  refine(I.hok b u e).stay (fun d v hd q=>?_) (fun _ q=>q) fun _ _ q=>q
  rcases hd with z | z
  ·rw[z] at q ⊢;exact keep b v (tr b u e).1 (tr b u e).2 q
  ·exact keep d v (tr d _ z).1 (tr d _ z).2 q
 ·obtain⟨h1,h2,h3,h4,h5⟩:=hch b hb
  exact⟨.inr h2,h3,h4,h5⟩
noncomputable def hx(l:List Addr):Hp:=fun b=>if b∈l then some (.own 0) else none
theorem x7r{l:List Addr}{b:Addr}(h:b∈l):hx l b=some (.own 0):=by unfold hx;rw[if_pos h]
theorem x2o{l:List Addr}{b:Addr}(h:b ∉ l):hx l b=none:=by unfold hx;rw[if_neg h]
theorem z6m{h:Heap}{l:List Addr}{b:Addr}(hb:b∈l):(hidT h (hx l)).get? b=none:=by
 cases q:(hidT h (hx l)).get? b with
 | none=>rfl
 | some o =>
   have z:=(y4l q).2
   rw[x7r hb] at z;cases z
theorem y2x{L e C:Addr}{a0:Value}{ch:List Addr}{h':Heap}(hex:X.ex=[])(I:Inv X pins σ H s)(hmg:X.mg c.nm=some (.ref C))(he:e∈ch)(hch:∀b∈ch,H b=none/\X.s₀.heap.get? b=none/\b≠X.env.locals/\(∀y k,X.env.cells.lookup y=some k->k≠b)/\∀p∈X.pn++pins,p.1≠b)
 (hN:Heap.NotedW (hidT s.heap (hx (frs X.stack++ch))) X.stack e (.ref C) a0 (rawInt L) s.heap h'):z7h X pins σ H c (.ref e) { s with heap:=h' } (rawInt L):=by
 obtain⟨st,ff,⟨oe',vs',T',oT',ts',q1,⟨q2,q2'⟩,q3,q4,q5,q6,q7,q8,q9⟩,up⟩:=hN
 have keep:∀b o,b ∉ frs X.stack->b ∉ ch->s.heap.get? b=some o->h'.get? b=some o:=fun b o h1 h2 q=>st b o (y1u q (x2o fun z=>(List.mem_append.mp z).elim h1 h2))
 have slot:∀b o,b ∉ ch->s.heap.get? b=some o->∃sl,h'.get? b=some { o with slots:=sl }:=fun b o h2 q=>by
  by_cases hb:b∈frs X.stack
  ·obtain⟨_,o',ho',hnf⟩:=I.stack.mem hb
   rw[q] at ho';cases ho'
   exact up b o q hnf
  ·exact⟨o.slots,keep b o hb h2 q⟩
 have hT:H T'=none/\X.s₀.heap.get? T'=none/\T'≠X.env.locals/\(∀y k,X.env.cells.lookup y=some k->k≠T')/\∀p∈X.pn++pins,p.1≠T':=by
  cases q:s.heap.get? T' with
  | none =>
    refine⟨?_,I.gone hex q⟩
    cases z:H T' with
    | none=>rfl
    | some u =>
      obtain⟨o,eo⟩:=x2j (I.hok T' u z)
      rw[q] at eo;cases eo
  | some o =>
    have hin:T'∈frs X.stack++ch:=by
     by_cases z:T'∈frs X.stack++ch
     ·exact z
     ·have:=y1u q (x2o z)
      rw[q5] at this;cases this
    rcases List.mem_append.mp hin with z | z
    ·exfalso
     obtain⟨_,o',ho',hnf⟩:=I.stack.mem z
     rw[q] at ho';cases ho'
     obtain⟨sl,e1⟩:=up T' o q hnf
     rw[q7] at e1;cases e1
     exact hnf _ q8
    ·exact hch T' z
 obtain⟨f1,f2,f3,f4,f5⟩:=hch e he
 obtain⟨g1,g2,g3,g4,g5⟩:=hT
 exact⟨Inv.recs I hch keep slot,e,C,oe',vs',rfl,hmg,f1,f2,f3,f4,f5,q1,q2,q3,⟨a0,q2'⟩,T',oT',ts',q4,g1,g2,g3,g4,g5,q6,q7,q8,q9⟩
theorem y1w{M:Model}{L:Addr}(hex:X.ex=[])(hstk:X.stack=X.env::X.outer)(hf:X.env.frame=some L)(h:y0n X pins σ H c x s)(hQ:∀s',z7h X pins σ H c x s' (rawInt L)->Q () s'):wpAny M X.A (noteFrame x X.env) Q E s:=by
 obtain⟨I,e,C,oe,vs,h1,h2,h3,h4,h5,h6,h7,h8,h9,h10,h11,h12⟩:=h
 subst h1
 obtain⟨a0,h11⟩:=h11
 have hfr:X.A.frames=some (X.env::X.outer):=by rw[<-hstk];exact I.ok.frames
 have nfe:∀{b:Addr} {o:Obj} {ws:Array Value},s.heap.get? b=some o->o.data = .fields ws->b ∉ frs X.stack:=fun {b o ws} q1 q2 z=>by
  obtain⟨_,o',ho',hnf⟩:=I.stack.mem z
  rw[q1] at ho';cases ho'
  exact hnf _ q2
 have hl:∀ch:List Addr,s.heap.FunFrames (hidT s.heap (hx (frs X.stack++ch))) (X.env::X.outer):=fun ch=>by
  have gen:∀(l:List Env),(∀b∈frs l,b∈frs X.stack)->s.heap.FunFrames X.base l->s.heap.FunFrames (hidT s.heap (hx (frs X.stack++ch))) l:=by
   intro l
   induction l with
   | nil=>intro _ _;trivial
   | cons env r ih =>
     intro hs ⟨hk,⟨L',o,hf',hn,ho,hd⟩,hr⟩
     have m1:∀b∈frs r,b∈frs (env::r):=fun b hb=>by unfold frs at hb ⊢;rw[List.filterMap_cons,hf'];exact List.mem_cons_of_mem _ hb
     have m0:L'∈frs (env::r):=by unfold frs;rw[List.filterMap_cons,hf'];exact List.mem_cons_self
     exact⟨hk,⟨L',o,hf',z6m (List.mem_append_left _ (hs L' m0)),ho,hd⟩,ih (fun b hb=>hs b (m1 b hb)) hr⟩
  rw[<-hstk]
  exact gen X.stack (fun _ h=>h) I.stack
 have stays:∀ch:List Addr,(hidT s.heap (hx (frs X.stack++ch))).StaysIn s.heap:=fun ch b o q=>(y4l q).1
 rcases h12 with h12 | ⟨T,oT,ts,k1,k2,k3,k4,k5,k6,k7,k8,k9,k10⟩
 ·have hsz:1<vs.size:=(Array.getElem?_eq_some_iff.mp h12).1
  unfold noteFrame
  simp only[hf]
  refine wpAny_bind (wpAny_field h8 h10 h12 ?_)
  rw[if_neg (by decide)]
  refine wpAny_entryW hfr (hl [e]) hf h8 (stays [e]) (z6m (by simp)) h10 hsz h11 fun h' hN=>hQ _ ?_
  rw[h9,<-hstk] at hN
  refine y2x (ch:=[e]) hex I h2 (by simp) (fun b hb=>?_) hN
  have:b=e:=by simpa using hb
  subst this
  exact⟨h3,h4,h5,h6,h7⟩
 ·have hcc:∀b∈[e,T],H b=none/\X.s₀.heap.get? b=none/\b≠X.env.locals/\(∀y k,X.env.cells.lookup y=some k->k≠b)/\∀p∈X.pn++pins,p.1≠b:=fun b hb=>by
   have:b=e∨b=T:=by simpa using hb
   rcases this with rfl | rfl
   ·exact⟨h3,h4,h5,h6,h7⟩
   ·exact⟨k2,k3,k4,k5,k6⟩
  rcases k10 with k10 | ⟨L',hL',k10⟩
  ·refine wpAny_noteFrame_onW (cls:=.ref C) (a0:=a0) hfr (hl [e,T]) hf ⟨oe,vs,T,oT,ts,h8,⟨h9,h11⟩,h10,k1,z6m (by simp),k7,k8,k9,k10⟩ (stays [e,T]) (z6m (by simp)) fun h' hN=>hQ _ ?_
   rw[<-hstk] at hN
   exact y2x (ch:=[e,T]) hex I h2 (by simp) hcc hN
  ·rw[hf] at hL';cases hL'
   refine wpAny_noteFrame_againW (base:=hidT s.heap (hx (frs X.stack++[e,T]))) (cls:=.ref C) (a0:=a0) hf ⟨oe,vs,T,oT,ts,h8,⟨h9,h11⟩,h10,k1,z6m (by simp),k7,k8,k9,k10⟩ (hQ s ?_)
   exact⟨I,e,C,oe,vs,rfl,h2,h3,h4,h5,h6,h7,h8,h9,h10,⟨a0,h11⟩,T,oT,ts,k1,k2,k3,k4,k5,k6,k7,k8,k9,k10⟩
theorem y4t{M:Model}{A:Around}{fl:Value}{fr:Option Addr}(h:z7h X pins σ H c x s fl)(hQ:∀s',z7h X pins σ H c x s' (fr.elim .none fun f=>rawInt f)->Q () s'):wpAny M A (setFlight x fr) Q E s:=by
 obtain⟨I,e,C,oe,vs,h1,h2,h3,h4,h5,h6,h7,h8,h9,h10,h11,T,oT,ts,k1,k2,k3,k4,k5,k6,k7,k8,k9,k10⟩:=h
 subst h1
 have hsz3:3<ts.size:=(Array.getElem?_eq_some_iff.mp k10).1
 have other:∀b,b≠T->(s.heap.update T (Obj.mapFields (·.setIfInBounds 3 (fr.elim Value.none fun f=>rawInt f)))).get? b=s.heap.get? b:=fun b hb=>Heap.get?_update_other _ _ (Ne.symm hb)
 unfold setFlight
 refine wpAny_bind (wpAny_field h8 h10 k1 ?_)
 rw[if_pos (show(Value.ref T != Value.none)=true from by simp)]
 refine wpAny_setField k8 k9 hsz3 (hQ _ ⟨Inv.recs (ch:=[T]) I (fun b hb=>?_) (fun b o hb hc q=>?_) (fun b o hc q=>?_),e,C,oe,vs,rfl,h2,h3,h4,h5,h6,h7,(other e (Ne.symm k7)).trans h8,h9,h10,h11,T,_,_,k1,k2,k3,k4,k5,k6,k7,
  Heap.get?_update_self _ k8 (Obj.isFreed_of_fields (Obj.data_mapFields k9 _)),Obj.data_mapFields k9 _,by simp[hsz3]⟩)
 ·have:b=T:=by simpa using hb
  subst this
  exact⟨k2,k3,k4,k5,k6⟩
 ·have hc':b≠T:=by simpa using hc
  exact(other b hc').trans q
 ·have hc':b≠T:=by simpa using hc
  exact⟨o.slots,(other b hc').trans q⟩
theorem x7g{L:Addr}(hex:X.ex=[])(hstk:X.stack=X.env::X.outer)(hf:X.env.frame=some L):PO' X:=fun pins H F r e s' h=>by
 obtain⟨c,Γ',σ',H',F',e1,fl,fo,rl,Ex⟩:=h
 refine y1w hex hstk hf fl fun s1 f1=>?_
 obtain⟨I,e',C,oe,vs,h1,h2,h3,h4,h5,h6,h7,h8,h9,h10,h11,T,oT,ts,k1,kr⟩:=id f1
 subst h1
 show wpAny _ _ _ _ _ _
 refine wpAny_bind (wpAny_field h8 h10 k1 ?_)
 rw[if_neg (show ¬((Value.ref T==Value.none)=true) from by simp)]
 rw[hf]
 exact y4t f1 fun s2 f2=>⟨c,Γ',σ',H',F',e1,f2.here hf,fo,rl,Ex⟩
end
theorem x4k{H:Hp}:hid [] H=H:=by funext b;unfold hid;simp
theorem y2r{K:PySem.W.Frag}{H:Hp}{N:List Str}{ds:List D}{vs:List V}(i:IsAll K H ds vs):Rel K H [] (ini N.length ds) (L2.start N vs):=by
 have hl:=i.length
 have key:∀(j:Nat) (en:En),(ini N.length ds)[j]? = some en->(∃d,en = .ro d/\ds[j]? = some d)∨en = .no:=fun j en h=>by
  unfold ini at h
  by_cases hj:j<ds.length
  ·rw[List.getElem?_append_left (by simpa using hj),List.getElem?_map,List.getElem?_eq_getElem hj] at h
   cases h
   exact .inl ⟨_,rfl,List.getElem?_eq_getElem hj⟩
  ·rw[List.getElem?_append_right (by simpa using hj),List.getElem?_replicate] at h
   split at h
   ·cases h;exact .inr rfl
   ·cases h
 refine⟨?_,fun j d h=>?_,fun j es h=>?_,fun j k es fs a h1 _ _ _=>?_⟩
 ·unfold ini L2.start
  simp[hl]
 ·rcases key j _ h with ⟨d',e,hd⟩ | e
  ·cases e
   obtain⟨v,hv,iv⟩:=i.get hd
   refine⟨v,?_,by rw[x4k];exact iv⟩
   unfold L2.start
   rw[List.getElem?_append_left (by rw[List.length_map];exact(List.getElem?_eq_some_iff.mp hv).1),List.getElem?_map,hv];rfl
  ·cases e
 ·rcases key j _ h with ⟨d',e,_⟩ | e<;>cases e
 ·rcases key j _ h1 with ⟨d',e,_⟩ | e<;>cases e
section
variable {P:Program}{w:World}{K:PySem.W.Frag}{mg:Str->Option Value}{base:Heap}
noncomputable abbrev y0m (P:Program) (w:World) (K:PySem.W.Frag) (mg:Str->Option Value) (base:Heap) (N:List Str) (qual:Str) (st:Stmt) (f:Addr) (cdv:Value) (A:Around) (outer:List Env) (s:Shared) (H:Hp) (E:XK):Cx :=
 cxOf (CXE P w) P w K mg base N qual (z0d st) f cdv A outer s H E
theorem y8z{N:List Str}{qual:Str}{st:Stmt}{f:Addr}{cdv:Value}{A:Around}{outer:List Env}{s s':Shared}{H H':Hp}{E:XK}{pins:List (Addr×Obj)}{σ':St}{F':List Addr}{c:Er}{x:Value}
 (fl:y0n (y0m P w K mg base N qual st f cdv A outer s H E) pins σ' H' c x s') (hE:∀C,mg c.nm=some (.ref C)->E (.ref C) none H'):(y0m P w K mg base N qual st f cdv A outer s H E).xe x s':=by
 show wpAny _ _ (leaving _ x) _ _ s'
 unfold leaving
 refine wpAny_bind (y1w (L:=s.heap.objs.size) rfl rfl rfl fl fun s1 f1=>?_)
 refine y4t (fr:=none) f1 fun s2 f2=>?_
 obtain⟨I,e,C,oe,vs,h1,h2,h3,h4,h5,h6,h7,h8,h9,h10,h11,T,oT,ts,k1,k2,k3,k4,k5,k6,k7,k8,k9,k10⟩:=f2
 exact⟨e,C,T,oe,oT,vs,ts,H',h1,I.os,I.bare,I.base,I.hok,h3,h4,h8,h9,h10,h11,k1,k2,k3,k7,k8,k9,k10,hE C h2⟩
theorem z1i{x qual:Str}{st:Stmt}{f:Addr}{fd:FuncData}{N ps:List Str}{k:Nat}{φ:List D->R D}(Fu:Fun K x qual st f fd)(S:FnScope N ps (z0d st))(hb:z1u K fd ps [])(hlen:∀ds,φ ds ≠ .no->ds.length=ps.length)
 (hbody:∀(cdv:Value) (A:Around) (outer:List Env) (s:Shared) (H:Hp) (E:XK),Room k (y0m P w K mg base N qual st f cdv A outer s H E).A->∃g,PQs (y0m P w K mg base N qual st f cdv A outer s H E) (z0m st) g/\∀ds,φ ds ≠ .no->fin (g (ini N.length ds))=φ ds) :
 FnD P w K mg base (k+1) f fd ps φ:=by
 refine⟨?_,hb,Fu.kp⟩
 obtain⟨oc,od,kV,doc,pm,an,cdv,ct,osl,rfl,lk,hcd⟩:=Fu.ex
 refine x1p lk hcd S (fun vs H Q E h=>?_) fun A outer s H vs Q E hr hsp=>?_
 ·obtain⟨ds,i,hne,_⟩:=h
  rw[<-i.length];exact hlen ds hne
 obtain⟨g,hq,hg⟩:=hbody cdv A outer s H E hr
 obtain⟨ds,i,hne,hok,her⟩:=hsp
 have e0:=hg ds hne
 refine⟨fun D' σ' H'=>D'={ nx:=fun _ H'=>Q .non H',rt:=Q }/\σ'=L2.start N vs/\H'=H,?_,rfl,rfl,rfl⟩
 intro pins s1 σ1 H1 D1 I hw
 obtain⟨rfl,rfl,rfl⟩:=hw
 have hgne:g (ini N.length ds) ≠ .no:=fun z=>hne (by rw[<-e0,z];rfl)
 refine wpAny_mono (hq.run pins s1 (L2.start N vs) H1 [] (ini N.length ds) I FOk.nil (y2r i) hgne) (fun fl s' q=>?_) fun x' s' q=>?_
 ·cases fl with
  | next =>
    obtain⟨Γ',e1,σ',H',F',I',_,_,Ex⟩:=q
    exact⟨σ',H',I',hok .non .non H' (by rw[<-e0,e1];rfl) Ex.same (Is.non_iff.mpr rfl)⟩
  | ret u =>
    obtain⟨v,σ',H',F',I',rv,Ex,⟨d,e1,iv⟩ | ⟨es,a,xs,e1,ev,hn,ha,ia⟩⟩:=q
    ·exact⟨v,σ',H',I',rv,hok d v H' (by rw[<-e0,e1];rfl) Ex.same iv⟩
    ·exact absurd (by rw[<-e0,e1];rfl) hne
  | brk=>obtain⟨Γ',e1,_⟩:=q;exact absurd (by rw[<-e0,e1];rfl) hne
  | cont=>obtain⟨Γ',e1,_⟩:=q;exact absurd (by rw[<-e0,e1];rfl) hne
 ·obtain⟨c,Γ',σ',H',F',e1,fl,fo,rl,Ex⟩:=q
  exact y8z (F':=F') fl fun C hC=>her c C H' (by rw[<-e0,e1];rfl) hC Ex.same
theorem y9n{x qual:Str}{st:Stmt}{f:Addr}{fd:FuncData}{N ps:List Str}{k:Nat}{φ:List D->R (List D)}(Fu:Fun K x qual st f fd)(S:FnScope N ps (z0d st))(hb:z1u K fd ps [])(hlen:∀ds,φ ds ≠ .no->ds.length=ps.length)
 (hbody:∀(cdv:Value) (A:Around) (outer:List Env) (s:Shared) (H:Hp) (E:XK),Room k (y0m P w K mg base N qual st f cdv A outer s H E).A->∃g,PQs (y0m P w K mg base N qual st f cdv A outer s H E) (z0m st) g/\∀ds,φ ds ≠ .no->finF (g (ini N.length ds))=φ ds) :
 FnF P w K mg base (k+1) f fd ps φ:=by
 refine⟨?_,hb,Fu.kp⟩
 obtain⟨oc,od,kV,doc,pm,an,cdv,ct,osl,rfl,lk,hcd⟩:=Fu.ex
 refine x1p lk hcd S (fun vs H Q E h=>?_) fun A outer s H vs Q E hr hsp=>?_
 ·obtain⟨ds,i,hne,_⟩:=h
  rw[<-i.length];exact hlen ds hne
 obtain⟨g,hq,hg⟩:=hbody cdv A outer s H E hr
 obtain⟨ds,i,hne,hok,her⟩:=hsp
 have e0:=hg ds hne
 refine⟨fun D' σ' H'=>D'={ nx:=fun _ H'=>Q .non H',rt:=Q }/\σ'=L2.start N vs/\H'=H,?_,rfl,rfl,rfl⟩
 intro pins s1 σ1 H1 D1 I hw
 obtain⟨rfl,rfl,rfl⟩:=hw
 have hgne:g (ini N.length ds) ≠ .no:=fun z=>hne (by rw[<-e0,z];rfl)
 refine wpAny_mono (hq.run pins s1 (L2.start N vs) H1 [] (ini N.length ds) I FOk.nil (y2r i) hgne) (fun fl s' q=>?_) fun x' s' q=>?_
 ·cases fl with
  | next =>
    obtain⟨Γ',e1,_⟩:=q
    exact absurd (by rw[<-e0,e1];rfl) hne
  | ret u =>
    obtain⟨v,σ',H',F',I',rv,Ex,⟨d,e1,iv⟩ | ⟨es,a,xs,e1,ev,hn,ha,ia⟩⟩:=q
    ·exact absurd (by rw[<-e0,e1];rfl) hne
    ·subst ev
     exact⟨.ref a,σ',H',I',rv,hok es a xs H' (by rw[<-e0,e1];rfl) Ex.same (hn.elim (fun z=>absurd z (by simp)) fun z=>z) ha ia⟩
  | brk=>obtain⟨Γ',e1,_⟩:=q;exact absurd (by rw[<-e0,e1];rfl) hne
  | cont=>obtain⟨Γ',e1,_⟩:=q;exact absurd (by rw[<-e0,e1];rfl) hne
 ·obtain⟨c,Γ',σ',H',F',e1,fl,fo,rl,Ex⟩:=q
  exact y8z (F':=F') fl fun C hC=>her c C H' (by rw[<-e0,e1];rfl) hC Ex.same
theorem z5i{N:List Str}{qual:Str}{st:Stmt}{f:Addr}{cdv:Value}{A:Around}{outer:List Env}{s:Shared}{H:Hp}{E:XK}:PO' (y0m P w K mg base N qual st f cdv A outer s H E):=x7g (L:=s.heap.objs.size) rfl rfl rfl
end
section
variable {X:Cx}{e a b c:Expr}{g ga gb gc:G->R D}{pos p:Pos}
noncomputable def isIC:Expr->Bool
 | .Constant (.int _) _ _=>true
 | _=>false
noncomputable def icD:Expr->D
 | .Constant (.int i) _ _=>.int i
 | _=>.non
theorem y6u{es:List Expr}(h:es.all isIC=true:=by rfl):PAD X es (fun _=>.ok (es.map icD)):=by
 induction es with
 | nil=>exact z0c
 | cons e es ih =>
   have h1:isIC e=true/\es.all isIC=true:=by simpa using h
   have h2:=ih h1.2
   cases e with
   | Constant c j q =>
     cases c with
     | int i =>
       refine⟨fun pos pins s σ H F Γ I fo rl hg=>?_⟩
       exact(z0a (X:=X) (e:=.Constant (.int i) j q) z0e h2 (by rfl)).run pos pins s σ H F Γ I fo rl (fun z=>nomatch z)
     | _=>exact absurd h1.1 (by simp[isIC])
   | _=>exact absurd h1.1 (by simp[isIC])
theorem x6q{pins:List (Addr×Obj)}{σ:St}{H:Hp}{s:Shared}{A:Around}{E:Value->Shared->Prop}{Q:Value->Shared->Prop}{d:D}{v:V}{u cv:Value}{b:Bool}(I:Inv X pins σ H s)(hnx:d.noX=true)(i:Is X.K H d v)(r:RelV v u)(e:PySem.W.kitOne X.K (.type d.ty) cv=some b)(h:∀tk,Q (.bool b) { s with toks:=tk }) :
 wpAny (model X.prog X.w) A (call (.builtin "isinstance") [u,cv]) Q E s:=by
 cases d with
 | non=>rw[Is.non_iff.mp i] at r;cases (show u=Value.none from r);exact PySem.W.kia_one PySem.W.kitx_none I.kIn True.intro e (fun z=>nomatch z) h
 | bl y=>rw[Is.bl_iff.mp i] at r;cases (show u=Value.bool y from r);exact PySem.W.kia_one PySem.W.kitx_bool I.kIn True.intro e (fun z=>nomatch z) h
 | int y=>rw[Is.int_iff.mp i] at r;obtain⟨t,q⟩:=(show ∃t,u=Value.int y t from r);cases q;exact PySem.W.kia_one PySem.W.kitx_int I.kIn True.intro e (fun z=>nomatch z) h
 | str y=>rw[Is.str_iff.mp i] at r;obtain⟨t,q⟩:=(show ∃t,u=Value.str y t from r);cases q;exact PySem.W.kia_one PySem.W.kitx_str I.kIn True.intro e (fun z=>nomatch z) h
 | tup ds =>
   obtain⟨a,xs,rfl,h1,_⟩:=Is.tup_iff.mp i
   cases (show u=Value.ref a from r)
   obtain⟨its,_,⟨o,ho,hc,_⟩,_⟩:=I.tuple h1
   exact PySem.W.kia_one PySem.W.kitx_tuple I.kIn ⟨o,ho,hc⟩ e (fun z=>nomatch z) h
 | lst ds =>
   obtain⟨a,xs,rfl,h1,_⟩:=Is.lst_iff.mp i
   cases (show u=Value.ref a from r)
   obtain⟨its,_,⟨o,n,ho,hc,_⟩,_⟩:=I.list h1
   exact PySem.W.kia_one PySem.W.kitx_list I.kIn ⟨o,ho,hc⟩ e (fun z=>nomatch z) h
 | dct =>
   obtain⟨a,ob,rfl,h1,h2⟩:∃a ob,v=V.ref a/\H a=some (.frz ob (.own 0))/\ob.cls = .type "dict":=by unfold Is at i;exact i
   cases (show u=Value.ref a from r)
   exact PySem.W.kia_one PySem.W.kitx_dict I.kIn ⟨ob,(I.hok a _ h1).1,h2⟩ e (fun z=>nomatch z) h
 | exc c=>simp[D.noX] at hnx
theorem y2u{y:Str}{py:Pos}{cv:Value}(f:String->Bool)(ha:PD X a ga)(hm:X.mg "isinstance"=none)(hb:∀{E:Value->Shared->Prop} {pins σ H s} {Q:Value->Shared->Prop},Inv X pins σ H s->Q cv s->wpAny (model X.prog X.w) X.A (eval (.Name y py) X.env) Q E s)
 (hk:∀d:D,d.noX=true->PySem.W.kitOne X.K (.type d.ty) cv=some (f d.ty)) (hg:Gl X "isinstance":=by rfl)
 (he:starEach [a,.Name y py] X.env=(false,eval a X.env)::(false,eval (.Name y py) X.env)::[]:=by rfl) (hpl:(backTo pos (starEach [.Name y py] X.env)).any (·.1)=false:=by rfl) (he2:starEach [.Name y py] X.env=[(false,eval (.Name y py) X.env)]:=by rfl) :
 PD X (.Call (.Name "isinstance" p) [a,.Name y py] [] pos) (gIsi f ga):=by
 refine⟨fun pins s σ H F Γ I fo rl hgg=>?_⟩
 refine wpAny_Call_Name_kw (z4q I hg hm (by decide +kernel:bootBuiltins "isinstance"=some (.builtin "isinstance")) ?_ (by decide) (by decide))
 refine PyProof.Rows.callWith_builtin1 ?_ (by rw[he,he2]) hpl
 rw[he]
 show wpAny _ _ (spliced ((false,eval a X.env)::backTo pos [(false,eval (.Name y py) X.env)])) _ _ s
 refine Calls.spliced_cons (wpAny_mono (ha.run pins s σ H F Γ I fo rl (R.left hgg)) (fun u s1 ⟨d,v,H1,e1,I1,r1,S1,i1⟩=>?_) fun _ _ x=>x.bind _)
 show wpAny _ _ (spliced ((false,eval (.Name y py) X.env)::backTo pos [])) _ _ s1
 refine Calls.spliced_cons (hb I1 (Calls.spliced_nil ?_))
 obtain⟨hnx,e2⟩:=x4r (R.next hgg e1)
 exact x6q I1 hnx i1 r1 (hk d hnx) fun tk=>Post.bind e1 S1 ⟨.bl (f d.ty),.bl (f d.ty),H1,e2,I1.tok _,rfl,.refl _,Is.bl_iff.mpr rfl⟩
theorem x7q{K:PySem.W.Frag}(d:D)(h:d.noX=true):PySem.W.kitOne K (.type d.ty) (.type "int")=some (z6p d.ty):=by cases d<;>first | rfl | (simp[D.noX] at h)
theorem x6n{K:PySem.W.Frag}(d:D)(h:d.noX=true):PySem.W.kitOne K (.type d.ty) (.type "bool")=some (z4s d.ty):=by cases d<;>first | rfl | (simp[D.noX] at h)
theorem y4r{K:PySem.W.Frag}(d:D)(h:d.noX=true):PySem.W.kitOne K (.type d.ty) (.type "tuple")=some (z2m d.ty):=by cases d<;>first | rfl | (simp[D.noX] at h)
end
theorem FnF.mono{P:Program}{w:World}{K:PySem.W.Frag}{mg:Str->Option Value}{base:Heap}{j k:Nat}{f:Addr}{fd:FuncData}{ps:List Str}{φ:List D->R (List D)}(F:FnF P w K mg base j f fd ps φ)(h:j<=k):FnF P w K mg base k f fd ps φ:=⟨F.ok.mono h,F.binds,F.kp⟩
noncomputable def spN(φ:List D->R D)(K:PySem.W.Frag):Sp:=fun vs H Q _=>∃ds d,IsAll K H ds vs/\φ ds = .ok d/\(∀v H',Same H H'->Is K H' d v->Q v H')
theorem x5f{φ:List D->R D}{K:PySem.W.Frag}{mg:Str->Option Value}{vs:List V}{H:Hp}{Q:VK}{E:XK}(h:spN φ K vs H Q E):spD K mg φ vs H Q E:=by
 obtain⟨ds,d,i,e,q⟩:=h
 exact⟨ds,i,(by rw[e];exact(fun z=>nomatch z)),(fun d' v H' e' S iv=>by rw[e] at e';cases e';exact q v H' S iv),(fun c C H' e'=>by rw[e] at e';cases e')⟩
theorem FnD.okN{P:Program}{w:World}{K:PySem.W.Frag}{mg:Str->Option Value}{base:Heap}{k:Nat}{f:Addr}{fd:FuncData}{ps:List Str}{φ:List D->R D}(F:FnD P w K mg base k f fd ps φ):FnOk P w K mg base (CXE P w) k f fd ps (spN φ K) :=
 F.ok.imp fun _ _ _ _ h=>x5f h
theorem law_true{c:List D->R D}(hc:∀ns:List Int,ns.length<=63->c [.lst (ns.map D.int)] = .ok (.bl true)){K:PySem.W.Frag}{H:Hp}{a:Addr}{ns:List Int}(hl:ns.length<=63)(hS:SqL K H a (ns.map V.int)):spN c K [.ref a] H (fun v _=>v = .bl true) fun _ _ _=>False :=
 ⟨[.lst (ns.map D.int)],.bl true,IsAll.cons (Is.lst_iff.mpr ⟨a,_,rfl,hS,IsAll.ints ns⟩) IsAll.nil,hc ns hl,fun v H' _ iv=>Is.bl_iff.mp iv⟩
theorem cxe_false{P:Program}{w:World}{H:Hp}{s:Shared}{e:Value}{s':Shared}(h:CXE P w [] H s (fun _ _ _=>False) e s'):False:=by
 obtain⟨_,_,_,_,_,_,_,_,_,_,_,_,_,_,_,_,_,_,_,_,_,_,_,_,_,_,z⟩:=h
 exact z
theorem walk_ofL{l:PySem.W.OpenLaw}{n k:Nat}{q:Program}{loose:List Str}{XP:(Str->Option Value)->Heap->Prop}{YP:World->Heap->Prop}{d:DefRec}{K:Params->PySem.W.Frag}{CX:World->CXT}(sp:PySem.W.Frag->Sp){x:Str}
 (hn:l.most=some n) (hn2:n<=sizeLine) (hdf:d.params.defaults=[]) (hr:Room k callerA)
 (hY:∀(w:World) (h:Heap),YP w h->(K w.params).In h)
 (F:∀(w:World) (mg:Str->Option Value) (fa:Addr) (h:Heap),(K w.params).In h->h.Ns mainGlobals mg->mg d.name=some (.ref fa) ->
   ∃fd:FuncData,(∀(s:Shared) (u:Value),BindsTo s fd ⟨[u],[]⟩ [(x,u)]) /\
    ∀base:Heap,(K w.params).In base->base.Ns mainGlobals mg->FnOk l.prog w (K w.params) mg base (CX w) k fa fd [x] (sp (K w.params)))
 (hsp:∀(K:PySem.W.Frag) (H:Hp) (a:Addr) (ns:List Int),ns.length<=n->SqL K H a (ns.map V.int)->sp K [.ref a] H (fun v _=>v = .bl true) fun _ _ _=>False)
 (hCX:∀(w:World) (H:Hp) (s:Shared) (e:Value) (s':Shared),CX w [] H s (fun _ _ _=>False) e s'->False) :
 PySem.W.WalkO q loose XP YP l.row.toRowW d [] (fun f vs=>PySem.call f vs) :=
 walk_of (K:=K) (CX:=CX) (sp:=fun w=>sp (K w.params)) hn hn2 hdf hr hY F (fun w H a ns h1 _ h3=>hsp (K w.params) H a ns h1 h3) hCX
end L3
namespace L3
open PySem PySem.Spec PyProof.Rows L2
noncomputable def Its(lo st:Int)(n:Nat):It:=⟨fun i _=>i<n,fun i H x H'=>H'=H/\x = .int (lo+st*(i:Int)),fun i _=>n<=i⟩
theorem y7q{P:Program}{w:World}{K:PySem.W.Frag}{tg:Expr}(it:Addr)(lo st:Int)(n:Nat):Turn P w K tg (Its lo st n) [it] it (fun i h=>IsRangeIter h it (lo+(i:Nat)*st) ((n:Int)-(i:Nat)) st) where
 mem:=by simp
 obj:=fun i h st b hb=>by
  have e:b=it:=by simpa using hb
  subst e
  exact⟨_,st,fun v z=>by
   have z':Data.fields _=Data.cell v:=z
   cases z'⟩
 keep:=fun i h h' st k=>k it (by simp) _ st
 item:=by
  intro X hP hw hK hc i pins s σ H E I hf sx hg
  subst hP hw hK
  obtain⟨f0,f1,f2,f3,f4,f5⟩:=hf it (by simp)
  have W:=Walks.range (prog:=X.prog) (w:=X.w) (I.ok.hd hc) it lo st n
  refine W.item i s _ _ hg sx fun v h' tk hv st' kk=>?_
  obtain⟨t,rfl⟩:=hv
  have I1:Inv X pins σ H { s with heap:=h',toks:=tk }:=I.turned (fun b o hb e=>kk b o (by simpa using hb) e) f0 f1 f3 f4 f5
  refine⟨_,rfl,y9j (s:={ s with heap:=h',toks:=tk }) (n:="range_iterator") st' rfl rfl (by decide) ⟨.int (lo+st*i),H,I1,⟨t,?_⟩,⟨rfl,rfl⟩,st',fun b hb=>(hf b hb).1⟩⟩
  rw[Int.mul_comm]
 done:=by
  intro X hP hw hK hc i pins s σ H E I hf sx hg
  subst hP hw hK
  obtain⟨f0,f1,f2,f3,f4,f5⟩:=hf it (by simp)
  exact wpAny_pyNext_range_end (I.ok.hd hc) sx (by have:n<=i:=hg;lia) fun h' eb=>⟨rfl,I.turned (t':=s.toks) (fun b o hb e=>eb b o hb e) f0 f1 f3 f4 f5⟩
 self:=fun _ _ _ _ _ st h=>wpAny_pyIter_rangeiter st h
theorem z7p{a b c:Int}(hc:0<c):Builtin.Range.rangeSize a b c=((z7o a b c:Nat):Int):=by
 unfold Builtin.Range.rangeSize z7o
 rw[if_pos hc]
 by_cases h:a<b
 ·rw[if_pos h,show b-a+c-1=(b-a-1)+c*1 by lia,Int.add_mul_ediv_left _ _ (by lia)]
  have:0<=(b-a-1)/c:=Int.ediv_nonneg (by lia) (by lia)
  lia
 ·rw[if_neg h]
  have h1:(b-a+c-1)/c<=0:=by
   have:(b-a+c-1)/c<=(c-1)/c:=Int.ediv_le_ediv hc (by lia)
   have h2:(c-1)/c=0:=Int.ediv_eq_zero_of_lt (by lia) (by lia)
   lia
  lia
theorem x0r{a b c:Int}(hc:0<c)(h:a<=b):((z7o a b c:Nat):Int)<=b-a:=by
 rw[<-z7p hc]
 unfold Builtin.Range.rangeSize
 rw[if_pos hc]
 by_cases h:a<b
 ·rw[if_pos h]
  have:=Int.ediv_le_self (a:=b-a-1) c (by lia)
  lia
 ·rw[if_neg h];lia
theorem y6k{a b c:Int}(ha:-1073741824<=a)(ha':a<1073741824)(hb:-1073741824<=b)(hb':b<1073741824)(hc:0<c)(hc':c<1073741824):Builtin.Range.small a b c=true:=by
 unfold Builtin.Range.small
 have hs:((z7o a b c:Nat):Int)<=4294967296:=by
  by_cases h:a<=b
  ·have:=x0r hc h;lia
  ·rw[<-z7p hc]
   unfold Builtin.Range.rangeSize
   rw[if_pos hc,if_neg (by lia)];lia
 rw[z7p hc]
 generalize z7o a b c=n at *
 simp only[Builtin.Range.rangeFitsLong,Bool.and_eq_true,Bool.or_eq_true,decide_eq_true_eq,beq_iff_eq,if_pos (show c>0 from hc)]
 lia
section
variable {X:Cx}{tg a b c:Expr}{ga gb gc:G->R D}
theorem x2x{pins:List (Addr×Obj)}{σ:St}{H:Hp}{s:Shared}{R:It->Hp->Prop}{E:Value->Shared->Prop}{lo hi st:Int}{t u v:Tok}{tk:Nat}(I:Inv X pins σ H s)(h1:-1073741824<=lo)(h2:lo<1073741824)(h3:-1073741824<=hi)(h4:hi<1073741824)(h5:0<st)(h6:st<1073741824)
 (q:R (Its lo st (z7o lo hi st)) H):wpAny (model X.prog X.w) X.A (pyIter (.ref s.heap.objs.size)) (PIE X pins σ tg R) E { s with heap:=s.heap.push { cls:=.type "range",data:=.fields #[.int lo t,.int hi u,.int st v] },toks:=tk }:=by
 refine wpAny_pyIter_range (IsRange.new ..) (y6k h1 h2 h3 h4 h5 h6) ?_
 have I1:Inv X pins σ H { s with heap:=s.heap.push { cls:=.type "range",data:=.fields #[.int lo t,.int hi u,.int st v] },toks:=tk }:=I.kept fun b o e=>Heap.get?_push_of_some _ e
 refine⟨(s.heap.push { cls:=.type "range",data:=.fields #[.int lo t,.int hi u,.int st v] }).objs.size,[(s.heap.push { cls:=.type "range",data:=.fields #[.int lo t,.int hi u,.int st v] }).objs.size],_,_,H,rfl,
  I1.kept (t':=tk) fun b o e=>Heap.get?_push_of_some _ e,y7q _ lo st (z7o lo hi st),?_,fun b hb=>?_,q⟩
 ·have e1:lo+((0:Nat):Int)*st=lo:=by simp
  have e2:((z7o lo hi st:Nat):Int)-((0:Nat):Int)=Builtin.Range.rangeSize lo hi st:=by rw[z7p h5];lia
  show IsRangeIter _ _ (lo+((0:Nat):Int)*st) (((z7o lo hi st:Nat):Int)-((0:Nat):Int)) st
  rw[e1,e2]
  exact Heap.get?_push_size _ rfl
 ·have e:b=(s.heap.push { cls:=.type "range",data:=.fields #[.int lo t,.int hi u,.int st v] }).objs.size:=by simpa using hb
  subst e
  exact I1.fpOk (Nat.le_refl _) (I1.hok.fresh (Nat.le_refl _))
theorem y7y(lo st:Int)(n:Nat):(z8f lo st n).length=n:=by unfold z8f;simp
theorem x4f{K:PySem.W.Frag}{H:Hp}{F:List Addr}(lo st:Int)(n:Nat):JD K H F (Its lo st n) (z8f lo st n):=fun H1 S=>by
 rw[y7y]
 refine⟨fun j hj=>⟨hj,fun x H2 y=>⟨y.1,.int (lo+st*(j:Int)),by unfold z8f;simp[hj],fun F' _=>?_⟩⟩,Nat.le_refl _⟩
 exact Is.int_iff.mpr y.2
theorem y6s{p pos:Pos}(ha:PD X a ga)(hb:PD X b gb)(hc:PD X c gc)(hm:X.mg "range"=none)(hg:Gl X "range":=by rfl)(hs:starEach [a,b,c] X.env=[(false,eval a X.env),(false,eval b X.env),(false,eval c X.env)]:=by rfl)(hs2:starEach [b,c] X.env=[(false,eval b X.env),(false,eval c X.env)]:=by rfl) :
 PIF X tg (.Call (.Name "range" p) [a,b,c] [] pos) (y0q ga gb gc):=by
 refine⟨fun pins s σ H F Γ I fo rl hgg=>?_⟩
 refine Call_ (z4q I hg hm boot_range (PyProof.Rows.callWith_type1 ?_ (by rw[hs,hs2]) (by rw[hs2];rfl)))
 rw[hs]
 show wpAny _ _ (spliced ((false,eval a X.env)::backTo pos [(false,eval b X.env),(false,eval c X.env)])) _ _ s
 refine Calls.spliced_cons (wpAny_mono (ha.run pins s σ H F Γ I fo rl (R.left hgg)) (fun u s1 ⟨d,v,H1,e1,I1,r1,S1,i1⟩=>?_) fun _ _ x=>x.bind _)
 have hg1:=R.next hgg e1
 show wpAny _ _ (spliced ((false,eval b X.env)::backTo pos [(false,eval c X.env)])) _ _ s1
 refine Calls.spliced_cons (wpAny_mono (hb.run pins s1 σ H1 F Γ I1 (fo.same S1) (rl.same S1) (R.left hg1)) (fun u2 s2 ⟨d2,v2,H2,e2,I2,r2,S2,i2⟩=>?_) fun _ _ x=>z1h.later e1 S1 (x.bind _))
 have hg2:=R.next hg1 e2
 show wpAny _ _ (spliced ((false,eval c X.env)::backTo pos [])) _ _ s2
 refine Calls.spliced_cons (wpAny_mono (hc.run pins s2 σ H2 F Γ I2 ((fo.same S1).same S2) ((rl.same S1).same S2) (R.left hg2)) (fun u3 s3 ⟨d3,v3,H3,e3,I3,r3,S3,i3⟩=>Calls.spliced_nil ?_) fun _ _ x=>z1h.later e1 S1 (z1h.later e2 S2 (x.bind _)))
 have hg3:=R.next hg2 e3
 cases d with
 | int i =>
   cases d2 with
   | int j =>
     cases d3 with
     | int k =>
       obtain⟨⟨⟨h1,h2⟩,⟨h3,h4⟩,h5,h6⟩,e4⟩:=R.guard_ne (show R.guard ((-1073741824<=i/\i<1073741824)/\(-1073741824<=j/\j<1073741824)/\0<k/\k<1073741824) (.ok (z8f i k (z7o i j k))) ≠ .no from hg3)
       rw[Is.int_iff.mp i1] at r1
       rw[Is.int_iff.mp i2] at r2
       rw[Is.int_iff.mp i3] at r3
       obtain⟨t,rfl⟩:=(show ∃t,u=Value.int i t from r1)
       obtain⟨t',rfl⟩:=(show ∃t,u2=Value.int j t from r2)
       obtain⟨t'',rfl⟩:=(show ∃t,u3=Value.int k t from r3)
       refine call_range_3 (by lia) (thn (x2x (tg:=tg) (R:=fun J H'=>J=Its i k (z7o i j k)/\H'=H3) I3 h1 h2 h3 h4 h5 h6 ⟨rfl,rfl⟩) fun itv s4 ⟨it,fp,tn,J,H',ei,I4,T,t0,fk,eJ,eH⟩=>?_) (.inl (PyProof.noPylong_small (by lia)))
       subst eJ eH
       exact⟨_,it,fp,tn,_,H',(R.step e1 _).trans ((R.step e2 _).trans ((R.step e3 _).trans e4)),ei,I4,(S1.trans S2).trans S3,T,t0,fk,x4f i k _⟩
     | _=>exact absurd rfl hg3
   | _=>exact absurd rfl hg3
 | _=>exact absurd rfl hg3
end
section
variable {prog:Program}{w:World}{A:Around}{E:Value->Shared->Prop}{s:Shared}
open HT in
theorem z7l{t sl:Addr}{items:Array Value}{vl vu:Value}{lo hi:Option Int}{Q:Value->Shared->Prop}(ht:IsTup s.heap t items)(hs:s.heap.IsSliceOf sl vl vu .none)(pl:IsPart vl lo)(pu:IsPart vu hi)
 (hw:HT.sIx items.size 0 lo=0/\HT.sIx items.size items.size hi=items.size) (h:Q (.ref t) s):wpAny (model prog w) A (getItem (.ref t) (.ref sl)) Q E s:=by
 obtain⟨os,hos,hcs,hds⟩:=id hs
 have hTs:s.TypeIs (.ref sl) "slice":=⟨os,hos,hcs⟩
 unfold getItem
 try with_reducible refine wpAny_holding ?_
 first | refine wpAny_bind (wpAny_pure ?_) | skip
 refine wpAny_bind (wpAny_sequenceKey ht.typeIs (by decide) ?_)
 refine wpAny_bind (wpAny_callSpecial?_slot (name:=Str.ofString "__getitem__") ht.typeIs PyProof.Rows.slot_tuple_getitem
  (wpAny_call_entry PyProof.Rows.slot_tuple_getitem ht.typeIs entry_tuple_getitem ?_ (args_tuple_getitem _ _)))
 show wpAny _ _ (Builtin.Tuple.tupleItemsOf (.ref t)>>=_) _ _ s
 refine wpAny_bind (tupleItemsOf_ ht ?_)
 refine wpAny_bind (wpAny_typeOf hTs ?_)
 rw[if_pos (by decide)]
 refine wpAny_bind (z6a hs pl pu ?_)
 have hyes:(((HT.sIx items.size 0 lo:Nat):Int)==0&&(1:Int)==1&&(HT.sIx items.size items.size hi-HT.sIx items.size 0 lo)==items.size)=true:=by
  rw[hw.1,hw.2];simp
 show wpAny _ _ (if (((HT.sIx items.size 0 lo:Nat):Int)==0&&(1:Int)==1&&(HT.sIx items.size items.size hi-HT.sIx items.size 0 lo)==items.size)=true then _ else _) _ _ s
 rw[if_pos hyes]
 unfold Builtin.Tuple.tupleIsExact
 refine wpAny_bind (wpAny_bind (wpAny_typeOf ht.typeIs ?_))
 refine wpAny_pure ?_
 rw[if_pos (by decide)]
 exact wpAny_bind (wpAny_rule (wpAny_pure ⟨_,rfl,wpAny_pure h⟩))
end
section
variable {X:Cx}{e a b c:Expr}{g ga gb gc:G->R D}{lo hi:Option Expr}{gl gh:G->R (Option Int)}{pos p2:Pos}
noncomputable def rSlW(K:PySem.W.Frag):V->Option Int->Option Int->Hp->VK->Prop:=fun x lo hi H Q=>∃a xs,x = .ref a/\SqT K H a xs/\(HT.sIx xs.length 0 lo=0/\HT.sIx xs.length xs.length hi=xs.length)/\Q (.ref a) H
theorem x2y:SlR X (rSlW X.K):=by
 intro pins s σ H x v vl vu lo hi sl Q I rx hs pl pu h
 obtain⟨a,xs,rfl,hx,hw,q⟩:=h
 cases rx
 obtain⟨its,r,ht,hz⟩:=I.tuple hx
 have hlen:its.toArray.size=xs.length:=by rw[List.size_toArray];exact r.length.symm
 refine⟨"tuple",_,PyProof.Rows.slot_tuple_getitem.lookup,ht.typeIs,?_⟩
 exact z7l ht hs pl pu (by rw[hlen];exact hw) ⟨.ref a,H,I,rfl,q⟩
structure POD (X:Cx) (e:Option Expr) (g:G->R (Option Int)):Prop where
 run:∀(pins:List (Addr×Obj)) (s:Shared) (σ:St) (H:Hp) (F:List Addr) (Γ:G),Inv X pins σ H s->FOk H F->Rel X.K H F Γ σ->g Γ ≠ .no ->
  wpAny (model X.prog X.w) X.A (evalPart e X.env) (fun u s'=>∃o H',g Γ = .ok o/\Inv X pins σ H' s'/\IsPart u o/\Same H H') (z1h X pins σ H (g Γ)) s
theorem podN:POD X none gON:=⟨fun pins s σ H F Γ I fo rl hg=>by
 rw[evalPart_none]
 exact wpAny_pure ⟨none,H,rfl,I,.none,.refl _⟩⟩
theorem podS(h:PD X e g):POD X (some e) (gOS g):=⟨fun pins s σ H F Γ I fo rl hg=>by
 rw[evalPart_some]
 refine wpAny_mono (h.run pins s σ H F Γ I fo rl (R.left hg)) (fun u s1 ⟨d,x,H1,e1,I1,r1,S1,i1⟩=>?_) fun _ _ x=>x.bind _
 have hg1:=R.next hg e1
 cases d with
 | int i =>
   rw[Is.int_iff.mp i1] at r1
   obtain⟨t,rfl⟩:=(show ∃t,u=Value.int i t from r1)
   exact⟨some i,H1,R.step e1 _,I1,.int i t,S1⟩
 | _=>exact absurd rfl hg1⟩
theorem IsAll.cut{K:PySem.W.Frag}{H:Hp}{ds:List D}{xs:List V}(h:IsAll K H ds xs)(lo hi:Option Int):IsAll K H (cutL ds lo hi) (cutV xs lo hi):=by
 have hl:=h.length
 unfold cutL cutV
 rw[hl]
 exact(h.drop _).take _
theorem x5h{r:V->Option Int->Option Int->Hp->VK->Prop}(hr:SlR X.nox r)(ha:PD X a ga)(hl:POD X lo gl)(hh:POD X hi gh){pins:List (Addr×Obj)}{s:Shared}{σ:St}{H:Hp}{F:List Addr}{Γ:G}(I:Inv X pins σ H s)(fo:FOk H F)(rl:Rel X.K H F Γ σ)
 {α:Type} {rr:R α} {k:D->Option Int->Option Int->R α} (hrr:rr=(ga Γ>>=fun d=>gl Γ>>=fun l=>gh Γ>>=fun h=>k d l h)) (hg:rr ≠ .no) {Q:Value->Shared->Prop}
 (hq:∀d x l h H3,k d l h ≠ .no->rr=k d l h->Same H H3->Is X.K H3 d x->FOk H3 F->Rel X.K H3 F Γ σ->r x l h H3 fun z H'=>∀u s',Inv X pins σ H' s'->RelV z u->Q u s') :
 wpAny (model X.prog X.w) X.A (eval (.Subscript a (.Slice lo hi none p2) pos) X.env) Q (z1h X pins σ H rr) s:=by
 subst hrr
 refine Subscript_ (wpAny_mono (ha.run pins s σ H F Γ I fo rl (R.left hg)) (fun v s1 ⟨d,x,H1,e1,I1,r1,S1,i1⟩=>?_) fun _ _ x=>x.bind _)
 have hg1:=R.next hg e1
 refine wpAny_Slice (wpAny_mono (hl.run pins s1 σ H1 F Γ I1 (fo.same S1) (rl.same S1) (R.left hg1)) (fun vl s2 ⟨l,H2,e2,I2,pl,S2⟩=>?_) fun _ _ x=>z1h.later e1 S1 (x.bind _))
 have hg2:=R.next hg1 e2
 refine wpAny_mono (hh.run pins s2 σ H2 F Γ I2 ((fo.same S1).same S2) ((rl.same S1).same S2) (R.left hg2)) (fun vu s3 ⟨h,H3,e3,I3,pu,S3⟩=>?_) fun _ _ x=>z1h.later e1 S1 (z1h.later e2 S2 (x.bind _))
 have hg3:=R.next hg2 e3
 have S03:=(S1.trans S2).trans S3
 rw[evalPart_none]
 refine wpAny_pure ?_
 have I4:Inv X pins σ H3 { s3 with heap:=s3.heap.push { cls:=.type "slice",data:=.fields #[vl,vu,.none] } }:=I3.kept (t':=s3.toks) fun b ob q=>Heap.get?_push_of_some _ q
 obtain⟨T,id,hT,ht,hgi⟩:=hr pins { s3 with heap:=s3.heap.push { cls:=.type "slice",data:=.fields #[vl,vu,.none] } } σ H3 x v vl vu l h s3.heap.objs.size _ (I4.wish _) r1 (Heap.IsSliceOf.new ..) pl pu (hq d x l h H3 hg3 ((R.step e1 _).trans ((R.step e2 _).trans (R.step e3 _))) S03 ((i1.same S2).same S3) (fo.same S03) (rl.same S03))
 show wpAny (model X.prog X.w) X.A (subscriptTail a (.Slice lo hi none p2) v (.ref s3.heap.objs.size)) _ _ { s3 with heap:=s3.heap.push { cls:=.type "slice",data:=.fields #[vl,vu,.none] } }
 refine tail_any (ops:=[.ref s3.heap.objs.size,v]) ht hT (wpAny_mono hgi (fun u s5 ⟨z,H5,I5,rz,q5⟩=>q5 u s5 I5.unwish rz) fun _ _ z=>False.elim z) (by with_unfolding_all rfl)
theorem z6e(ha:PD X a ga)(hl:POD X lo gl)(hh:POD X hi gh):PD X (.Subscript a (.Slice lo hi none p2) pos) (gSl ga gl gh):=⟨fun pins s σ H F Γ I fo rl hg =>
 x5h (SlR.or (SlR.or x5g x2y) x2z) ha hl hh I fo rl (k:=dCut) rfl hg fun d x l h H3 hk er S i fo3 rl3=>by
  cases d with
  | tup ds =>
    obtain⟨p,xs,rfl,h1,h2⟩:=Is.tup_iff.mp i
    by_cases hw:HT.sIx xs.length 0 l=0/\HT.sIx xs.length xs.length h=xs.length
    ·refine .inl (.inr ⟨p,xs,rfl,h1,hw,fun u s' I' rz=>⟨_,.ref p,H3,er,I',rz,S,Is.tup_iff.mpr ⟨p,xs,rfl,h1,?_⟩⟩⟩)
     have:=h2.cut l h
     unfold cutV at this
     rw[hw.1,hw.2,List.drop_zero,Nat.sub_zero,List.take_length] at this
     exact this
    ·refine .inl (.inl ⟨p,xs,rfl,h1,hw,fun q hq u s' I' rz=>?_⟩)
     have S2:=z1v hq (.tup (cutV xs l h))
     exact⟨_,.ref q,_,er,I',rz,S.trans S2,Is.tup_iff.mpr ⟨q,_,rfl,SqT.of z0u,(h2.cut l h).same S2⟩⟩
  | lst ds =>
    obtain⟨p,xs,rfl,h1,h2⟩:=Is.lst_iff.mp i
    refine .inr ⟨p,xs,rfl,h1,fun q hq u s' I' rz=>?_⟩
    have S2:=z1v hq (.lst (cutV xs l h))
    exact⟨_,.ref q,_,er,I',rz,S.trans S2,Is.lst_iff.mpr ⟨q,_,rfl,SqL.of z0u,(h2.cut l h).same S2⟩⟩
  | _=>exact absurd rfl hk⟩
end
end L3
namespace L3
open PySem PySem.Spec PyProof.Rows L2
section
variable {prog:Program}{w:World}{A:Around}{E:Value->Shared->Prop}{s:Shared}
theorem z8j{h h':Heap}{l it:Addr}{items:Array Value}(hl:h.IsList l items)(hk:∀b o,b≠it->h.get? b=some o->h'.get? b=some o)(hne:l≠it):h'.IsList l items:=by
 obtain⟨o,e,r⟩:=hl
 exact⟨o,hk l o hne e,r⟩
theorem y3l{it t:Addr}{items:Array Value}(hne:t≠it):∀(n i:Nat) (s:Shared) (Q:List Value->Shared->Prop),s.heap.IsListIter it t i->s.heap.IsList t items->i+n<=items.size ->
 (∀h',h'.IsListIter it t (i+n)->Heap.SameBut it s.heap h'->Q ((items.toList.drop i).take n) { s with heap:=h' })->wpAny (model prog w) A (draw (.ref it) n) Q E s
 | 0,i,s,Q,hit,_,_,hQ=>by
   show wpAny _ _ (pure []) Q E s
   exact wpAny_pure (by simpa using hQ s.heap hit (Heap.SameBut.refl ..))
 | n+1,i,s,Q,hit,ht,hle,hQ=>by
   have hlt:i<items.size:=by lia
   show wpAny _ _ (pyNext (.ref it)>>=_) Q E s
   refine wpAny_bind (wpAny_pyNext_list_item hit ht (x:=items[i]) (by simp[hlt]) fun h₁ hit₁ hs₁=>?_)
   refine wpAny_bind (wpAny_holding (y3l hne n (i+1) _ _ hit₁ (z8j ht (fun b o hb e=>hs₁.extBut b o hb e) hne) (by lia) fun h₂ hit₂ hs₂=>wpAny_pure ?_))
   have hd:items.toList.drop i=items[i]::items.toList.drop (i+1):=by simp[List.drop_eq_getElem_cons,hlt]
   have:=hQ h₂ (by rw[show i+(n+1)=i+1+n by lia];exact hit₂) (hs₁.trans hs₂)
   rw[hd,List.take_succ_cons] at this
   exact this
theorem z8v{t:Addr}{items:Array Value}{Q:List Value->Shared->Prop}(hh:A.handled=none)(ht:s.heap.IsList t items)
 (hQ:∀h',Heap.ExtBut s.heap.objs.size s.heap h'->Q items.toList { s with heap:=h' }):wpAny (model prog w) A (unpackItems (.ref t) items.size none) Q E s:=by
 have hlt:t≠s.heap.objs.size:=by obtain⟨o,ho,_⟩:=ht;exact Nat.ne_of_lt (Heap.lt_size ho)
 have hpush:∀o:Obj,(s.heap.push o).IsList t items:=fun o=>z8j (it:=s.heap.objs.size) ht (fun b u _ e=>Heap.get?_push_of_some _ e) hlt
 unfold unpackItems
 refine wpAny_bind ?_
 ·unfold notIterableAtAll
  refine wpAny_bind (wpAny_specialOf ht.typeIs slot_list_iter.lookup ?_)
  refine wpAny_pure ?_
  simp only[Bool.false_eq_true,if_false]
  refine wpAny_bind (wpAny_holding (wpAny_pyIter_list ht ?_))
  refine wpAny_bind (wpAny_holding (y3l hlt items.size 0 _ _ ⟨_,Heap.get?_push_size _ rfl,rfl,rfl⟩ (hpush _) (by lia) fun h₁ hit₁ hs₁=>?_))
  have hall:List.take items.size (List.drop 0 items.toList)=items.toList:=by
   rw[List.drop_zero];exact List.take_of_length_le (by simp)
  rw[hall]
  rw[if_neg (by simp)]
  have ht₁:h₁.IsList t items:=z8j (hpush _) (fun b o hb e=>hs₁.extBut b o hb e) hlt
  refine wpAny_bind (wpAny_holding (wpAny_pyNext_list_end hh hit₁ ht₁ (by simp) fun h₂ he₂=>?_))
  simp only[Option.isSome_none,Bool.false_eq_true,if_false]
  refine wpAny_pure (hQ h₂ fun b o hb e=>he₂ b o hb (hs₁.extBut b o hb (Heap.get?_push_of_some _ e)))
theorem z8l{env:Env}{elts:List Expr}{x1}{pos:Pos}{t:Addr}{items:Array Value}{Q:Unit->Shared->Prop}(hh:A.handled=none)(ht:s.heap.IsList t items)
 (hn:(assignEach elts env).length=items.size) (hstar:(assignEach elts env).findIdx? (·.1)=none)
 (h:∀h',Heap.ExtBut s.heap.objs.size s.heap h'->wpAny (model prog w) A (assignInOrder ((assignEach elts env).map (·.2)) items.toList) Q E { s with heap:=h' }) :
 wpAny (model prog w) A (assign (.Tuple elts x1 pos) env (.ref t)) Q E s:=by
 rw[assign_Tuple]
 refine wpAny_bind (wpAny_standAt ?_)
 unfold unpack
 rw[hn,hstar]
 exact wpAny_bind (wpAny_holding (z8v hh ht h))
end
noncomputable def setV:List Nat->List V->St->St
 | i::is,v::vs,σ=>setV is vs (σ.set i (some v))
 | _,_,σ=>σ
theorem Rel.setAll{K:PySem.W.Frag}{H:Hp}{F:List Addr}:∀(is:List Nat) (ds:List D) (vs:List V) (Γ:G) (σ:St),IsAll K (hid F H) ds vs->Rel K H F Γ σ->Rel K H F (L3.setAll is ds Γ) (setV is vs σ)
 | [],_,_,Γ,σ,_,r=>by unfold L3.setAll setV;exact r
 | _::_,[],vs,Γ,σ,h,r=>by rw[IsAll.nil_iff.mp h];unfold L3.setAll setV;exact r
 | i::is,d::ds,vs,Γ,σ,h,r=>by
   obtain⟨x,xs,rfl,hx,t⟩:=IsAll.cons_iff.mp h
   unfold L3.setAll setV
   exact Rel.setAll is ds xs _ _ t (r.set_ro hx)
section
variable {X:Cx}{e:Expr}{g:G->R D}{pos pt:Pos}
theorem x5l{es:List Expr}{t:TGs}{is:List Nat}{kt}(hp:PGs X.nox es t)(ht:∀(vs:List V) σ H (Q:St->Hp->Prop),vs.length=is.length->Q (setV is vs σ) H->t vs σ H Q)(he:PD X e g)(hc:X.calm=true)(hln:es.length=is.length)
 (hn:(assignEach es X.env).length=es.length:=by rfl) (hst:(assignEach es X.env).findIdx? (·.1)=none:=by rfl)
 (hs:swapsWithSole [.Tuple es kt pt] e pos.line X.env=pure false:=by rfl) (hw:swappedStores [.Tuple es kt pt] e X.env=pure none:=by rfl)
 (h1:(assignEach [.Tuple es kt pt] X.env).map (·.2)=[assign (.Tuple es kt pt) X.env]:=by rfl):PQ X (.Assign [.Tuple es kt pt] e pos) (gUnp is g):=by
 refine⟨fun pins s σ H F Γ I fo rl hg=>?_⟩
 refine wpAny_Assign_stores (wpAny_mono (he.run pins s σ H F Γ I fo rl (z2c hg)) (fun u s1 ⟨d,v,H1,e1,I1,r1,S1,i1⟩=>?_) fun _ _ x=>x.lift fo rl _) hs hw
 rw[h1]
 have hg1:=z7w hg e1
 have fin:∀(ds:List D) (xs:List V) (its:List Value) (s2:Shared),dSeq d = .ok ds->ds.length=is.length->D.noLs ds=true->gUnp is g Γ = .ok (.nx (L3.setAll is ds Γ))->Vals xs its->IsAll X.K H1 ds xs->Inv X pins σ H1 s2 ->
  wpAny (model X.prog X.w) X.A (assignInOrder ((assignEach es X.env).map (·.2)) its) (fun _ s3=>FlP X pins H F (gUnp is g Γ) .next s3) (FlX X pins H F (gUnp is g Γ)) s2:=fun ds xs its s2 ed hl hnl ev rv ia I2=>by
  refine wpAny_mono (hp pins s2 σ H1 xs its (fun σ' H'=>σ'=setV is xs σ/\H'=H1) (I2.wish _) rv (ht xs σ H1 _ (by rw[<-ia.length,hl]) ⟨rfl,rfl⟩)) (fun _ s3 ⟨σ',H',I3,e3,e4⟩=>?_) fun _ _ z=>False.elim z
  subst e3 e4
  exact⟨_,ev,_,H',F,I3.unwish,fo.same S1,Rel.setAll is ds xs _ _ (IsAll.hid (fo.same S1) ds xs hnl ia) (rl.same S1),.of_same S1⟩
 cases d with
 | tup ds =>
   obtain⟨⟨hl,hnl⟩,e2⟩:=R.guard_ne (show R.guard (ds.length=is.length/\D.noLs ds=true) (R.ok (Fl.nx (L3.setAll is ds Γ)))≠R.no from hg1)
   obtain⟨p,xs,rfl,h1',h2⟩:=Is.tup_iff.mp i1
   cases (show u=Value.ref p from r1)
   obtain⟨its,rv,hT,hz⟩:=I1.tuple h1'
   refine assign_Tuple_tuple (I1.ok.hd hc) hT (by rw[hn,hln,List.size_toArray,<-rv.length,<-h2.length,hl]) hst fun h' hx=>?_
   exact fin ds xs its _ rfl hl hnl ((z3r e1).trans e2) rv h2 (I1.kept (t':=s1.toks) fun b o e=>hx b o (Nat.ne_of_lt (Heap.lt_size e)) e)
 | lst ds =>
   obtain⟨⟨hl,hnl⟩,e2⟩:=R.guard_ne (show R.guard (ds.length=is.length/\D.noLs ds=true) (R.ok (Fl.nx (L3.setAll is ds Γ)))≠R.no from hg1)
   obtain⟨p,xs,rfl,h1',h2⟩:=Is.lst_iff.mp i1
   cases (show u=Value.ref p from r1)
   obtain⟨its,rv,hT,hz⟩:=I1.list h1'
   refine z8l (I1.ok.hd hc) hT.isList (by rw[hn,hln,List.size_toArray,<-rv.length,<-h2.length,hl]) hst fun h' hx=>?_
   exact fin ds xs its _ rfl hl hnl ((z3r e1).trans e2) rv h2 (I1.kept (t':=s1.toks) fun b o e=>hx b o (Nat.ne_of_lt (Heap.lt_size e)) e)
 | _=>exact absurd rfl hg1
theorem y6o(i j:Nat){x y:Str}{px py:Pos}{kt}(he:PD X e g)(nd:X.N.Nodup)(hc:X.calm=true)(hi:X.N[i]? = some x:=by rfl)(hj:X.N[j]? = some y:=by rfl)
 (hx:Loc X.env.scope x:=by first | exact Or.inl rfl | exact Or.inr rfl) (hy:Loc X.env.scope y:=by first | exact Or.inl rfl | exact Or.inr rfl)
 (fx:X.fn x=true∨X.env.scope.names.lookup x=some .local:=by first | exact .inl rfl | exact .inr rfl) (fy:X.fn y=true∨X.env.scope.names.lookup y=some .local:=by first | exact .inl rfl | exact .inr rfl)
 (hs:swapsWithSole [.Tuple [.Name x px,.Name y py] kt pt] e pos.line X.env=pure false:=by rfl) (hw:swappedStores [.Tuple [.Name x px,.Name y py] kt pt] e X.env=pure none:=by rfl) :
 PQ X (.Assign [.Tuple [.Name x px,.Name y py] kt pt] e pos) (gUnp [i,j] g) :=
 x5l (z6u (z5v (X:=X.nox) nd hi hx fx) (z6u (z5v (X:=X.nox) nd hj hy fy) y4j rfl) rfl)
  (fun vs σ H Q hl q=>match vs,hl,q with | [a,b],_,q=>⟨a,[b],rfl,b,[],rfl,rfl,q⟩) he hc rfl rfl rfl hs hw
end
noncomputable def bmV:List Value:=[.type "ValueError",.type "Exception",.type "BaseException",.type "object"]
noncomputable def x6x(h:Heap)(C:Addr):Prop:=∃bm N nm q bs hdct sn sub ab col dd k0 k1 k2 k3 k5 mN,h.get? C=some (excClassObj nm q C N bs bm hdct sn sub ab col dd k0 k1 k2 k3 k5 "ValueError.__new__")/\h.Ns N mN/\mN "__init__"=none/\OwnTail h bmV bm
theorem y9p{K:PySem.W.Frag}{h:Heap}{C:Addr}(X:K.In h)(q:PySem.W.excIn K C bmV "ValueError.__new__"=true):x6x h C:=by
 unfold PySem.W.excIn at q
 cases e:K.lookup C with
 | none=>rw[e] at q;cases q
 | some o =>
   rw[e] at q
   obtain⟨cls,dd,data,sl⟩:=o
   split at q
   ·rename_i heq
    obtain⟨rfl,rfl,rfl,rfl⟩:cls=_/\dd=_/\data=_/\sl=_:=by
     have z:=Option.some.inj heq
     injection z with z1 z2 z3 z4
     exact⟨z1,z2,z3,z4⟩
    split at q
    ·rename_i hm hs
     rename_i cd xa xb C' bm k0 k1 k2 k3 n k5
     simp only[Bool.and_eq_true,beq_iff_eq,Bool.not_eq_true'] at q
     obtain⟨⟨⟨⟨⟨q1,q2⟩,q3⟩,q4⟩,q5⟩,q6⟩:=q
     obtain⟨nm,bs,mro,ns,qn,hd,sn,sub,ab,col,del⟩:=cd
     subst q1 q2
     have h1:mro = .ref C'::bm:=hm
     have h2:del=false:=q3
     subst h1 h2
     have h3:sl=#[k0,k1,k2,k3,some (.builtin "ValueError.__new__"),k5]:=by
      cases sl with | mk l=>exact congrArg Array.mk hs
     subst h3
     exact⟨bm,ns,nm,qn,bs,hd,sn,sub,ab,col,dd,k0,k1,k2,k3,k5,_,X _ _ e,.of_isNs (PySem.W.isNs_of_in X q5),PySem.W.nsMap_none_of_in X q5 q6,PySem.W.tail_of_in X q4⟩
    ·cases q
   ·cases q
structure XOk (K:PySem.W.Frag) (mg:Str->Option Value) (c:Er) (C:Addr):Prop where
 ns:PySem.W.nsIn K mainGlobals c.nm=some (some (.ref C))
 mg:mg c.nm=some (.ref C)
 ex:PySem.W.excIn K C bmV "ValueError.__new__"=true
section
variable {X:Cx}{e:Expr}{g:G->R D}{pos np cpos:Pos}
theorem x7s{pins:List (Addr×Obj)}{σ:St}{H:Hp}{s:Shared}{q:Addr}(I:Inv X pins σ H s)(hq:s.heap.get? q=none):H q=none:=by
 cases e:H q with
 | none=>rfl
 | some o=>obtain⟨ob,h⟩:=x2j (I.hok q o e);rw[hq] at h;cases h
theorem y5k{c:Er}{C:Addr}{x:Str}{d:D}(hX:XOk X.K X.mg c C)(he:PD X e (gC d))(hc:X.calm=true)(hex:X.ex=[]:=by rfl)(hxn:x=c.nm:=by rfl)(hg:Gl X x:=by rfl)(hdb:(x==("__debug__":Str))=false:=by decide)
 (hs:starEach [e] X.env=(false,eval e X.env)::starEach [] X.env:=by rfl):PQ X (.Raise (some (.Call (.Name x np) [e] [] cpos)) none pos) (z6n c):=by
 refine⟨fun pins s σ H F Γ I fo rl _=>?_⟩
 subst hxn
 obtain⟨bm,N,nm,q,bs,hdct,sn,sub,ab,col,dd,k0,k1,k2,k3,k5,mN,hC,hN,hni,T⟩:=y9p I.mod.kin hX.ex
 refine wpAny_Raise_call_subT (C:=C) (nm:=nm) (q:=q) (N:=N) (bs:=bs) (bm:=bm) (hdct:=hdct) (sn:=sn) (sub:=sub) (ab:=ab) (col:=col) (dd:=dd) (k0:=k0) (k1:=k1) (k2:=k2) (k3:=k3) (k5:=k5)
  PySem.F.excBase_ValueError (mN:=mN) (T.hasType PySem.F.excBase_ValueError.hasBase) (I.ok.hd hc) (by rw[hs];rfl) hni (z9y I hg hX.mg ⟨rfl,?_⟩ hdb)
 rw[hs]
 refine Calls.evalArgs_plain (Calls.spliced_cons (wpAny_mono (he.run pins s σ H F Γ I fo rl (fun z=>nomatch z)) (fun u s1 ⟨d',v,H1,e1,I1,r1,S1,i1⟩=>Calls.spliced_nil ?_) fun x s1 ⟨c',H',e',_⟩=>by cases e'))
 refine⟨rfl,by show 1<=sizeLine;decide,I1.bk _ _ hC,hN.keeps I1.bk,T.keeps I1.bk,fun h' en M=>?_⟩
 obtain⟨t,hte,ht0,ht1⟩:=M.there
 have I2:Inv X pins σ H1 { s1 with heap:=h' }:=I1.kept (t':=s1.toks) fun b o q=>M.keeps b o q
 obtain⟨g1,g2,g3,g4⟩:=I1.gone hex M.new
 exact⟨c,Γ,σ,H1,F,rfl,⟨I2,en,C,_,_,rfl,hX.mg,x7s I1 M.new,g1,g2,g3,g4,hte,rfl,rfl,⟨_,rfl⟩,.inl rfl⟩,fo.same S1,rl.same S1,.of_same S1⟩
end
section
variable {K:PySem.W.Frag}{M:Model}{A:Around}{E:Value->Shared->Prop}{s:Shared}
end
structure XCls (K:PySem.W.Frag) (C:Addr):Prop where
 ga:PySem.W.findIn K (.ref C) "__getattribute__"=some (some (.builtin "BaseException.__getattribute__"))
 gn:PySem.W.findIn K (.ref C) "__getattr__"=some none
 cl:PySem.W.findIn K (.ref C) "__class__"=some (some (.builtin "object.__class__"))
 mo:PySem.W.mroIn K C (.type "object")=some true
 mb:PySem.W.mroIn K C (.type "BaseException")=some true
 ty:PySem.W.typeIn K (.ref C)=some (.type "type")
 is:(PySem.W.clsIn K C).isSome=true
section
variable {K:PySem.W.Frag}{prog:Program}{w:World}{A:Around}{E:Value->Shared->Prop}{s:Shared}{a C:Addr}{o:Obj}
end
section
variable {X:Cx}{pos p pn:Pos}
structure PCl (X:Cx) (es:List Expr) (vs:List Value):Prop where
 run:∀{E:Value->Shared->Prop} {pos:Pos} {pins:List (Addr×Obj)} {σ:St} {H:Hp} {s:Shared} {Q:List Value->Shared->Prop},Inv X pins σ H s->Q vs s->wpAny (model X.prog X.w) X.A (spliced (backTo pos (starEach es X.env))) Q E s
noncomputable def mk(X:Cx)(v:Value):Cx:={ X with A:=X.A.mark (some v),calm:=false }
end
section
variable {X:Cx}{pos np hpos:Pos}
structure ErrOk (X:Cx) (B:Addr):Prop where
 cl:XCls X.K B
 ns:∀(c:Er) (C:Addr),X.mg c.nm=some (.ref C)->PySem.W.nsIn X.K mainGlobals c.nm=some (some (.ref C))/\PySem.W.mroIn X.K C (.ref B)=some true
end
section
variable {X:Cx}{pos p pn:Pos}
end
section
variable {X:Cx}{e a b c:Expr}{g ga gb gc:G->R D}{pos pos':Pos}{es:List Expr}{gs:G->R (List D)}
end
section
variable {P:Program}{w:World}{K:PySem.W.Frag}{mg:Str->Option Value}{base:Heap}
theorem z7f{x qual:Str}{st:Stmt}{f:Addr}{fd:FuncData}{N ps:List Str}{k:Nat}(Fu:Fun K x qual st f fd)(S:FnScope N ps (z0d st))(hb:z1u K fd ps []):FnD P w K mg base (k+1) f fd ps (fun _=>.no):=by
 refine⟨?_,hb,Fu.kp⟩
 obtain⟨oc,od,kV,doc,pm,an,cdv,ct,osl,rfl,lk,hcd⟩:=Fu.ex
 exact x1p lk hcd S (fun vs H Q E h=>absurd rfl h.choose_spec.2.1) fun A outer s H vs Q E hr hsp=>absurd rfl hsp.choose_spec.2.1
end
section
variable {X:Cx}{e a b c:Expr}{g ga gb gc:G->R D}{pos pos' p p2:Pos}{es:List Expr}{gs:G->R (List D)}{lo hi:Option Expr}{gl gh:G->R (Option Int)}
noncomputable def x7d(K:PySem.W.Frag):R2:=fun x y H Q=>∃l b xs zs,x = .ref l/\y = .ref b/\SqL K H l xs/\SqL K H b zs/\xs.length+zs.length<=sizeLine/\∀p,H p=none->Q (.ref p) (upd H p (.lst (xs++zs)))
theorem x3t:OpR X (binaryOp .Add) (x7d X.K):=by
 intro pins s σ H x y v u Q I rx ry h
 obtain⟨l,b,xs,zs,rfl,rfl,hH,hB,hz,q⟩:=h
 cases rx
 cases ry
 obtain⟨i1,r1,pl1,_⟩:=I.list hH
 obtain⟨i2,r2,pl2,_⟩:=I.list hB
 have n1:=r1.length
 have n2:=r2.length
 obtain⟨⟨c1,d1,t1,s1⟩,o1,k1,m1,j1⟩:=pl1.isList
 obtain⟨⟨c2,d2,t2,s2⟩,o2,k2,m2,j2⟩:=pl2.isList
 simp only at k1 j1 k2 j2
 subst k1 j1 k2 j2
 refine concat_meets ⟨_,o1,rfl⟩ ⟨_,o2,rfl⟩ noFill_list_add seq_list_add PySem.F.slot_list_add PySem.F.entry_list_add (PySem.F.args_list_add_2 _ _) (list_addW l b i1.toArray i2.toArray m1 m2 d1 d2 s1 s2 (by simp only[List.size_toArray];lia)) ⟨o1,o2,?_⟩
 have ea:i1.toArray++i2.toArray=(i1++i2).toArray:=by simp
 rw[ea]
 exact⟨.ref _,_,I.lnew (t':=s.toks) (r1.append r2) (by rw[List.length_append];lia),rfl,q _ I.fresh⟩
theorem y4k(ha:PD X a ga)(hb:PD X b gb):PF X (.BinOp a .Add b pos) (z8z ga gb):=by
 refine⟨fun pins s σ H F Γ I fo rl hg=>?_⟩
 refine wpAny_BinOp (wpAny_mono (ha.run pins s σ H F Γ I fo rl (R.left hg)) (fun v s1 ⟨dx,x,H1,e1,I1,r1,S1,i1⟩=>?_) fun _ _ x=>x.bind _)
 have hg1:=R.next hg e1
 refine wpAny_mono (hb.run pins s1 σ H1 F Γ I1 (fo.same S1) (rl.same S1) (R.left hg1)) (fun u s2 ⟨dy,y,H2,e2,I2,r2,S2,i2⟩=>?_) fun _ _ x=>z1h.later e1 S1 (x.bind _)
 have hgx:=R.next hg1 e2
 have i1':=i1.same S2
 have key:∀xs ys,dx = .lst xs->dy = .lst ys->∃zx zy,x = .ref zx/\y = .ref zy/\∃vx vy,SqL X.K H2 zx vx/\SqL X.K H2 zy vy/\IsAll X.K H2 xs vx/\IsAll X.K H2 ys vy:=fun xs ys q1 q2=>by
  subst q1 q2
  obtain⟨zx,vx,rfl,a1,a2⟩:=Is.lst_iff.mp i1'
  obtain⟨zy,vy,rfl,b1,b2⟩:=Is.lst_iff.mp i2
  exact⟨zx,zy,rfl,rfl,vx,vy,a1,b1,a2,b2⟩
 have both:∃xs ys,dx = .lst xs/\dy = .lst ys:=by
  cases dx with
  | lst xs =>
    cases dy with
    | lst ys=>exact⟨xs,ys,rfl,rfl⟩
    | _=>exact absurd rfl hgx
  | _=>cases dy<;>exact absurd rfl hgx
 obtain⟨xs,ys,rfl,rfl⟩:=both
 obtain⟨zx,zy,rfl,rfl,vx,vy,a1,b1,a2,b2⟩:=key xs ys rfl rfl
 obtain⟨⟨hc,hn⟩,e3⟩:=R.guard_ne (show R.guard (xs.length+ys.length<=1000/\D.noLs (xs++ys)=true) (.ok (xs++ys)) ≠ .no from hgx)
 have hz:vx.length+vy.length<=sizeLine:=by rw[<-a2.length,<-b2.length];exact z5b hc
 refine wpAny_mono (x3t (X:=X.nox) pins s2 σ H2 (.ref zx) (.ref zy) _ _ (fun z H'=>∃l,z = .ref l/\H2 l=none/\H'=upd H2 l (.lst (vx++vy))) (I2.wish _) r1 r2 ⟨zx,zy,vx,vy,rfl,rfl,a1,b1,hz,fun l hl=>⟨l,rfl,hl,rfl⟩⟩) (fun u s' ⟨z,H',I',rz,l,ez,hl,eH⟩=>?_) fun _ _ z=>False.elim z
 subst ez eH
 have S3:=z1v hl (.lst (vx++vy))
 exact⟨xs++ys,l,vx++vy,_,(R.step e1 _).trans ((R.step e2 _).trans e3),I'.unwish,rz,(S1.trans S2).trans S3,S1.free (S2.free hl),z0u,IsAll.hid ((((fo.same S1).same S2).same S3).cons z0u) _ _ hn ((a2.append b2).same S3)⟩
end
section
variable {X:Cx}{e a b c:Expr}{g ga gb gc:G->R D}{lo:Option Expr}{gl:G->R (Option Int)}{pos p2 p3:Pos}
end
section
variable {X:Cx}
theorem x6t:z9d X (.type "int") dInt:=by
 refine⟨_,x0e (X:=X.nox),fun H xs ds i hg=>?_⟩
 unfold dInt at hg
 split at hg
 ·rename_i k
  obtain⟨v,rfl,h⟩:=z6c i
  exact .inl ⟨k,by rw[Is.int_iff.mp h],_,rfl,.refl _,Is.int_iff.mpr rfl⟩
 ·rename_i k
  obtain⟨v,rfl,h⟩:=z6c i
  exact .inr ⟨k,by rw[Is.bl_iff.mp h],_,rfl,.refl _,Is.int_iff.mpr rfl⟩
 ·exact absurd rfl hg
theorem x1j(hc:X.calm=true):z7c X (.builtin "max") (fun xs H Q=>∃(a:Addr) (ns:List Int),xs=[.ref a]/\ns≠[]/\SqL X.K H a (ns.map V.int)/\Q (.int (maxI ns)) H):=by
 intro pins s σ H xs us Q I r h
 obtain⟨a,ns,rfl,hne,hq,q⟩:=h
 obtain⟨u,rfl,ru⟩:=y1i r
 cases ru
 obtain⟨its,rv,pl,_⟩:=I.list hq
 have hi:IntsAre its ns:=y0z rv
 obtain⟨ys,hy⟩:=hi.allInts.items
 have hl:=pl.isList
 rw[hy] at hl
 have hn:numsOf its.toArray.toList=ns:=by rw[show its.toArray.toList=its from rfl,hi.numsOf]
 rw[hy,nums_intItems] at hn
 have hlen:ys.size=ns.length:=by rw[<-hn,List.length_map,Array.length_toList]
 have hpos:0<ys.size:=by rw[hlen];exact List.length_pos_iff.mpr hne
 refine max_intList (I.ok.hd hc) hl hpos fun v h' tk hv hk=>?_
 obtain⟨t,rfl⟩:=intItems_at hv
 obtain⟨h1,h2⟩:=argBest_gt (numAt ys) (ys.size-1)
 have em:numAt ys (argBest (fun i j=>decide (numAt ys i>numAt ys j)) (ys.size-1))=maxI ns:=by
  refine y3e ?_ fun b hb=>?_
  ·rw[<-hn,numAt_eq];exact getD_mem (by rw[List.length_map,Array.length_toList];lia)
  ·rw[<-hn] at hb
   obtain⟨j,hj,rfl⟩:=mem_getD hb
   rw[List.length_map,Array.length_toList] at hj
   rw[<-numAt_eq];exact h2 j (by lia)
 rw[em]
 exact⟨.int (maxI ns),H,I.kept hk,⟨t,rfl⟩,q⟩
theorem x4t(hc:X.calm=true):z9d X (.builtin "max") y7e:=by
 refine⟨_,z7c.or (x1j (X:=X.nox) hc) (x0d (X:=X.nox) hc),fun H xs ds i hg=>?_⟩
 unfold y7e at hg
 split at hg
 ·rename_i ys
  obtain⟨v,rfl,h⟩:=z6c i
  obtain⟨a,zs,rfl,h1,h2⟩:=Is.lst_iff.mp h
  cases q:ints? ys with
  | none=>rw[q] at hg;exact absurd rfl hg
  | some ns =>
    cases ns with
    | nil=>rw[q] at hg;exact absurd rfl hg
    | cons n ns =>
      have:=ints?_some q
      subst this
      rw[h2.ints_eq] at h1
      exact .inl ⟨a,n::ns,rfl,by simp,h1,_,by unfold y7e;simp only[q],.refl _,Is.int_iff.mpr rfl⟩
 ·rename_i i' j'
  obtain⟨v,v',rfl,h,h'⟩:=x2m i
  exact .inr ⟨i',j',by rw[Is.int_iff.mp h,Is.int_iff.mp h'],_,rfl,.refl _,Is.int_iff.mpr rfl⟩
 ·exact absurd rfl hg
end
section
variable {X:Cx}{e a b c:Expr}{g ga gb gc:G->R D}{lo:Option Expr}{st:Expr}{gl gt:G->R (Option Int)}{pos p2 p3:Pos}
end
theorem Is.isNon{K:PySem.W.Frag}{H:Hp}{d:D}{v:V}(h:Is K H d v):decide (v = .non)=d.isNon:=by
 cases d with
 | non=>rw[Is.non_iff.mp h];rfl
 | bl b=>rw[Is.bl_iff.mp h];rfl
 | int b=>rw[Is.int_iff.mp h];rfl
 | str b=>unfold Is at h;rw[h];rfl
 | tup ds=>obtain⟨a,xs,rfl,_⟩:=Is.tup_iff.mp h;rfl
 | lst ds=>obtain⟨a,xs,rfl,_⟩:=Is.lst_iff.mp h;rfl
 | dct=>unfold Is at h;obtain⟨a,ob,rfl,_⟩:=h;rfl
 | exc c=>unfold Is at h;obtain⟨a,ob,C,rfl,_⟩:=h;rfl
section
variable {X:Cx}{a b:Expr}{pos:Pos}
theorem x2i:OpD X (compareOp .Is) dIsN:=by
 refine⟨_,x5y (X:=X.nox),fun H x y dx dy ix iy hg=>?_⟩
 cases dy with
 | non=>exact⟨Is.non_iff.mp iy,.bl dx.isNon,rfl,.refl _,Is.bl_iff.mpr (by rw[ix.isNon])⟩
 | _=>exact absurd rfl hg
theorem x3w:OpD X (compareOp .IsNot) y1z:=by
 refine⟨_,x3q (X:=X.nox),fun H x y dx dy ix iy hg=>?_⟩
 cases dy with
 | non=>exact⟨Is.non_iff.mp iy,.bl (!dx.isNon),rfl,.refl _,Is.bl_iff.mpr (by rw[ix.isNon])⟩
 | _=>exact absurd rfl hg
theorem x5n{ga:G->R (List D)}{gb:G->R D}(ha:PF X a ga)(hb:PD X b gb):PF X (.BinOp a .Mult b pos) (gRep ga gb):=by
 refine⟨fun pins s σ H F Γ I fo rl hg=>?_⟩
 refine wpAny_BinOp (wpAny_mono (ha.run pins s σ H F Γ I fo rl (R.left hg)) (fun v s1 ⟨dx,a1,xs,H1,e1,I1,r1,S1,n1,h1,i1⟩=>?_) fun _ _ x=>x.bind _)
 have hg1:=R.next hg e1
 refine wpAny_mono (hb.run pins s1 σ H1 F Γ I1 (fo.same S1) (rl.same S1) (R.left hg1)) (fun u s2 ⟨dy,y,H2,e2,I2,r2,S2,i2⟩=>?_) fun _ _ x=>z1h.later e1 S1 (x.bind _)
 have hgx:=R.next hg1 e2
 cases dy with
 | int k =>
   obtain⟨⟨hc1,hc2,hc3⟩,e3⟩:=R.guard_ne (show R.guard (0<=k/\k<1000000/\dx.length*k.toNat<=1000) (.ok (List.replicate k.toNat dx).flatten) ≠ .no from hgx)
   subst r1
   have hxl:=i1.length
   have hz:xs.length*k.toNat<=sizeLine:=by rw[<-hxl];exact z5b hc3
   refine wpAny_mono (x5u (X:=X.nox) pins s2 σ H2 (.ref a1) y _ _ (fun z H'=>∃l,z = .ref l/\H2 l=none/\H'=upd H2 l (.lst (List.replicate k.toNat xs).flatten)) (I2.wish _) rfl r2 ⟨a1,k,xs,rfl,Is.int_iff.mp i2,S2 _ _ h1,by lia,by lia,hz,fun l hl=>⟨l,rfl,hl,rfl⟩⟩) (fun u s' ⟨z,H',I',rz,l,ez,hl,eH⟩=>?_) fun _ _ z=>False.elim z
   subst ez eH
   have S3:=z1v hl (.lst (List.replicate k.toNat xs).flatten)
   have up:IsAll X.K (hid (l::F) (upd H2 l (.lst (List.replicate k.toNat xs).flatten))) dx xs:=by
    refine i1.same fun b o hb=>?_
    obtain⟨z1,z2⟩:=z3g hb
    have z3:=S2 _ _ z2
    have hbl:b≠l:=z0s z3 hl
    rw[z2r fun z=>(List.mem_cons.mp z).elim hbl fun z'=>z1 (List.mem_cons_of_mem _ z'),z0q hbl]
    exact z3
   exact⟨_,l,_,_,(R.step e1 _).trans ((R.step e2 _).trans e3),I'.unwish,rz,(S1.trans S2).trans S3,S1.free (S2.free hl),z0u,up.rep _⟩
 | _=>exact absurd rfl hgx
end
section
variable {X:Cx}{e a b c:Expr}{g ga gb gc:G->R D}{pos pos' p p2:Pos}{es:List Expr}{gs:G->R (List D)}
theorem x1q{a b:Int}(ha:0<=a)(hb:0<=b)(h:b≥((Builtin.Int.intBits a:Nat):Int)):a/2^b.toNat=0:=by
 obtain⟨n,rfl⟩:=Int.eq_ofNat_of_zero_le ha
 obtain⟨k,rfl⟩:=Int.eq_ofNat_of_zero_le hb
 have hk:n<2^k:=by
  unfold Builtin.Int.intBits at h
  by_cases hn:n=0
  ·subst hn;exact Nat.two_pow_pos k
  ·rw[Int.natAbs_natCast,if_neg (by simpa using hn)] at h
   exact(Nat.log2_lt hn).mp (by lia)
 rw[Int.toNat_natCast]
 exact Int.ediv_eq_zero_of_lt (Int.natCast_nonneg n) (by exact_mod_cast hk)
theorem x6b:OpD X (binaryOp .RShift) dShr:=od_I (C:=fun i j=>0<=i/\0<=j) (d:=fun i j=>.int (i/2^j.toNat)) (fun _ _ _ _=>Is.int_iff.mpr rfl) (v:=fun i j=>.int (i/2^j.toNat)) (opI fun i j _ _ _ _ _ hc q=>by
 have h1:(0:Int)<=i:=hc.1
 have h2:(0:Int)<=j:=hc.2
 by_cases hb:j≥((Builtin.Int.intBits i:Nat):Int)
 ·refine AutoIntOps.rshift_1 (by lia) hb ?_
  rw[if_neg (by lia),<-x1q h1 h2 hb]
  exact q
 ·refine AutoIntOps.rshift_2 (by lia) hb ?_
  rw[Int.fdiv_eq_ediv_of_nonneg i (Int.le_of_lt (Int.pow_pos (by lia)))]
  exact q)
theorem x3m{apos cpos:Pos}(ha:PD X a ga)
 (hbase:attributeBase a "bit_length" X.env (eval a X.env)=eval a X.env:=by rfl)
 (hfew:((backTo cpos (starEach [] X.env)).all (fun x=>!x.1)&&(backToKw cpos (keywordEach [] X.env)).all (fun x=>x.1.isSome)
   && decide (([]:List Expr).length+([]:List Keyword).length+(if ([]:List Keyword).isEmpty then 0 else 1)<30))=true:=by rfl)
 (hline:(apos.endLine==cpos.line)=true:=by rfl) (hs:starEach [] X.env=[]:=by rfl) :
 PD X (.Call (.Attribute a "bit_length" apos) [] [] cpos) (y7a ga):=by
 refine⟨fun pins s σ H F Γ I fo rl hg=>?_⟩
 refine wpAny_Call_method_late hbase hfew hline rfl (wpAny_mono (ha.run pins s σ H F Γ I fo rl (R.left hg)) (fun v s1 ⟨d,x,H1,e1,I1,r1,S1,i1⟩=>?_) fun _ _ x=>x.bind _)
 have hg1:=R.next hg e1
 cases d with
 | int i =>
   rw[Is.int_iff.mp i1] at r1
   obtain⟨t,rfl⟩:=r1
   refine⟨"int",_,PySem.F.plainAttrs_int,slot_int_bit_length,type_int_bit_length,typeIs_int _ _ _,(fun _ e=>nomatch e),?_⟩
   rw[hs]
   refine Calls.callWith_builtin rfl ?_
   show wpAny _ _ (evalArgs (Value.builtin "int.bit_length") true [] []) _ _ s1
   refine PyProof.Rows.evalArgs_nil3 ?_
   exact call_int_bit_length (Post.bind e1 S1 ⟨.int (x0f i),.int (x0f i),H1,rfl,I1.tok _,⟨_,rfl⟩,.refl _,Is.int_iff.mpr rfl⟩)
 | _=>exact absurd rfl hg1
end
section
variable {X:Cx}{e a b c:Expr}{g ga gb gc:G->R D}{pos pos' p p2:Pos}{es:List Expr}{gs:G->R (List D)}
structure PADr (X:Cx) (es:List Expr) (g:G->R (List D)):Prop where
 run:∀(pos:Pos) (pins:List (Addr×Obj)) (s:Shared) (σ:St) (H:Hp) (F:List Addr) (Γ:G),Inv X pins σ H s->FOk H F->Rel X.K H F Γ σ->g Γ ≠ .no ->
  wpAny (model X.prog X.w) X.A (spliced (backTo pos (starEach es X.env))) (fun us s'=>∃ds vs H',g Γ = .ok ds/\Inv X pins σ H' s'/\Vals vs us/\Same H H'/\IsAll X.K (hid F H') ds vs) (z1h X pins σ H (g Γ)) s
end
noncomputable def y2c(N:List Str)(env:Env)(x0 y:Str)(scope:Scope):Bool :=
 decide (scope.kind = .function)&&scope.names.all (fun p=>decide (p.2 ≠ .cell)&&(decide (p.2 ≠ .local)||decide (scope.names.lookup p.1=some .local))&&(decide (p.2 ≠ .free)||((env.cells.lookup p.1).isSome&&(decide (env.scope.names.lookup p.1=some .cell)||decide (env.scope.names.lookup p.1=some .free)))))
  && decide (scope.names.lookup x0=some .local/\scope.names.lookup y=some .local/\x0≠y/\(x0 ∉ N∨y ∉ N))&&decide (scope.names.lookup (("":Str))=none)&&N.all (fun z=>decide (scope.names.lookup z≠some .local)||decide (z=x0∨z=y))&&decide ((∀z∈N,z≠("":Str))∨(x0 ∉ N/\y ∉ N))
structure CompOk2 (N:List Str) (env:Env) (x0 y:Str) (scope:Scope):Prop where
 kind:scope.kind = .function
 nocell:∀p∈scope.names,p.2 ≠ .cell
 names:∀p∈scope.names,p.2 = .local->scope.names.lookup p.1=some .local
 free:∀p∈scope.names,p.2 = .free->(∃c,env.cells.lookup p.1=some c)/\(env.scope.names.lookup p.1=some .cell∨env.scope.names.lookup p.1=some .free)
 loc:scope.names.lookup x0=some .local/\scope.names.lookup y=some .local/\x0≠y/\(x0 ∉ N∨y ∉ N)
 nil:scope.names.lookup (("":Str))=none
 only:∀z∈N,scope.names.lookup z=some .local->z=x0∨z=y
 none:(∀z∈N,z≠("":Str))∨(x0 ∉ N/\y ∉ N)
theorem y7g{N:List Str}{env:Env}{x0 y:Str}{scope:Scope}(h:y2c N env x0 y scope=true):CompOk2 N env x0 y scope:=by
 unfold y2c at h
 simp only[Bool.and_eq_true,List.all_eq_true,Bool.or_eq_true,decide_eq_true_eq] at h
 obtain⟨⟨⟨⟨⟨h1,h2⟩,h3⟩,h4⟩,h5⟩,h6⟩:=h
 refine⟨h1,fun p hp=>(h2 p hp).1.1,fun p hp e=>((h2 p hp).1.2).resolve_left fun z=>z e,fun p hp e=>?_,h3,h4,fun z hz e=>(h5 z hz).resolve_left fun q=>q e,h6⟩
 have q:=((h2 p hp).2).resolve_left fun z=>z e
 exact⟨Option.isSome_iff_exists.mp q.1,q.2⟩
noncomputable def z1p(X:Cx)(x0 y:Str)(scope:Scope)(C:Addr)(s₂:Shared)(H₂:Hp)(fp:List Addr)(pn:List (Addr×Obj)):Cx :=
 { X with N:=x0::y::X.N.map (fun z=>if z=x0∨z=y then ("":Str) else z),s₀:=s₂,H₀:=H₂,env:=compEnvC scope (capt X.env scope.names []) C X.env,outer:=X.stack,ex:=fp,fn:=fun _=>false,pn:=pn,xe:=fun _ _=>False }
theorem y7h{X:Cx}{x0 y:Str}{scope:Scope}{C Dd:Addr}{fp:List Addr}{pins pl:List (Addr×Obj)}{σ σ':St}{H₂ H':Hp}{s₂ s1:Shared}{xs:List V}{its:List Value}{n:Nat}(I:Inv X pins σ H₂ s₂)
 (J:Inv (z1p X x0 y scope C s₂ H₂ fp (X.pn++pins)) pl σ' H' s1) (hD:s₂.heap.objs.size<=Dd) (hn:H' Dd=none) (hd:s1.heap.get? Dd=some { cls:=.type "list",data:=.seq its.toArray n }) (rv:Vals xs its) (hz:xs.length<=sizeLine) (hf:∀b∈fp,FpOk X pins H₂ b) :
 Inv X pins σ (upd H' Dd (.lst xs)) s1:=by
 have os:s1.os=s₂.os:=J.os
 have un:Un (frs X.stack) fp H₂ H' s₂.heap s1.heap:=J.base
 have hok:HOk X.prog X.w H' s1.heap:=J.hok
 have bare:AllBare s1.gens:=J.bare
 clear J
 obtain⟨hh,gg,dd,tt,os'⟩:=s1
 obtain rfl:os'=s₂.os:=os
 have neD:∀b o,s₂.heap.get? b=some o->b≠Dd:=fun b o e=>Nat.ne_of_lt (Nat.lt_of_lt_of_le (Heap.lt_size e) hD)
 refine I.call (h':=hh) (g':=gg) (d':=dd) (t':=tt) (ch:=fp) ⟨un.keep,un.slot,fun b o e n' hx=>?_,un.there,fun b ys e=>?_,fun b o u e=>?_,fun b ps e=>?_⟩ (y5s hok hn ⟨hz,its,n,rv,hd⟩) bare fun b hb=>?_
 ·rw[z0q (neD b o e)];exact un.free b o e n' hx
 ·have q:=un.tups b ys e
  rw[z0q (z0s q hn)];exact q
 ·have q:=un.frzs b o u e
  rw[z0q (z0s q hn)];exact q
 ·obtain⟨more,q⟩:=un.tbls b ps e
  exact⟨more,by rw[z0q (z0s q hn)];exact q⟩
 ·obtain⟨f0,f1,f2,f3,f4,f5⟩:=hf b hb
  exact⟨f3.imp_right fun z=>Heap.get?_none_of_le z,f1,f4,f5⟩
theorem x1v{X:Cx}{x0 y:Str}{scope:Scope}{C:Addr}{fp:List Addr}{pins:List (Addr×Obj)}{σ:St}{H₂:Hp}{s₂:Shared}(I:Inv X pins σ H₂ s₂)(c:CompOk2 X.N X.env x0 y scope)(hC:s₂.heap.objs.size<=C)(hf:∀b∈fp,FpOk X pins H₂ b)(ho:∀b∈fp,b<s₂.heap.objs.size) :
 (z1p X x0 y scope C s₂ H₂ fp (X.pn++pins)).Ok:=by
 have cells:∀x k,(capt X.env scope.names []).lookup x=some k->X.env.cells.lookup x=some k:=fun x k e=>by
  rcases z3a scope.names [] (PySem.mem_of_lookup e) with q | q
  ·simp at q
  ·exact q
 refine⟨I.ok.mod,c.kind,I.ok.glob,I.ok.blt,hC,fun x z k h1 h2=>I.ok.inj x z k (cells x k h1) (cells z k h2),fun x hx=>?_,fun x k h _=>absurd h (by simp[z1p]),I.ok.hd,I.ok.frames,.inl rfl,fun b hb=>?_,I.bs,Nat.le_trans I.ok.bsz I.sz,fun b o e hb=>?_,fun b hb z=>?_,I.stack,I.stkFree⟩
 ·have hx':(relabel scope X.env).names.lookup x=some .cell∨(relabel scope X.env).names.lookup x=some .free:=hx
  have hm:∃k,(x,k)∈scope.names/\(k = .free∨k = .cell):=by
   rcases hx' with q | q <;>
   ·have m:=PySem.mem_of_lookup q
    unfold relabel at m
    simp only[List.mem_map] at m
    obtain⟨⟨n,k⟩,hm,e⟩:=m
    by_cases hc:(k==NameKind.free&&X.env.scope.kind == .function&&X.env.kindOf n==some .cell)=true
    ·rw[if_pos hc] at e
     have e1:n=x:=congrArg Prod.fst e
     subst e1
     rw[Bool.and_eq_true,Bool.and_eq_true] at hc
     exact⟨k,hm,.inl (x1m hc.1.1)⟩
    ·rw[if_neg hc] at e
     have e1:n=x:=congrArg Prod.fst e
     have e2:=congrArg Prod.snd e
     dsimp only at e2
     subst e1 e2
     exact⟨_,hm,by first | exact .inr rfl | exact .inl rfl⟩
  obtain⟨k,hm,hk⟩:=hm
  rcases hk with rfl | rfl
  ·obtain⟨⟨a,ea⟩,_⟩:=c.free _ hm rfl
   obtain⟨c',h1,_⟩:=z2j (z5y ea scope.names [] hm)
   exact⟨c',h1⟩
  ·exact absurd rfl (c.nocell _ hm)
 ·refine⟨Nat.ne_of_lt (Nat.lt_of_lt_of_le (ho b hb) hC),fun x k e=>(hf b hb).2.2.2.2.1 x k (cells x k e)⟩
 ·rcases(hf b hb).2.2.2.1 with z | z
  ·exact I.ok.noex b o e z
  ·exact absurd (Nat.lt_of_lt_of_le (Nat.lt_of_lt_of_le (Heap.lt_size e) I.ok.bsz) z) (Nat.lt_irrefl _)
 ·rcases List.mem_cons.mp (I.stkSub b z) with q | q
  ·exact(hf b hb).2.1 q
  ·exact(hf b hb).2.2.1 q
section
variable {X:Cx}{x0 y:Str}{scope:Scope}
theorem y4w{C Dd:Addr}{fp:List Addr}{pins:List (Addr×Obj)}{σ:St}{H₂:Hp}{s₂:Shared}{h₁:Heap}{tk:Nat}{oD:Obj}{m:Str->Option Value}(I:Inv X pins σ H₂ s₂)(c:CompOk2 X.N X.env x0 y scope)(hC:s₂.heap.objs.size<=C)(hD:s₂.heap.objs.size<=Dd)(hDC:Dd≠C)(hf:∀b∈fp,FpOk X pins H₂ b)(ho:∀b∈fp,b<s₂.heap.objs.size)
 (old:∀b o,s₂.heap.get? b=some o->h₁.get? b=some o) (hns:h₁.Ns C m) (hd:h₁.get? Dd=some oD) (hdd:∀v,oD.data ≠ .cell v) :
 Inv (z1p X x0 y scope C s₂ H₂ fp (X.pn++pins)) [(Dd,oD)] (none::none::σ) H₂ { s₂ with heap:=h₁,toks:=tk }:=by
 have cells:∀x k,(capt X.env scope.names []).lookup x=some k->X.env.cells.lookup x=some k:=fun x k e=>by
  rcases z3a scope.names [] (PySem.mem_of_lookup e) with q | q
  ·simp at q
  ·exact q
 have nstk:∀b,s₂.heap.objs.size<=b->b ∉ frs X.stack:=fun b hb z=>by
  rcases List.mem_cons.mp (I.stkSub b z) with q | q
  ·exact absurd (Nat.lt_of_lt_of_le I.lt (by rw[<-q];exact hb)) (Nat.lt_irrefl _)
  ·exact I.nofs hb q
 refine⟨x1v I c hC hf ho,rfl,I.bare,Un.kept old,⟨m,hns,fun i x v e1 e2 e3=>?_⟩,fun x k e=>?_,I.hok.fresh hC,fun x k e=>I.freeC x k (cells x k e),fun p hp=>?_,I.hok.kept old,?_⟩
 ·cases i with
  | zero=>simp at e2
  | succ i =>
  cases i with
  | zero=>simp at e2
  | succ i =>
    have e2':σ[i]? = some (some v):=by simpa using e2
    have e1':(X.N.map (fun z=>if z=x0∨z=y then ("":Str) else z))[i]? = some x:=by simpa [z1p] using e1
    rw[List.getElem?_map] at e1'
    cases hz:X.N[i]? with
    | none=>rw[hz] at e1';cases e1'
    | some z =>
      rw[hz] at e1'
      simp only[Option.map_some,Option.some.injEq] at e1'
      have e3':Vis (relabel scope X.env) x:=e3
      have look0:∀{k:NameKind},(relabel scope X.env).names.lookup x=some k->∃k',(x,k')∈scope.names/\(k'=k∨(k' = .free/\k = .cell)):=fun {k} q=>by
       have m':=PySem.mem_of_lookup q
       unfold relabel at m'
       simp only[List.mem_map] at m'
       obtain⟨⟨n,k0⟩,hm,e⟩:=m'
       by_cases hc:(k0==NameKind.free&&X.env.scope.kind == .function&&X.env.kindOf n==some .cell)=true
       ·rw[if_pos hc] at e
        have e1:n=x:=congrArg Prod.fst e
        have e2:=congrArg Prod.snd e
        dsimp only at e2
        subst e1 e2
        rw[Bool.and_eq_true,Bool.and_eq_true] at hc
        exact⟨k0,hm,.inr ⟨x1m hc.1.1,rfl⟩⟩
       ·rw[if_neg hc] at e
        have e1:n=x:=congrArg Prod.fst e
        have e2:=congrArg Prod.snd e
        dsimp only at e2
        subst e1 e2
        exact⟨_,hm,.inl rfl⟩
      have inames:∀k',(x,k')∈scope.names->x≠("":Str):=fun k' hm z=>by
       subst z
       obtain⟨c',h1,_⟩:=z2j hm
       rw[c.nil] at h1;cases h1
      have ne:x≠("":Str):=by
       rcases e3' with q | q | q<;>(obtain⟨k',hm,_⟩:=look0 q;exact inames k' hm)
      by_cases hzy:z=x0∨z=y
      ·rw[if_pos hzy] at e1';exact absurd e1'.symm ne
      ·rw[if_neg hzy] at e1'
       subst e1'
       have fr:(z,NameKind.free)∈scope.names:=by
        rcases e3' with q | q | q
        ·obtain⟨k',hm,hk⟩:=look0 q
         rcases hk with rfl | ⟨_,hk⟩
         ·exact absurd (c.only z (List.mem_of_getElem? hz) (c.names _ hm rfl)) hzy
         ·cases hk
        ·obtain⟨k',hm,hk⟩:=look0 q
         rcases hk with rfl | ⟨rfl,_⟩
         ·exact absurd rfl (c.nocell _ hm)
         ·exact hm
        ·obtain⟨k',hm,hk⟩:=look0 q
         rcases hk with rfl | ⟨_,hk⟩
         ·exact hm
         ·cases hk
       obtain⟨⟨ca,eca⟩,hv⟩:=c.free _ fr rfl
       obtain⟨m0,hn0,hl0⟩:=I.loc
       obtain⟨u,ru,lk⟩:=hl0 i z v hz e2' (.inr hv)
       refine⟨u,ru,?_⟩
       rcases lk with ⟨q,_⟩ | ⟨_,k,ek,hk⟩
       ·exfalso
        have q':X.env.scope.names.lookup z=some .local:=q
        rcases hv with w | w<;>(rw[q'] at w;cases w)
       ·obtain⟨c',h1,_⟩:=z2j (z5y ek scope.names [] fr)
        have h2:=cells z c' h1
        rw[ek] at h2;cases h2
        refine .inr ⟨?_,k,h1,?_⟩
        ·rcases e3' with q | q | q
         ·exfalso
          obtain⟨k',hm,hk'⟩:=look0 q
          rcases hk' with rfl | ⟨_,hk'⟩
          ·exact hzy (c.only z (List.mem_of_getElem? hz) (c.names _ hm rfl))
          ·cases hk'
         ·exact .inl q
         ·exact .inr q
        ·obtain⟨o,ho',hd'⟩:=hk
         exact⟨o,old _ _ ho',hd'⟩
 ·obtain⟨v,o,ho',hd'⟩:=I.cell x k (cells x k e)
  exact⟨v,o,old _ _ ho',hd'⟩
 ·rcases List.mem_append.mp hp with q | q
  ·obtain⟨h1,h2,h3,h4,h5⟩:=I.pin p q
   refine⟨old _ _ h1,h2,Nat.ne_of_lt (Nat.lt_of_lt_of_le (Heap.lt_size h1) hC),fun z=>?_,h5⟩
   rcases List.mem_cons.mp (I.stkSub p.1 z) with q' | q'
   ·exact h3 q'
   ·exact h4 q'
  ·have e:p=(Dd,oD):=by simpa using q
   subst e
   exact⟨hd,I.hok.fresh hD,hDC,nstk Dd hD,hdd⟩
 ·show σ.length+1+1=(x0::y::X.N.map _).length
  rw[List.length_cons,List.length_cons,List.length_map,I.len]
structure PC2 (X:Cx) (x0 y:Str) (scope:Scope) (ifs:List Expr) (elt:Expr) (f:D->D->G->R (Option D)):Prop where
 run:∀(C:Addr) (s₂:Shared) (H₂:Hp) (fp:List Addr) (pn:List (Addr×Obj)) (pins:List (Addr×Obj)) (s:Shared) (σ:St) (H:Hp) (F:List Addr) (Γ:G) (d d2:D),Inv (z1p X x0 y scope C s₂ H₂ fp pn) pins σ H s->FOk H F->Rel X.K H F (.ro d :: .ro d2::Γ) σ->(∃o,f d d2 Γ = .ok o) ->
  wpAny (model X.prog X.w) X.A (forIn ifs true fun c r=>if r=true then do let ok <-isTrue c (compEnvC scope (capt X.env scope.names []) C X.env) (eval c (compEnvC scope (capt X.env scope.names []) C X.env));pure (ForInStep.yield ok) else pure (ForInStep.yield r)) (fun ok s₃ =>
   if ok=true then wpAny (model X.prog X.w) X.A (eval elt (compEnvC scope (capt X.env scope.names []) C X.env)) (fun u s₄=>∃e v H',f d d2 Γ = .ok (some e)/\Inv (z1p X x0 y scope C s₂ H₂ fp pn) pins σ H' s₄/\RelV v u/\Same H H'/\Is X.K (hid F H') e v) (fun _ _=>False) s₃
   else f d d2 Γ = .ok none/\∃H',Inv (z1p X x0 y scope C s₂ H₂ fp pn) pins σ H' s₃/\Same H H') (fun _ _=>False) s
theorem x1a{elt c:Expr}{gc:G->R Bool}{ge:G->R D}(hc:∀C s₂ H₂ fp pn,PTD (z1p X x0 y scope C s₂ H₂ fp pn) c gc)(he:∀C s₂ H₂ fp pn,PDr (z1p X x0 y scope C s₂ H₂ fp pn) elt ge):PC2 X x0 y scope [c] elt (y1b gc ge):=by
 refine⟨fun C s₂ H₂ fp pn pins s σ H F Γ d d2 I fo rl ⟨o,eo⟩=>?_⟩
 have hne:gc (.ro d :: .ro d2::Γ) ≠ .no:=fun z=>by unfold y1b at eo;rw[z] at eo;cases eo
 refine wpAny_tests_one (wpAny_mono ((hc C s₂ H₂ fp pn).run pins s σ H F (.ro d :: .ro d2::Γ) I fo rl hne) (fun k s3 ⟨H1,e1,I1,S1⟩=>?_) fun x s' ⟨c',H',e1,_⟩=>?_)
 ·have eo':(if k=true then ge (.ro d :: .ro d2::Γ)>>=fun e=>R.ok (some e) else .ok none) = .ok o:=by
   unfold y1b at eo;rw[e1] at eo;exact eo
  cases k with
  | false =>
    rw[if_neg Bool.false_ne_true]
    exact⟨R.step e1 _,H1,I1,S1⟩
  | true =>
    rw[if_pos rfl] at eo' ⊢
    have hne2:ge (.ro d :: .ro d2::Γ) ≠ .no:=fun z=>by rw[z] at eo';cases eo'
    refine wpAny_mono ((he C s₂ H₂ fp pn).run pins s3 σ H1 F (.ro d :: .ro d2::Γ) I1 (fo.same S1) (rl.same S1) hne2) (fun u s4 ⟨e,v,H',e2,I',rv,S,iv⟩=>⟨e,v,H',(R.step e1 _).trans (R.step e2 _),I',rv,S1.trans S,iv⟩) fun x s' ⟨c',H',e2,_⟩=>?_
    rw[e2] at eo';cases eo'
 ·unfold y1b at eo;rw[e1] at eo;cases eo
noncomputable def JC2(K:PySem.W.Frag)(H:Hp)(F:List Addr)(J:It)(ds:List D):Prop:=∀H1,Same H H1 ->
 (∀i:Nat,i<ds.length->J.go i H1/\∀v H2,J.yld i H1 v H2->Same H1 H2/\∃d1 d2 q v1 v2,ds[i]? = some (.tup [d1,d2])/\v = .ref q/\SqT K H2 q [v1,v2]/\Is K (hid F H2) d1 v1/\Is K (hid F H2) d2 v2)/\J.stop ds.length H1
theorem x1b{prog:Program}{w:World}{A:Around}{Z:Result->Shared->Prop}{s0:Shared}{elt iter:Expr}{es ifs:List Expr}{kt}{pt pos:Pos}{scope:Scope}{it acc:Value}{env:Env}(K:Nat->Shared->Prop)
 (one:∀n s,K n s->wpAny (model prog w) A (pyNext it) (fun r s1=>match r with
   | some v=>wpAny (model prog w) A (letOwnedTupleGo (.Tuple es kt pt) it v) (fun _ s2=>wpAny (model prog w) A (assign (.Tuple es kt pt) env v) (fun _ s3 =>
      wpAny (model prog w) A (forIn ifs true fun c r=>if r=true then do let ok <-isTrue c env (eval c env);pure (ForInStep.yield ok) else pure (ForInStep.yield r)) (fun ok s4 =>
       if ok=true then wpAny (model prog w) A (eval elt env) (fun x s5 =>
        wpAny (model prog w) A (call (.builtin "list.append") [acc,x]) (fun _ s6=>∃m,m<n/\K m s6) (notedBy (model prog w) A env fun e s'=>Z (.error e) s') s5) (notedBy (model prog w) A env fun e s'=>Z (.error e) s') s4
       else ∃m,m<n/\K m s4) (notedBy (model prog w) A env fun e s'=>Z (.error e) s') s3) (notedBy (model prog w) A env fun e s'=>Z (.error e) s') s2) (notedBy (model prog w) A env fun e s'=>Z (.error e) s') s1
   | none=>Z (.ok .next) s1) (notedBy (model prog w) A env fun e s'=>Z (.error e) s') s)
 (n:Nat) (h0:K n s0):codeAny (model prog w) A (.compLoop (.ListComp elt [⟨.Tuple es kt pt,iter,ifs,0⟩] scope pos) 0 it acc env) Z s0:=by
 refine codeAny_loop rfl K (fun n s hK=>?_) n h0
 show wpAny _ A ((compTurn (.ListComp elt [⟨.Tuple es kt pt,iter,ifs,0⟩] scope pos) 0 it acc env).onRaise (fun x=>do noteFrame x env;theTreesLotGoes x)) _ _ s
 refine wpAny_noted ?_
 rw[compTurn_list]
 refine wpAny_bind (wpAny_standAt (wpAny_bind (wpAny_mono (one n s hK) (fun r s1 q1=>?_) fun _ _ q=>q)))
 cases r with
 | some v =>
   refine wpAny_bind (wpAny_mono q1 (fun _ s2 q2=>?_) fun _ _ q=>q)
   refine wpAny_bind (wpAny_mono q2 (fun _ s3 q3=>wpAny_bind (wpAny_mono q3 (fun ok s4 q4=>?_) fun _ _ q=>q)) fun _ _ q=>q)
   cases ok with
   | true=>exact wpAny_bind (wpAny_bind (wpAny_mono q4 (fun x s5 q5=>wpAny_bind (wpAny_mono q5 (fun _ s6 q6=>wpAny_pure (wpAny_pure ⟨rfl,q6⟩)) fun _ _ q=>q)) fun _ _ q=>q))
   | false=>exact wpAny_pure ⟨rfl,q4⟩
 | none=>exact wpAny_pure q1
theorem y7i{elt iter:Expr}{p0 px pt pos:Pos}{kt}{ifs:List Expr}{f:D->D->G->R (Option D)}{pins:List (Addr×Obj)}{σ:St}{H₂:Hp}{s₂:Shared}{F:List Addr}{Γ:G}{items:List D}{it:Addr}{fp:List Addr}{tn:Nat->Heap->Prop}{J:It}{E:Value->Shared->Prop}{total:List D}
 (hp:PC2 X x0 y scope ifs elt f) (c:CompOk2 X.N X.env x0 y scope) (hN:X.N.Nodup) (hcalm:X.calm=true) (I:Inv X pins σ H₂ s₂) (fo:FOk H₂ F) (rl:Rel X.K H₂ F Γ σ) (T:Turn X.prog X.w X.K (.Tuple [.Name x0 p0,.Name y px] kt pt) J fp it tn) (t0:tn 0 s₂.heap) (hf:∀b∈fp,FpOk X pins H₂ b) (hj:JC2 X.K H₂ F J items)
 (ht:z1g (z8w f Γ) items [] = .ok total) (hl:items.length<=100000) {RR:Value->Addr->Result->Shared->Prop}
 (hR:∀(Dd C:Addr) (xs:List V) (H':Hp) (m:Str->Option Value) (s':Shared),s₂.heap.objs.size<=C->Dd≠C->H₂ Dd=none->H' Dd=none->H' C=none->s₂.heap.objs.size<=Dd->Same H₂ H'->IsAll X.K (hid F H') total xs->Inv X pins σ (upd H' Dd (.lst xs)) s'->s'.heap.Ns C m->RR (.ref Dd) C (.ok .next) s') :
 wpAny (model X.prog X.w) X.A (newList []) (fun acc s₃=>wpAny (model X.prog X.w) X.A (newFunctionEnv scope X.env.globals (capt X.env scope.names []) [] X.env.qual none .none (some X.env)) (fun cenv s₄ =>
  codeAny (model X.prog X.w) X.A (.compStart (.ListComp elt [⟨.Tuple [.Name x0 p0,.Name y px] kt pt,iter,ifs,0⟩] scope pos) 0 (.ref it) acc { cenv with scope:=relabel scope X.env }) (RR acc cenv.locals) s₄) E s₃) E s₂:=by
 have ho:∀b∈fp,b<s₂.heap.objs.size:=fun b hb=>by obtain⟨o,e,_⟩:=T.obj _ _ t0 b hb;exact Heap.lt_size e
 refine wpAny_newObj_type (wpAny_newFunctionEnv c.nocell (by intro y hy;simp at hy) (fun h₁ hns₁ hsb₁=>?_) c.kind)
 dsimp only at hns₁ hsb₁ ⊢
 generalize hH2:s₂.heap.push { cls:=.type "list",dict:=none,data:=.seq ([]:List Value).toArray }=H2 at hns₁ hsb₁ ⊢
 have hCs:H2.objs.size=s₂.heap.objs.size+1:=by rw[<-hH2,Heap.size_push]
 generalize hCC:H2.objs.size=C at hns₁ hsb₁ hCs ⊢
 generalize hDD:s₂.heap.objs.size=Dd at hCs ⊢
 obtain⟨⟨hDC,hC,hD⟩,below⟩:=sb2 hCs hDD
 have old:∀b o,s₂.heap.get? b=some o->h₁.get? b=some o:=fun b o e=>by
  refine hsb₁.extBut b o (below b (Heap.lt_size e)).1 ?_
  exact Heap.get?_push_of_some _ (hH2 ▸ Heap.get?_push_of_some _ e)
 have hacc:h₁.get? Dd=some { cls:=.type "list",dict:=none,data:=.seq ([]:List Value).toArray }:=by
  refine hsb₁.extBut _ _ hDC ?_
  refine Heap.get?_push_of_some _ ?_
  rw[<-hH2,<-hDD]
  exact Heap.get?_push_size _ rfl
 have J0:∀tk,Inv (z1p X x0 y scope C s₂ H₂ fp (X.pn++pins)) [(Dd,{ cls:=.type "list",dict:=none,data:=.seq ([]:List Value).toArray })] (none::none::σ) H₂ { s₂ with heap:=h₁,toks:=tk }:=fun tk =>
  y4w I c hC hD hDC hf ho old hns₁ hacc (fun v z=>nomatch z)
 have t1:tn 0 h₁:=T.keep _ _ _ t0 fun b hb o e=>old b o e
 have fpY:∀{H':Hp} {o:Obj},(∀b∈fp,H' b=none)->∀b∈fp,FpOk (z1p X x0 y scope C s₂ H₂ fp (X.pn++pins)) [(Dd,o)] H' b:=fun {H' o} hn b hb=>by
  obtain⟨f0,f1,f2,f3,f4,f5⟩:=hf b hb
  have lt:=ho b hb
  refine⟨hn b hb,(below b lt).1,fun z=>?_,.inl hb,fun x k e=>?_,fun p hp'=>?_⟩
  ·rcases List.mem_cons.mp (I.stkSub b z) with q | q
   ·exact f1 q
   ·exact f2 q
  ·rcases z3a scope.names [] (PySem.mem_of_lookup e) with q | q
   ·simp at q
   ·exact f4 x k q
  ·rcases List.mem_append.mp hp' with q | q
   ·exact f5 p q
   ·have e:p=(Dd,o):=by simpa using q
    subst e
    exact Ne.symm (below b lt).2
 have NdY:(z1p X x0 y scope C s₂ H₂ fp (X.pn++pins)).N.Nodup:=by
  show(x0::y::X.N.map (fun z=>if z=x0∨z=y then ("":Str) else z)).Nodup
  have ne0:∀q:Str,scope.names.lookup q=some .local->q ∉ X.N.map (fun z=>if z=x0∨z=y then ("":Str) else z)∨True:=fun _ _=>.inr trivial
  have out:∀q:Str,scope.names.lookup q=some .local->(q=x0∨q=y)->q ∉ X.N.map (fun z=>if z=x0∨z=y then ("":Str) else z):=fun q hq hqq z=>by
   obtain⟨z',hz,e⟩:=List.mem_map.mp z
   by_cases w':z'=x0∨z'=y
   ·rw[if_pos w'] at e
    subst e
    rw[c.nil] at hq;cases hq
   ·rw[if_neg w'] at e
    subst e
    exact w' hqq
  refine List.nodup_cons.mpr ⟨fun z=>?_,List.nodup_cons.mpr ⟨out y c.loc.2.1 (.inr rfl),?_⟩⟩
  ·rcases List.mem_cons.mp z with e | e
   ·exact c.loc.2.2.1 e
   ·exact out x0 c.loc.1 (.inl rfl) e
  ·have inj:∀a∈X.N,∀b∈X.N,(if a=x0∨a=y then ("":Str) else a)=(if b=x0∨b=y then ("":Str) else b)->a=b∨((a=x0∨a=y)/\(b=x0∨b=y)):=fun a ha b hb e=>by
    by_cases qa:a=x0∨a=y
    ·by_cases qb:b=x0∨b=y
     ·exact .inr ⟨qa,qb⟩
     ·rw[if_pos qa,if_neg qb] at e;exact absurd e.symm ((c.none.resolve_right fun z=>qa.elim (fun e=>z.1 (e ▸ ha)) fun e=>z.2 (e ▸ ha)) b hb)
    ·by_cases qb:b=x0∨b=y
     ·rw[if_neg qa,if_pos qb] at e;exact absurd e ((c.none.resolve_right fun z=>qb.elim (fun e=>z.1 (e ▸ hb)) fun e=>z.2 (e ▸ hb)) a ha)
     ·rw[if_neg qa,if_neg qb] at e;exact .inl e
   have gen:∀l:List Str,(∀a∈l,a∈X.N)->l.Nodup->(l.map (fun z=>if z=x0∨z=y then ("":Str) else z)).Nodup:=by
    intro l
    induction l with
    | nil=>intro _ _;exact List.nodup_nil
    | cons a l ih =>
      intro hs nd
      obtain⟨n1,n2⟩:=List.nodup_cons.mp nd
      rw[List.map_cons]
      refine List.nodup_cons.mpr ⟨fun z=>?_,ih (fun b hb=>hs b (List.mem_cons_of_mem _ hb)) n2⟩
      obtain⟨b,hb,e⟩:=List.mem_map.mp z
      rcases inj b (hs b (List.mem_cons_of_mem _ hb)) a (hs a List.mem_cons_self) e with q | q
      ·exact n1 (q ▸ hb)
      ·have ha:=hs a List.mem_cons_self
       have hb':=hs b (List.mem_cons_of_mem _ hb)
       have hab:b≠a:=fun z=>n1 (z ▸ hb)
       have both:x0∈X.N/\y∈X.N:=by
        rcases q.1 with rfl | rfl<;>rcases q.2 with rfl | rfl
        ·exact absurd rfl hab
        ·exact⟨hb',ha⟩
        ·exact⟨ha,hb'⟩
        ·exact absurd rfl hab
       rcases c.loc.2.2.2 with z | z
       ·exact z both.1
       ·exact z both.2
   exact gen X.N (fun _ h=>h) hN
 let L:Nat->Shared->Prop:=fun n s'=>∃(i:Nat) (H':Hp) (o o2:Option V) (xs:List V) (its:List Value) (acc:List D) (k:Nat),n=items.length-i/\i<=items.length/\Inv (z1p X x0 y scope C s₂ H₂ fp (X.pn++pins)) [(Dd,{ cls:=.type "list",dict:=none,data:=.seq its.toArray k })] (o::o2::σ) H' s' /\
  Same H₂ H'/\(∀b∈fp,H' b=none)/\tn i s'.heap/\Vals xs its/\acc.length<=i/\IsAll X.K (hid F H') acc xs/\z1g (z8w f Γ) (items.drop i) acc = .ok total
 have loop:∀s₄:Shared,L items.length s₄->codeAny (model X.prog X.w) X.A (.compLoop (.ListComp elt [⟨.Tuple [.Name x0 p0,.Name y px] kt pt,iter,ifs,0⟩] scope pos) 0 (.ref it) (.ref Dd) (compEnvC scope (capt X.env scope.names []) C X.env)) (RR (.ref Dd) C) s₄:=fun s₄ h4=>by
  refine x1b L (fun n s' hL=>wpAny_mono (E:=fun _ _=>False) ?_ (fun _ _ q=>q) fun _ _ z=>z.elim) items.length h4
  obtain⟨i,H',o,o2,xs,its,acc,k,en,hi,J',S',fr',tn',rv,hal,ia,eg⟩:=hL
  obtain⟨jgo,jstop⟩:=hj H' S'
  have hpD:=J'.pin (Dd,{ cls:=.type "list",dict:=none,data:=.seq its.toArray k }) (List.mem_append_right _ (by simp))
  have hxl:xs.length<=100000:=by rw[<-ia.length];exact Nat.le_trans hal (Nat.le_trans hi hl)
  have hsl:(100000:Nat)<=sizeLine:=by rw[sizeLine_eq];decide
  by_cases hlt:i<items.length
  ·obtain⟨go,yl⟩:=jgo i hlt
   refine thn (T.item (z1p X x0 y scope C s₂ H₂ fp (X.pn++pins)) rfl rfl rfl hcalm i _ s' _ H' (fun _ _=>False) J' (fpY fr') tn' go) fun r s2 ⟨u,hr,h1⟩=>?_
   subst hr
   refine wpAny_mono h1 (fun _ s2 ⟨x,H5,J5,r5,y5,st5,fr5⟩=>?_) fun _ _ z=>z.elim
   obtain⟨S5,d1,d2,q,v1,v2,ed,rfl,sq5,iv1,iv2⟩:=yl x H5 y5
   have J5':=J5.pinned (fpY fr5) (T.obj _ _ st5)
   have S6:=S'.trans S5
   have hdrop:items.drop i = .tup [d1,d2]::items.drop (i+1):=by
    rw[List.drop_eq_getElem_cons hlt]
    have:items[i] = .tup [d1,d2]:=by
     have:=List.getElem?_eq_getElem hlt
     rw[ed] at this;exact(Option.some.inj this).symm
    rw[this]
   rw[hdrop] at eg
   have hfo:∃od,f d1 d2 Γ = .ok od/\(match od with | some e=>z1g (z8w f Γ) (items.drop (i+1)) (acc++[e]) | none=>z1g (z8w f Γ) (items.drop (i+1)) acc) = .ok total:=by
    unfold z1g at eg
    have ep:z8w f Γ (.tup [d1,d2])=f d1 d2 Γ:=rfl
    rw[ep] at eg
    cases q:f d1 d2 Γ with
    | no=>rw[q] at eg;cases eg
    | er c'=>rw[q] at eg;cases eg
    | ok od =>
      refine⟨od,rfl,?_⟩
      rw[q] at eg
      cases od with
      | none=>exact eg
      | some e=>exact eg
   obtain⟨od,eod,etot⟩:=hfo
   have hpg:PG (z1p X x0 y scope C s₂ H₂ fp (X.pn++pins)).nox (.Tuple [.Name x0 p0,.Name y px] kt pt) (L2.gTup X.K 2 (L2.gCons (y3k 0) (L2.gCons (y3k 1) L2.gNil))) :=
    x2g (X:=(z1p X x0 y scope C s₂ H₂ fp (X.pn++pins)).nox) hcalm (z6u (z5v (X:=(z1p X x0 y scope C s₂ H₂ fp (X.pn++pins)).nox) NdY rfl (.inl (lookup_relabel_local c.loc.1)) (.inr (lookup_relabel_local c.loc.1))) (z6u (z5v (X:=(z1p X x0 y scope C s₂ H₂ fp (X.pn++pins)).nox) NdY rfl (.inl (lookup_relabel_local c.loc.2.1)) (.inr (lookup_relabel_local c.loc.2.1))) y4j rfl) rfl) rfl rfl
   refine wpAny_mono (hpg _ s2 (o::o2::σ) H5 (.ref q) u (fun σ' H'=>σ'=some v1::some v2::σ/\H'=H5) (J5'.wish _) r5 ⟨q,[v1,v2],rfl,sq5,rfl,v1,[v2],rfl,v2,[],rfl,rfl,rfl,rfl⟩) (fun _ s3 ⟨σ6,H6,J6,e6,e6'⟩=>?_) fun _ _ z=>z.elim
   subst e6 e6'
   have J6':=J6.unwish
   have fo6:=fo.same S6
   have back:∀{s5:Shared} {H7:Hp} {σ7:St},Inv (z1p X x0 y scope C s₂ H₂ fp (X.pn++pins)) ([(Dd,{ cls:=.type "list",dict:=none,data:=.seq its.toArray k })]++z4o fp s2.heap) σ7 H7 s5->tn (i+1) s5.heap/\(∀b∈fp,H7 b=none):=fun {s5 H7 σ7} J7=>by
    refine⟨T.keep _ _ _ st5 fun b hb o' e=>(J7.pin (b,o') (List.mem_append_right _ (List.mem_append_right _ (z2b hb e)))).1,fun b hb=>?_⟩
    obtain⟨o',e,dd⟩:=T.obj _ _ st5 b hb
    exact(J7.pin (b,o') (List.mem_append_right _ (List.mem_append_right _ (z2b hb e)))).2.1
   refine wpAny_mono (hp.run C s₂ H₂ fp (X.pn++pins) _ s3 _ H6 F Γ d1 d2 J6' fo6 (z9f (z9f (rl.same S6) iv2) iv1) ⟨od,eod⟩) (fun ok s4 h4=>?_) fun _ _ z=>z.elim
   cases ok with
   | false =>
     rw[if_neg Bool.false_ne_true] at h4 ⊢
     obtain⟨ef,H7,J7,S7⟩:=h4
     rw[eod] at ef;cases ef
     obtain⟨tn7,fr7⟩:=back J7
     exact⟨items.length-(i+1),sb1 en hlt,i+1,H7,some v1,some v2,xs,its,acc,k,rfl,hlt,J7.unpinned,S6.trans S7,fr7,tn7,rv,Nat.le_succ_of_le hal,ia.same (z2i (S5.trans S7)),etot⟩
   | true =>
     rw[if_pos rfl] at h4 ⊢
     refine wpAny_mono h4 (fun u7 s5 ⟨e,v7,H7,ef,J7,r7,S7,iv7⟩=>?_) fun _ _ z=>z.elim
     rw[eod] at ef;cases ef
     obtain⟨tn7,fr7⟩:=back J7
     have J8:=J7.unpinned
     have hpD7:=J8.pin (Dd,{ cls:=.type "list",dict:=none,data:=.seq its.toArray k }) (List.mem_append_right _ (by simp))
     have hlen:its.length=acc.length:=by rw[<-rv.length,<-ia.length]
     refine wpAny_list_append_plain (l:=Dd) (items:=its.toArray) (x:=u7) ⟨k,hpD7.1⟩ (fun h' hl' hs'=>?_) (by rw[List.size_toArray,<-rv.length];exact Nat.le_trans hxl hsl)
     obtain⟨k',hk'⟩:=hl'
     have epush:its.toArray.push u7=(its++[u7]).toArray:=by simp
     rw[epush] at hk'
     have J9:Inv (z1p X x0 y scope C s₂ H₂ fp (X.pn++pins)) [] (some v1::some v2::σ) H7 s5:=J8.pins_of fun p hp'=>by simp at hp'
     have J10:Inv (z1p X x0 y scope C s₂ H₂ fp (X.pn++pins)) [] (some v1::some v2::σ) H7 { s5 with heap:=h' }:=J9.turned (t':=s5.toks) (it:=Dd) (fun b o' hb e'=>(hs'.2 b hb).trans e') hpD7.2.1 hDC (.inr hD) (fun x' k'' e' z=>by
      rcases z3a scope.names [] (PySem.mem_of_lookup e') with q | q
      ·simp at q
      ·obtain⟨v',o',ho',_⟩:=I.cell x' k'' q
       exact(below k'' (Heap.lt_size ho')).2 z) (fun p hp' z=>by
      rcases List.mem_append.mp hp' with q | q
      ·obtain⟨h1',_⟩:=I.pin p q
       exact(below p.1 (Heap.lt_size h1')).2 z
      ·simp at q)
     have J11:Inv (z1p X x0 y scope C s₂ H₂ fp (X.pn++pins)) [(Dd,{ cls:=.type "list",dict:=none,data:=.seq (its++[u7]).toArray k' })] (some v1::some v2::σ) H7 { s5 with heap:=h' }:=J10.pins_of fun p hp'=>by
      have e':p=(Dd,{ cls:=.type "list",dict:=none,data:=.seq (its++[u7]).toArray k' }):=by simpa using hp'
      subst e'
      exact⟨hk',hpD7.2.1,hDC,hpD7.2.2.2.1,fun v z=>nomatch z⟩
     refine⟨items.length-(i+1),sb1 en hlt,i+1,H7,some v1,some v2,xs++[v7],its++[u7],acc++[e],k',rfl,hlt,J11,S6.trans S7,fr7,T.keep _ _ _ tn7 fun b hb o' e'=>(hs'.2 b (below b (ho b hb)).2).trans e',rv.append (.cons r7 .nil),by rw[List.length_append,List.length_singleton];exact Nat.succ_le_succ hal,(ia.same (z2i (S5.trans S7))).append (IsAll.cons iv7 IsAll.nil),etot⟩
  ·have hi':i=items.length:=Nat.le_antisymm hi (Nat.le_of_not_lt hlt)
   subst hi'
   refine thn (T.done (z1p X x0 y scope C s₂ H₂ fp (X.pn++pins)) rfl rfl rfl hcalm _ _ s' _ H' (fun _ _=>False) J' (fpY fr') tn' jstop) fun r s1 ⟨hr,J1⟩=>?_
   subst hr
   have hpD1:=J1.pin (Dd,{ cls:=.type "list",dict:=none,data:=.seq its.toArray k }) (List.mem_append_right _ (by simp))
   rw[List.drop_length] at eg
   have:acc=total:=by unfold z1g at eg;cases eg;rfl
   subst this
   obtain⟨mC,hnC,_⟩:=J1.loc
   exact hR Dd C xs H' mC s1 hC hDC (I.hok.fresh hD) hpD1.2.1 J1.free hD S' ia (y7h I J1 hD hpD1.2.1 hpD1.1 rv (Nat.le_trans hxl hsl) hf) hnC
 have L0:∀tk,L items.length { s₂ with heap:=h₁,toks:=tk }:=fun tk=>⟨0,H₂,none,none,[],[],[],_,rfl,Nat.zero_le _,J0 tk,.refl _,fun b hb=>(hf b hb).1,t1,.nil,Nat.le_refl _,IsAll.nil,by rw[List.drop_zero];exact ht⟩
 exact codeAny_compStart_list (loop _ (L0 _)) (T.self _ 0 _ _ _ t1 (loop _ (L0 _)))
theorem x0x{elt iter:Expr}{p0 px pt pos:Pos}{kt}{ifs:List Expr}{f:D->D->G->R (Option D)}{gi:G->R (List D)}(hi:PIx JC2 X (.Tuple [.Name x0 p0,.Name y px] kt pt) iter gi)(hp:PC2 X x0 y scope ifs elt f)(hN:X.N.Nodup)(hcalm:X.calm=true)
 (chk:y2c X.N X.env x0 y scope=true:=by rfl) (hclos:closureFor scope X.env=pure (capt X.env scope.names []):=by rfl) (hs:∀x,foldedSetIterable iter X.env x=pure x:=by intro _;rfl) :
 PF X (.ListComp elt [⟨.Tuple [.Name x0 p0,.Name y px] kt pt,iter,ifs,0⟩] scope pos) (y5u gi f):=by
 refine⟨fun pins s σ H F Γ I fo rl hg=>?_⟩
 have c:=y7g chk
 rw[eval_ListComp]
 refine wpAny_comprehension_free (use:=none) rfl hs hclos c.kind c.names (wpAny_mono (hi.run pins s σ H F Γ I fo rl (R.left hg)) (fun xv s₁ h₁=>wpAny_mono h₁ (fun itv s₂ h₂=>?_) fun _ _ x=>x.bind _) fun _ _ x=>x.bind _)
 obtain⟨items,it,fp,tn,J,H₂,e1,rfl,I2,S2,T,t0,fk,jc⟩:=h₂
 have hgx:=R.next hg e1
 obtain⟨hl,e2⟩:=R.guard_ne hgx
 have hne:z1g (z8w f Γ) items [] ≠ .no:=by
  have:=R.next hg e1
  rw[e2] at this;exact this
 obtain⟨total,et⟩:=z6r hne
 refine y7i (RR:=fun acc C=>compPost (model X.prog X.w) X.A _ none _ acc C) hp c hN hcalm I2 (fo.same S2) (rl.same S2) T t0 fk jc et hl ?_
 intro Dd C xs H' m s' hC hDC hn hn' hnC hD S' ia I' hnsC
 refine⟨m,hnsC,fun h'' hs''=>?_⟩
 have nlt:∀{b:Addr} {o:Obj},s₂.heap.get? b=some o->b≠C:=fun e=>Nat.ne_of_lt (Nat.lt_of_lt_of_le (Heap.lt_size e) hC)
 have I'':Inv X pins σ (upd H' Dd (.lst xs)) { s' with heap:=h'' }:=I'.turned (t':=s'.toks) (it:=C) (fun b o hb e=>hs''.extBut b o hb e) (by rw[z0q (Ne.symm hDC)];exact hnC) (Nat.ne_of_gt (Nat.lt_of_lt_of_le I2.lt hC)) (.inr (Nat.le_trans I2.sz hC))
  (fun x k e=>by obtain⟨v,o,ho,_⟩:=I2.cell x k e;exact nlt ho) (fun p hp'=>nlt (I2.pin p hp').1)
 have S3:=z1v hn' (.lst xs)
 refine⟨total,Dd,xs,_,(R.step e1 _).trans (e2.trans et),I'',rfl,(S2.trans S').trans S3,S2.free hn,z0u,ia.same fun b o hb=>?_⟩
 obtain⟨z1,z2⟩:=z3g hb
 have hbl:b≠Dd:=z0s z2 hn'
 rw[z2r fun z=>(List.mem_cons.mp z).elim hbl z1,z0q hbl]
 exact z2
end
section
variable {prog:Program}{w:World}{A:Around}{E:Value->Shared->Prop}{s:Shared}
theorem x3x{it t:Addr}{i:Nat}{items:Array Value}{x:Value}{Q:Value->Shared->Prop}(hit:s.heap.IsTupleIter it t i)(ht:s.heap.IsTuple t items)(hx:items[i]? = some x)(hQ:∀h',h'.IsTupleIter it t (i+1)->Heap.SameBut it s.heap h'->Q x { s with heap:=h' }) :
 wpAny (model prog w) A (Builtin.SmallTypes.nextOf (.ref it)) Q E s:=by
 obtain⟨⟨o,ho,hc,hd⟩,⟨ol,hol,_,nl,hdl⟩⟩:=And.intro hit ht
 refine wpAny_bind (wpAny_callSpecial?_slot (name:=Str.ofString "__next__") hit.typeIs F.slot_tuple_iterator_next (wpAny_call_entry F.slot_tuple_iterator_next hit.typeIs F.entry_tuple_iterator_next (show wpAny _ _ (field (.ref it) 0>>=_) _ _ s from wpAny_bind (wpAny_field ho hd (x:=.ref t) rfl (show wpAny _ _ (if (Value.ref t==Value.none)=true then _ else _) _ _ s from ?_))) (F.args_tuple_iterator_next_1 _)))
 rw[if_neg (by exact fun z=>Bool.false_ne_true z)]
 refine(show wpAny _ _ (field (.ref it) 1>>=_) _ _ s from wpAny_bind (wpAny_field ho hd (x:=.int i 0) rfl (show wpAny _ _ (seqItems? (.ref t)>>=_) _ _ s from wpAny_bind (wpAny_seqItems hol hdl ?_))))
 simp only[Int.toNat_natCast,hx]
 refine wpAny_bind (wpAny_setField ho hd (by simp) (wpAny_pure ⟨x,rfl,wpAny_pure (hQ _ ⟨_,Heap.get?_update_self _ ho (Obj.isFreed_of_fields (Obj.data_mapFields hd _)),(Obj.cls_mapFields ..).trans hc,by rw[Obj.data_mapFields hd];simp[rawInt]⟩ (Heap.SameBut.update ..))⟩))
theorem y4n{it t:Addr}{i:Nat}{items:Array Value}{Q:Value->Shared->Prop}(hh:A.handled=none)(hit:s.heap.IsTupleIter it t i)(ht:s.heap.IsTuple t items)(hx:items[i]? = none)
 (hE:∀h' e,Heap.ExtBut it s.heap h'->(∃o,h'.get? e=some o/\o.cls = .type "StopIteration")->E (.ref e) { s with heap:=h' }):wpAny (model prog w) A (Builtin.SmallTypes.nextOf (.ref it)) Q E s:=by
 obtain⟨⟨o,ho,hc,hd⟩,⟨ol,hol,_,nl,hdl⟩⟩:=And.intro hit ht
 refine wpAny_bind (wpAny_callSpecial?_slot (name:=Str.ofString "__next__") hit.typeIs F.slot_tuple_iterator_next (wpAny_call_entry F.slot_tuple_iterator_next hit.typeIs F.entry_tuple_iterator_next (show wpAny _ _ (field (.ref it) 0>>=_) _ _ s from wpAny_bind (wpAny_field ho hd (x:=.ref t) rfl (show wpAny _ _ (if (Value.ref t==Value.none)=true then _ else _) _ _ s from ?_))) (F.args_tuple_iterator_next_1 _)))
 rw[if_neg (by exact fun z=>Bool.false_ne_true z)]
 refine(show wpAny _ _ (field (.ref it) 1>>=_) _ _ s from wpAny_bind (wpAny_field ho hd (x:=.int i 0) rfl (show wpAny _ _ (seqItems? (.ref t)>>=_) _ _ s from wpAny_bind (wpAny_seqItems hol hdl ?_))))
 simp only[Int.toNat_natCast,hx]
 refine wpAny_bind (wpAny_rule (wpAny_bind (wpAny_setField ho hd (by simp) (show wpAny _ _ (newExc (.type "StopIteration") []>>=_) _ _ _ from wpAny_bind ?_))))
 simp only[newExc,newTuple]
 refine wpAny_bind (wpAny_newObj_type (wpAny_bind (m:=firstArgMember _ _) (wpAny_of_eq (a:=Value.none) (by first | rfl | (simp only[firstArgMember];rfl)) (wpAny_newObj_type ?_ (by size_fits)))) (by size_fits))
 simp only[raiseNew]
 refine wpAny_bind (wpAny_handled ?_)
 first | rw[show A.in1.handled=none from hh] | rw[hh]
 exact wpAny_bind (wpAny_pure (wpAny_throw (hE _ _ (((Heap.SameBut.update ..).extBut.push _).push _) ⟨_,Heap.get?_push_size _ rfl,rfl⟩)))
end
section
variable {prog:Program}{w:World}{A:Around}{E:Value->Shared->Prop}{s:Shared}{b1 b2:Bool}
end
section
variable {prog:Program}{w:World}{A:Around}{E:Value->Shared->Prop}{s:Shared}{b1 b2:Bool}
end
section
variable {X:Cx}{pins:List (Addr×Obj)}{σ:St}{H:Hp}{s:Shared}{h':Heap}
theorem x5d{ch:List Addr}{t':Nat}(I:Inv X pins σ H s)(hf:∀b∈ch,FpOk X pins H b)(k:∀b o,b ∉ ch->s.heap.get? b=some o->h'.get? b=some o):Inv X pins σ H { s with heap:=h',toks:=t' }:=by
 have nit:∀b u,H b=some u->b ∉ ch:=fun b u e z=>by rw[(hf b z).1] at e;cases e
 have nL:X.env.locals ∉ ch:=fun z=>(hf _ z).2.1 rfl
 refine I.step (g':=s.gens) (d':=s.drawn) (ch:=ch) (fun b hb=>?_) (fun b o _ _ hc e _=>k b o hc e) (fun b o _ _ hc e _=>⟨o.slots,k b o hc e⟩) (fun _ _ _ _ n=>n) (fun b o hc e=>⟨o,k b o hc e⟩) (fun _ _ e=>e) (fun _ _ _ e=>e) (fun b ps e=>⟨#[],by rw[e];simp⟩) (fun m hm=>?_) (fun b u e=>?_) I.bare
 ·obtain⟨f0,f1,f2,f3,f4,f5⟩:=hf b hb
  exact⟨f3.imp_right fun z=>Heap.get?_none_of_le z,f1,f4,f5⟩
 ·obtain⟨o,es,ep,ho,r⟩:=hm
  exact⟨o,es,ep,k _ o nL ho,r⟩
 ·refine(I.hok b u e).stay (fun c v hc q=>k c v ?_ q) (fun _ q=>q) fun _ _ q=>q
  rcases hc with z | z
  ·rw[z];exact nit b u e
  ·exact nit c _ z
theorem x5c{ch:List Addr}{t':Nat}{T:Addr}{xs:List V}{its:List Value}(I:Inv X pins σ H s)(hf:∀b∈ch,FpOk X pins H b)(k:∀b o,b ∉ ch->s.heap.get? b=some o->h'.get? b=some o)(hT:s.heap.objs.size<=T)(hz:xs.length<=sizeLine)(rv:Vals xs its)(ht:IsTup h' T its.toArray):Inv X pins σ (upd H T (.tup xs)) { s with heap:=h',toks:=t' }:=by
 have nit:∀b u,H b=some u->b ∉ ch:=fun b u e z=>by rw[(hf b z).1] at e;cases e
 have nL:X.env.locals ∉ ch:=fun z=>(hf _ z).2.1 rfl
 have hn:H T=none:=I.hok.fresh hT
 have neT:∀b o,s.heap.get? b=some o->b≠T:=fun b o e=>Nat.ne_of_lt (Nat.lt_of_lt_of_le (Heap.lt_size e) hT)
 have nT:∀b u,H b=some u->b≠T:=fun b u e=>z0s e hn
 refine I.step (g':=s.gens) (d':=s.drawn) (ch:=ch) (fun b hb=>?_) (fun b o _ _ hc e _=>k b o hc e) (fun b o _ _ hc e _=>⟨o.slots,k b o hc e⟩) (fun b o _ e n=>by rw[z0q (neT b o e)];exact n) (fun b o hc e=>⟨o,k b o hc e⟩)
  (fun b u e=>by rw[z0q (nT b _ e)];exact e) (fun b o u e=>by rw[z0q (nT b _ e)];exact e) (fun b ps e=>⟨#[],by rw[z0q (nT b _ e),e];simp⟩) (fun m hm=>?_) (fun b u e=>?_) I.bare
 ·obtain⟨f0,f1,f2,f3,f4,f5⟩:=hf b hb
  exact⟨f3.imp_right fun z=>Heap.get?_none_of_le z,f1,f4,f5⟩
 ·obtain⟨o,es,ep,ho,r⟩:=hm
  exact⟨o,es,ep,k _ o nL ho,r⟩
 ·by_cases hb:b=T
  ·subst hb
   rw[z0u] at e
   cases e
   exact⟨hz,its,rv,ht⟩
  ·rw[z0q hb] at e
   refine(I.hok b u e).stay (fun c v hc q=>k c v ?_ q) (fun c q=>by rw[z0q (nT c _ q)];exact q) fun c u' q=>by rw[z0q (nT c _ q)];exact q
   rcases hc with z | z
   ·rw[z];exact nit b u e
   ·exact nit c _ z
noncomputable def Sq(b:Bool)(K:PySem.W.Frag)(H:Hp)(l:Addr)(xs:List V):Prop:=if b=true then SqL K H l xs else SqT K H l xs
end
section
variable {X:Cx}{a b:Expr}{ga gb:G->R D}
end
noncomputable def JD2(K:PySem.W.Frag)(H:Hp)(F:List Addr)(J:It)(ds:List D):Prop:=∀H1,(∀b o,b ∉ F->H b=some o->H1 b=some o) ->
 (∀i:Nat,i<ds.length->J.go i H1/\∀v H2,J.yld i H1 v H2->Same H1 H2/\∃d1 d2 q v1 v2,ds[i]? = some (.tup [d1,d2])/\v = .ref q/\SqT K H2 q [v1,v2]/\∀F',(∀b,b∈F'->b∈F∨H b=none)->Is K (hid F' H2) d1 v1/\Is K (hid F' H2) d2 v2)/\J.stop ds.length H1
section
variable {X:Cx}{e a b c:Expr}{g ga gb gc:G->R D}{pos:Pos}
theorem x3j(i k:Nat){x y0:Str}{px py pt:Pos}{kt}{iter:Expr}{body:List Stmt}{gi:G->R (List D)}{gb:G->R Fl}(hp:PO' X)(hcalm:X.calm=true)(hi:PIx JD2 X (.Tuple [.Name x px,.Name y0 py] kt pt) iter gi)(hb:PQs X body gb)(hN:X.N.Nodup)(hix:X.N[i]? = some x:=by rfl)(hiy:X.N[k]? = some y0:=by rfl)(hx:Loc X.env.scope x:=by first | exact Or.inl rfl | exact Or.inr rfl)(hy:Loc X.env.scope y0:=by first | exact Or.inl rfl | exact Or.inr rfl)
 (hf:X.fn x=true∨X.env.scope.names.lookup x=some .local:=by first | exact .inl rfl | exact .inr rfl | assumption)
 (hfy:X.fn y0=true∨X.env.scope.names.lookup y0=some .local:=by first | exact .inl rfl | exact .inr rfl | assumption)
 (hs:∀x,foldedSetIterable iter X.env x=pure x:=by intro _;rfl):PQ X (.For (.Tuple [.Name x px,.Name y0 py] kt pt) iter body [] pos) (y9l i k gi gb):=by
 refine⟨fun pins s σ H F Γ I fo rl hg=>?_⟩
 refine wpAny_For (wpAny_mono (hi.run pins s σ H F Γ I fo rl (z2c hg)) (fun v s1 h1=>wpAny_mono h1 (fun itv s2 h2=>?_) fun _ _ x=>x.lift fo rl _) fun _ _ x=>x.lift fo rl _) hs
 obtain⟨ds,it,fp,tn,J,H2,e1,rfl,I2,S2,T,t0,fk,jd⟩:=h2
 have eg:y9l i k gi gb Γ=z3e gb i k ds Γ:=z3r e1
 rw[eg] at hg ⊢
 have hp':=hp pins H F (z3e gb i k ds Γ)
 have stat:∀{H':Hp},(∀b∈fp,H' b=none)->∀b∈fp,FpOk X pins H' b:=fun hn b hb=>⟨hn b hb,(fk b hb).2⟩
 refine codeAny_forLoop_any (fun n s'=>∃(j:Nat) (σ':St) (H':Hp) (F':List Addr) (Γ':G),n=ds.length-j/\j<=ds.length/\Inv X pins σ' H' s'/\tn j s'.heap/\(∀b∈fp,H' b=none)/\FOk H' F'/\Rel X.K H' F' Γ' σ'/\Ext H2 F H' F'/\z3e gb i k (ds.drop j) Γ'=z3e gb i k ds Γ) ?_ ds.length
  ⟨0,σ,H2,F,Γ,by lia,Nat.zero_le _,I2,t0,fun b hb=>(fk b hb).1,fo.same S2,rl.same S2,.refl,by rw[List.drop_zero]⟩
 rintro n s3 ⟨j,σ3,H3,F3,Γ3,en,hj,I3,t3,fr3,fo3,rl3,E3,ev3⟩
 have E03:Ext H F H3 F3:=(Ext.of_same S2).trans E3
 obtain⟨jgo,jstop⟩:=jd H3 fun b o hb h=>E3.keep b o hb h
 by_cases hlt:j<ds.length
 ·obtain⟨go,yl⟩:=jgo j hlt
  refine wpAny_passesOwn hp' (thn (T.item X rfl rfl rfl hcalm j pins s3 σ3 H3 _ I3 (stat fr3) t3 go) fun r s4 ⟨u,hr,h4⟩=>?_)
  subst hr
  refine wpAny_passesOwn hp' (thn h4 fun _ s5 ⟨y,H5,I5,r5,y5,st5,fr5⟩=>?_)
  obtain⟨S5,d1,d2,q,v1,v2,ed,rfl,sq5,iv⟩:=yl y H5 y5
  obtain⟨iv1,iv2⟩:=iv F3 fun b hb=>E3.old b hb
  have fo5:=fo3.same S5
  have rl5:=rl3.same S5
  have E5:=E3.trans (Ext.of_same S5)
  have E05:Ext H F H5 F3:=(Ext.of_same S2).trans E5
  have hdrop:ds.drop j = .tup [d1,d2]::ds.drop (j+1):=by
   rw[List.drop_eq_getElem_cons hlt]
   have:ds[j] = .tup [d1,d2]:=by
    have:=List.getElem?_eq_getElem hlt
    rw[ed] at this;exact(Option.some.inj this).symm
   rw[this]
  have I5':=I5.pinned (stat fr5) (T.obj _ _ st5)
  have hpg:PG X.nox (.Tuple [.Name x px,.Name y0 py] kt pt) (L2.gTup X.K 2 (L2.gCons (y3k i) (L2.gCons (y3k k) L2.gNil))):=x2g (X:=X.nox) hcalm (z6u (z5v (X:=X.nox) hN hix hx hf) (z6u (z5v (X:=X.nox) hN hiy hy hfy) y4j rfl) rfl) rfl rfl
  refine wpAny_passesOwn hp' (wpAny_mono (hpg _ s5 σ3 H5 (.ref q) u (fun σ' H'=>σ'=(σ3.set i (some v1)).set k (some v2)/\H'=H5) (I5'.wish _) r5 ⟨q,[v1,v2],rfl,sq5,rfl,v1,[v2],rfl,v2,[],rfl,rfl,rfl,rfl⟩) (fun _ s6 ⟨σ6,H6,I6,e6,e6'⟩=>?_) fun _ _ z=>False.elim z)
  subst e6 e6'
  have evd:z3e gb i k (.tup [d1,d2]::ds.drop (j+1)) Γ3=z3e gb i k ds Γ:=by rw[<-hdrop];exact ev3
  have hgb:gb ((Γ3.set i (.ro d1)).set k (.ro d2)) ≠ .no:=fun z=>by
   rw[<-evd] at hg
   unfold z3e at hg
   rw[z] at hg
   exact hg rfl
  have back:∀{s7:Shared} {σ7:St} {H7:Hp},Inv X (pins++z4o fp s5.heap) σ7 H7 s7->Inv X pins σ7 H7 s7/\tn (j+1) s7.heap/\∀b∈fp,H7 b=none:=fun {s7 σ7 H7} I7=>by
   refine⟨I7.unpinned,T.keep _ _ _ st5 fun b hb o e=>(I7.pin (b,o) (List.mem_append_right _ (List.mem_append_right _ (z2b hb e)))).1,fun b hb=>?_⟩
   obtain⟨o,e,dd⟩:=T.obj _ _ st5 b hb
   exact(I7.pin (b,o) (List.mem_append_right _ (List.mem_append_right _ (z2b hb e)))).2.1
  refine wpAny_passesOwn hp' (wpAny_mono (hb.run _ s6 _ H6 F3 _ I6.unwish fo5 ((rl5.set_ro iv1).set_ro iv2) hgb) (fun f s7 q7=>?_) fun x7 s7 q7=>?_)
  ·cases f with
   | next =>
     obtain⟨Γ7,e7,σ7,H7,F7,I7,fo7,rl7,E7⟩:=q7
     obtain⟨b1,b2,b3⟩:=back I7
     refine⟨ds.length-(j+1),by lia,j+1,σ7,H7,F7,Γ7,rfl,hlt,b1,b2,b3,fo7,rl7,E5.trans E7,?_⟩
     rw[<-evd]
     conv=>rhs;unfold z3e
     rw[e7]
   | cont =>
     obtain⟨Γ7,e7,σ7,H7,F7,I7,fo7,rl7,E7⟩:=q7
     obtain⟨b1,b2,b3⟩:=back I7
     refine⟨ds.length-(j+1),by lia,j+1,σ7,H7,F7,Γ7,rfl,hlt,b1,b2,b3,fo7,rl7,E5.trans E7,?_⟩
     rw[<-evd]
     conv=>rhs;unfold z3e
     rw[e7]
   | brk =>
     obtain⟨Γ7,e7,σ7,H7,F7,I7,fo7,rl7,E7⟩:=q7
     refine⟨Γ7,?_,σ7,H7,F7,I7.unpinned,fo7,rl7,E05.trans E7⟩
     rw[<-evd]
     conv=>lhs;unfold z3e
     rw[e7]
   | ret v7 =>
     refine RtP.map q7 E05 (fun _ _ I7=>I7.unpinned) (fun d7 e7=>?_) fun d7 e7=>?_
     ·rw[<-evd]
      conv=>lhs;unfold z3e
      rw[e7]
     ·rw[<-evd]
      conv=>lhs;unfold z3e
      rw[e7]
  ·obtain⟨c7,Γ7,σ7,H7,F7,e7,fl7,fo7,rl7,E7⟩:=q7
   refine⟨c7,Γ7,σ7,H7,F7,?_,?_,fo7,rl7,E05.trans E7⟩
   ·rw[<-evd]
    conv=>lhs;unfold z3e
    rw[e7]
   ·obtain⟨I7,e',C',oe,vs,q1,q2,q3,q4,q5,q6,q7',q8⟩:=fl7
    refine⟨I7.unpinned,e',C',oe,vs,q1,q2,q3,q4,q5,q6,fun p hp2=>q7' p ?_,?_⟩
    ·rcases List.mem_append.mp hp2 with z | z
     ·exact List.mem_append_left _ z
     ·exact List.mem_append_right _ (List.mem_append_left _ z)
    ·obtain⟨w1,w2,w3,w4,w5⟩:=q8
     refine⟨w1,w2,w3,w4,?_⟩
     rcases w5 with w5 | ⟨T',oT,ts,z1,z2,z3,z4,z5,z6,z7⟩
     ·exact .inl w5
     ·refine .inr ⟨T',oT,ts,z1,z2,z3,z4,z5,fun p hp2=>z6 p ?_,z7⟩
      rcases List.mem_append.mp hp2 with z | z
      ·exact List.mem_append_left _ z
      ·exact List.mem_append_right _ (List.mem_append_left _ z)
 ·have ej:j=ds.length:=by lia
  subst ej
  refine wpAny_passesOwn hp' (thn (T.done X rfl rfl rfl hcalm _ pins s3 σ3 H3 _ I3 (stat fr3) t3 jstop) fun r s4 ⟨hr,I4⟩=>?_)
  subst hr
  rw[List.drop_length] at ev3
  exact wpAny_execs_nil ⟨Γ3,ev3.symm,σ3,H3,F3,I4,fo3,rl3,E03⟩
end
noncomputable def Ite(K:PySem.W.Frag)(l:Addr):It :=
 ⟨fun i H=>∃xs x,SqL K H l xs/\xs[i]? = some x,
  fun i H v H'=>∃T x,v = .ref T/\H T=none/\H'=upd H T (.tup [.int (i:Int),x])/\∀xs,SqL K H l xs->xs[i]? = some x,
  fun i H=>∃xs,SqL K H l xs/\xs.length<=i⟩
theorem y7s{P:Program}{w:World}{K:PySem.W.Frag}{elts:List Expr}{kt}{pt:Pos}{e it l:Addr}(hei:e≠it):Turn P w K (.Tuple elts kt pt) (Ite K l) [e,it] e (fun i h=>(∃old,IsEnum h e it (i:Nat) old)/\h.IsListIter it l i) where
 mem:=by simp
 obj:=fun i h ⟨⟨old,q1⟩,q2⟩ c hc=>by
  simp only[List.mem_cons,List.not_mem_nil,or_false] at hc
  rcases hc with rfl | rfl
  ·exact⟨_,q1,fun v z=>nomatch z⟩
  ·obtain⟨o,e,c,d⟩:=q2;exact⟨o,e,fun v z=>by rw[d] at z;cases z⟩
 keep:=fun i h h' ⟨⟨old,q1⟩,q2⟩ k=>⟨⟨old,k e (by simp) _ q1⟩,q2.at fun o z=>k it (by simp) o z⟩
 item:=by
  intro X hP hw hK hc i pins s σ H E I hf ⟨⟨old,q1⟩,q2⟩ ⟨xs,x,s1,ex⟩
  subst hP hw hK
  obtain⟨its,rv,p,hz⟩:=I.list s1
  obtain⟨u,hu,ru⟩:=rv.get ex
  refine wpAny_pyNext_enum_item q1 q2 p.isList (x:=u) (by simpa using hu) hei fun h' a1 a2 a3 a4 a5=>⟨_,rfl,?_⟩
  refine wpAny_letOwnedTupleGo_enum (s:={ s with heap:=h',toks:=s.toks+1 }) a1 fun h'' c1 c2=>?_
  have Te:s.heap.objs.size≠e:=Nat.ne_of_gt (Heap.lt_size q1)
  have kk:∀c o,c ∉ [e,it]->s.heap.get? c=some o->h''.get? c=some o:=fun c o hc z=>by
   simp only[List.mem_cons,List.not_mem_nil,or_false,not_or] at hc
   exact c2.extBut _ _ hc.1 (a5 c o hc.1 hc.2 z)
  have tT:IsTup h'' s.heap.objs.size [Value.int i s.toks,u].toArray:=⟨_,c2.extBut _ _ Te a3,rfl,_,rfl⟩
  have I1:=x5c (t':=s.toks+1) (xs:=[.int (i:Int),x]) I hf kk (Nat.le_refl _) (by rw[sizeLine_eq];exact(by decide:(2:Nat)<=16777216)) (.cons ⟨_,rfl⟩ (.cons ru .nil)) tT
  refine⟨.ref s.heap.objs.size,_,I1,rfl,⟨_,x,rfl,I.hok.fresh (Nat.le_refl _),rfl,fun xs' q=>by rw[I.list_inj q s1];exact ex⟩,⟨⟨u,c1⟩,a2.extBut c2.extBut (Ne.symm hei)⟩,fun c hc=>?_⟩
  rw[z0q]
  ·exact(hf c hc).1
  ·intro z
   have ex:∃o,s.heap.get? c=some o:=by
    simp only[List.mem_cons,List.not_mem_nil,or_false] at hc
    rcases hc with rfl | rfl
    ·exact⟨_,q1⟩
    ·obtain⟨o,e,_⟩:=q2;exact⟨o,e⟩
   obtain⟨o,eo⟩:=ex
   exact absurd (Heap.lt_size eo) (by rw[z];exact Nat.lt_irrefl _)
 done:=by
  intro X hP hw hK hc i pins s σ H E I hf ⟨⟨old,q1⟩,q2⟩ ⟨xs,s1,hend⟩
  subst hP hw hK
  obtain⟨its,rv,p,hz⟩:=I.list s1
  have n1:=rv.length
  refine wpAny_pyNext_enum_end (I.ok.hd hc) q1 q2 p.isList (by simp;lia) fun h' kk=>⟨rfl,x5d (t':=s.toks) I hf fun c o hc z=>?_⟩
  simp only[List.mem_cons,List.not_mem_nil,or_false,not_or] at hc
  exact kk c o hc.2 z
 self:=fun _ _ _ _ _ st h=>by obtain⟨⟨old,q1⟩,_⟩:=st;exact wpAny_pyIter_enum q1 h
theorem y0f:∀{k:Nat} {xs:List D} {i:Nat} {x:D},xs[i]? = some x->(z4l k xs)[i]? = some (.tup [.int ((k+i:Nat):Int),x])
 | _,[],_,_,h=>by simp at h
 | k,a::xs,0,x,h=>by simp at h;subst h;simp[z4l]
 | k,a::xs,i+1,x,h=>by
   simp only[z4l,List.getElem?_cons_succ] at *
   rw[y0f h,show k+1+i=k+(i+1) by lia]
theorem y0e:∀(k:Nat) (xs:List D),(z4l k xs).length=xs.length
 | _,[]=>rfl
 | k,a::xs=>by simp[z4l,y0e (k+1) xs]
theorem x1n{K:PySem.W.Frag}{H:Hp}{F:List Addr}{l:Addr}{xs:List V}{ds:List D}(h1:SqL K H l xs)(i1:IsAll K (hid F H) ds xs):JC2 K H F (Ite K l) (z4l 0 ds):=fun H1 S=>by
 have q1:=S.seq h1
 have n1:=i1.length
 have nz:=y0e 0 ds
 refine⟨fun i hi=>⟨⟨xs,xs[i]'(by lia),q1,List.getElem?_eq_getElem (by lia)⟩,fun v H2 y=>?_⟩,⟨xs,q1,by lia⟩⟩
 obtain⟨T,x,rfl,hT,rfl,e1⟩:=y
 obtain⟨d,ed,iv⟩:=i1.getX (e1 xs q1)
 have S2:=z1v hT (.tup [.int (i:Int),x])
 have eg:=y0f (k:=0) ed
 rw[Nat.zero_add] at eg
 exact⟨S2,.int (i:Int),d,T,.int (i:Int),x,eg,rfl,SqT.of z0u,Is.int_iff.mpr rfl,iv.same (z2i (S.trans S2))⟩
theorem y3s:bootBuiltins ("enumerate":Str)=some (.type "enumerate"):=by decide +kernel
section
variable {X:Cx}{a b:Expr}{ga gb:G->R D}
theorem y8m{elts:List Expr}{kt}{pt p pos:Pos}(ha:PD X a ga)(hm:X.mg "enumerate"=none)(hg:Gl X "enumerate":=by rfl)(hs:starEach [a] X.env=[(false,eval a X.env)]:=by rfl) :
 PIx JC2 X (.Tuple elts kt pt) (.Call (.Name "enumerate" p) [a] [] pos) (y6z ga):=by
 refine⟨fun pins s σ H F Γ I fo rl hgg=>?_⟩
 refine Call_ (z4q I hg hm y3s (PyProof.Rows.callWith_type1 ?_ hs rfl))
 rw[hs]
 show wpAny _ _ (spliced ((false,eval a X.env)::backTo pos [])) _ _ s
 refine Calls.spliced_cons (wpAny_mono (ha.run pins s σ H F Γ I fo rl (R.left hgg)) (fun u s1 ⟨d,v,H1,e1,I1,r1,S1,i1⟩=>Calls.spliced_nil ?_) fun _ _ x=>x.bind _)
 have hg1:=R.next hgg e1
 cases d with
 | lst ds =>
   obtain⟨n1,e5⟩:=R.guard_ne (show R.guard (D.noLs ds=true) (.ok (z4l 0 ds)) ≠ .no from hg1)
   obtain⟨l,xs,rfl,q1,j1⟩:=Is.lst_iff.mp i1
   have j1':=IsAll.hid (fo.same S1) _ xs n1 j1
   cases (show u=Value.ref l from r1)
   obtain⟨its,rv,pl,hz⟩:=I1.list q1
   refine call_enumerate_list pl.isList fun h' a1 a2 a3 a4=>?_
   refine wpAny_pyIter_enum (s:={ s1 with heap:=h' }) a1 ?_
   have I3:Inv X pins σ H1 { s1 with heap:=h' }:=I1.kept (t':=s1.toks) a4
   refine⟨z4l 0 ds,s1.heap.objs.size+1,_,_,Ite X.K l,H1,(R.step e1 _).trans e5,rfl,I3,S1,y7s (it:=s1.heap.objs.size) (by show @Ne Nat _ _;lia),⟨⟨_,a1⟩,a2⟩,fun c hc=>?_,x1n q1 j1'⟩
   simp only[List.mem_cons,List.not_mem_nil,or_false] at hc
   have hge:s1.heap.objs.size<=c:=by rcases hc with rfl | rfl<;>lia
   exact I1.fpOk hge (I1.hok.fresh hge)
 | _=>exact absurd rfl hg1
end
section
variable {X:Cx}{e a b c:Expr}{g ga gb gc:G->R D}{pos pos' p:Pos}
end
section
variable {X:Cx}{e a b c:Expr}{g ga gb gc:G->R D}{pos pos' p:Pos}{gs:G->R (List D)}
end
noncomputable def x3v(y:Str)(names:List (Str×NameKind)):Bool:=decide (names.filter (fun p=>p.2 == .cell)=[(y,.cell)])
structure CompOkC (N:List Str) (env:Env) (y:Str) (scope:Scope):Prop where
 kind:scope.kind = .function
 nocell:∀p∈scope.names,p.2 ≠ .cell∨p.1=y
 names:∀p∈scope.names,p.2 = .local->scope.names.lookup p.1=some .local
 free:∀p∈scope.names,p.2 = .free->(∃c,env.cells.lookup p.1=some c)/\(env.scope.names.lookup p.1=some .cell∨env.scope.names.lookup p.1=some .free)
 loc:x3v y scope.names=true/\scope.names.lookup y=some .cell
 nil:scope.names.lookup (("":Str))=none
 only:∀z∈N,scope.names.lookup z≠some .local
 none:∀z∈N,z≠("":Str)
noncomputable def y4v(X:Cx)(y:Str)(scope:Scope)(C cc:Addr)(s₂:Shared)(H₂:Hp)(fp:List Addr)(pn:List (Addr×Obj)):Cx :=
 { X with N:=y::X.N.map (fun z=>if z=y then ("":Str) else z),s₀:=s₂,H₀:=H₂,env:=compEnvC scope ((y,cc)::capt X.env scope.names []) C X.env,outer:=X.stack,ex:=fp,fn:=fun z=>z==y,pn:=pn,xe:=fun _ _=>False }
section
variable {X:Cx}{y:Str}{scope:Scope}
structure PC1C (X:Cx) (y:Str) (scope:Scope) (ifs:List Expr) (elt:Expr) (f:D->G->R (Option D)):Prop where
 run:∀(C cc:Addr) (s₂:Shared) (H₂:Hp) (fp:List Addr) (pn:List (Addr×Obj)) (pins:List (Addr×Obj)) (s:Shared) (σ:St) (H:Hp) (F:List Addr) (Γ:G) (d:D),Inv (y4v X y scope C cc s₂ H₂ fp pn) pins σ H s->FOk H F->Rel X.K H F (.ro d::Γ) σ->(∃o,f d Γ = .ok o) ->
  wpAny (model X.prog X.w) X.A (forIn ifs true fun c r=>if r=true then do let ok <-isTrue c (compEnvC scope ((y,cc)::capt X.env scope.names []) C X.env) (eval c (compEnvC scope ((y,cc)::capt X.env scope.names []) C X.env));pure (ForInStep.yield ok) else pure (ForInStep.yield r)) (fun ok s₃ =>
   if ok=true then wpAny (model X.prog X.w) X.A (eval elt (compEnvC scope ((y,cc)::capt X.env scope.names []) C X.env)) (fun u s₄=>∃e v H',f d Γ = .ok (some e)/\Inv (y4v X y scope C cc s₂ H₂ fp pn) pins σ H' s₄/\RelV v u/\Same H H'/\Is X.K (hid F H') e v) (fun _ _=>False) s₃
   else f d Γ = .ok none/\∃H',Inv (y4v X y scope C cc s₂ H₂ fp pn) pins σ H' s₃/\Same H H') (fun _ _=>False) s
end
section
variable {X:Cx}{e:Expr}{pos p:Pos}{x:Str}{es:List Expr}{gs:G->R (List D)}
end
noncomputable def y9z(M:Model)(A:Around)(E:Value->Shared->Prop)(Q:Value->Shared->Prop)(env:Env)(acc:Value)(C:Addr)(r:Result)(s':Shared):Prop :=
 match r with
 | .ok _=>∃m,s'.heap.Ns C m/\∀h',Heap.SameBut C s'.heap h'->Q acc { s' with heap:=h' }
 | .error x=>∃m,s'.heap.Ns C m/\∀h',Heap.SameBut C s'.heap h'->∀ce:Env,ce.frame=env.frame->wpAny M A (PySem.passOn "comprehension.variables-let-go" x ce:Sem Value) (fun _ _=>False) E { s' with heap:=h' }
section
variable {M:Model}{A:Around}{E:Value->Shared->Prop}{env:Env}{s:Shared}
theorem y9x{e:Expr}{scope:Scope}{pos:Pos}{newAcc first:Sem Value}{g:Comprehension}{gs:List Comprehension}{cl:List (Str×Addr)}{Q:Value->Shared->Prop}
 (hcl:clausesOf e=g::gs) (hs:∀x,foldedSetIterable g.iter env x=pure x) (hclos:closureFor scope env=pure cl) (hkind:scope.kind = .function) (hnames:∀x∈scope.names,x.2 = .local->scope.names.lookup x.1=some .local)
 (h:wpAny M A first (fun x s₁=>wpAny M A (pyIter x) (fun it s₂=>wpAny M A newAcc (fun acc s₃=>wpAny M A (newFunctionEnv scope env.globals cl [] env.qual none .none (some env)) (fun cenv s₄=>cenv.frame=env.frame /\
   codeAny M A (.compStart e 0 it acc { cenv with scope:=relabel scope env }) (y9z M A E Q env acc cenv.locals) s₄) E s₃) E s₂) E s₁) E s) :
 wpAny M A (comprehension e scope env pos newAcc false first none) Q E s:=by
 have keepE:∀{x:Value} {s':Shared},E x s'->E x s':=fun q=>q
 unfold comprehension
 rw[hclos,hcl]
 refine wpAny_bind (wpAny_mono h (fun x s₁ h₁=>?_) fun _ _=>keepE)
 refine wpAny_bind (wpAny_standAt (wpAny_bind (wpAny_of_eq (hs x) (wpAny_bind (wpAny_holding (wpAny_mono h₁ (fun it s₂ h₂=>?_) fun _ _=>keepE))))))
 refine wpAny_standIf (wpAny_bind (wpAny_mono h₂ (fun acc s₃ h₃=>?_) fun _ _=>keepE))
 refine wpAny_bind (wpAny_pure (wpAny_bind (wpAny_mono h₃ (fun cenv s₄ h₄=>?_) fun _ _=>keepE)))
 obtain⟨hfr,h₄⟩:=h₄
 dsimp only
 have vis:∀x∈(scope.names.filter fun x=>(x.2 == .local||x.2 == .cell)&&x.1 != (".0":Str)).reverse,x.2 = .local->Env.kindOf { cenv with scope:=relabel scope env } x.1=some .local :=
  fun x hx q=>lookup_relabel_local (hnames x (List.mem_filter.mp (List.mem_reverse.mp hx)).1 q)
 refine wpAny_holding (wpAny_bind (wpAny_attempt (wpAny_holding (wpAny_run (codeAny_mono h₄ fun r s' hr=>?_)))))
 cases r with
 | ok f =>
   obtain⟨m,hn,hr⟩:=hr
   exact wpAny_bind (wpAny_holding (wpAny_comp_letGo (cenv:={ cenv with scope:=relabel scope env }) hkind _ s' m vis hn fun h' m' _ hs'=>wpAny_pure (hr h' hs')))
 | error x =>
   obtain⟨m,hn,hr⟩:=hr
   exact wpAny_bind (wpAny_holding (wpAny_comp_letGo (cenv:={ cenv with scope:=relabel scope env }) hkind _ s' m vis hn fun h' m' _ hs'=>wpAny_mono (hr h' hs' _ hfr) (fun _ _ f=>f.elim) fun _ _ y=>y))
end
section
variable {X:Cx}{y:Str}{scope:Scope}
theorem x2n{X:Cx}{pins pins':List (Addr×Obj)}{σ:St}{H:Hp}{s:Shared}{Y:Cx}(J:Inv X pins σ H s)(h:∀p∈Y.pn++pins',p∈X.pn++pins)(e:Y={ X with pn:=Y.pn }:=by rfl):Inv Y pins' σ H s:=by
 rw[e] at h ⊢
 exact⟨⟨J.ok.mod,J.ok.kind,J.ok.glob,J.ok.blt,J.ok.above,J.ok.inj,J.ok.has,J.ok.cab,J.ok.hd,J.ok.frames,J.ok.stk,J.ok.exf,J.ok.bs,J.ok.bsz,J.ok.noex,J.ok.exfs,J.ok.funs,J.ok.frf⟩,J.os,J.bare,J.base,J.loc,J.cell,J.free,J.freeC,fun p hp=>J.pin p (h p hp),J.hok,J.len⟩
theorem y9y{C:Addr}{fp:List Addr}{pins pl pn:List (Addr×Obj)}{σ σ':St}{H₂ H':Hp}{s₂ s1:Shared}{c:Er}{x:Value}(I:Inv X pins σ H₂ s₂)(hex:X.ex=[])(hC:s₂.heap.objs.size<=C)(hf:∀b∈fp,FpOk X pins H₂ b)
 (J:y0n (z0v X y scope C s₂ H₂ fp pn) pl σ' H' c x s1):∃(oC:Obj) (m:Str->Option Value),(∀h:Heap,h.get? C=some oC->h.Ns C m)/\y0n X (pins++[(C,oC)]) σ H' c x s1:=by
 obtain⟨J,e,Ce,oe,vs,h1,h2,h3,h4,h5,h6,h7,h8,h9,h10,h11,h12⟩:=J
 have os:s1.os=s₂.os:=J.os
 have un:Un (frs X.stack) fp H₂ H' s₂.heap s1.heap:=J.base
 have hok:HOk X.prog X.w H' s1.heap:=J.hok
 have bare:AllBare s1.gens:=J.bare
 obtain⟨m,⟨oC,es,ep,ho,hd,hk⟩,_⟩:=J.loc
 have hCn:H' C=none:=J.free
 have I':Inv X pins σ H' s1:=I.call' os un hok bare fun b hb=>by
  obtain⟨f0,f1,f2,f3,f4,f5⟩:=hf b hb
  exact⟨f3.imp_right fun z=>Heap.get?_none_of_le z,f1,f4,f5⟩
 have hCl:C≠X.env.locals:=Nat.ne_of_gt (Nat.lt_of_lt_of_le I.lt hC)
 have I2:Inv X (pins++[(C,oC)]) σ H' s1:=I'.pins_of fun p hp=>by
  rcases List.mem_append.mp hp with q | q
  ·exact I'.pin p (List.mem_append_right _ q)
  ·have:p=(C,oC):=by simpa using q
   subst this
   exact⟨ho,hCn,hCl,I.nofs hC,fun v z=>by rw[hd] at z;cases z⟩
 have far:∀q:Addr,s₂.heap.get? q=none->q≠C->X.s₀.heap.get? q=none/\q≠X.env.locals/\(∀y k,X.env.cells.lookup y=some k->k≠q)/\(∀p∈X.pn++(pins++[(C,oC)]),p.1≠q):=fun q hq hqC=>by
  obtain⟨g1,g2,g3,g4⟩:=I.gone hex hq
  refine⟨g1,g2,g3,fun p hp=>?_⟩
  rcases List.mem_append.mp hp with z | z
  ·exact g4 p (List.mem_append_left _ z)
  ·rcases List.mem_append.mp z with z | z
   ·exact g4 p (List.mem_append_right _ z)
   ·have:p=(C,oC):=by simpa using z
    subst this
    exact Ne.symm hqC
 refine⟨oC,m,fun h q=>⟨oC,es,ep,q,hd,hk⟩,I2,e,Ce,oe,vs,h1,h2,h3,?_⟩
 obtain⟨g1,g2,g3,g4⟩:=far e h4 h5
 refine⟨g1,g2,g3,g4,h8,h9,h10,h11,?_⟩
 rcases h12 with h12 | ⟨T,oT,ts,k1,k2,k3,k4,k5,k6,k7,k8,k9,k10⟩
 ·exact .inl h12
 ·obtain⟨t1,t2,t3,t4⟩:=far T k3 k4
  exact .inr ⟨T,oT,ts,k1,k2,t1,t2,t3,t4,k7,k8,k9,k10⟩
structure PC1X (X:Cx) (y:Str) (scope:Scope) (ifs:List Expr) (elt:Expr) (f:D->G->R (Option D)):Prop where
 run:∀(C:Addr) (s₂:Shared) (H₂:Hp) (fp:List Addr) (pn:List (Addr×Obj)),(∀b∈fp,∃o,(b,o)∈pn)->∀(pins:List (Addr×Obj)) (s:Shared) (σ:St) (H:Hp) (F:List Addr) (Γ:G) (d:D),Inv (z0v X y scope C s₂ H₂ fp pn) pins σ H s->FOk H F->Rel X.K H F (.ro d::Γ) σ->f d Γ ≠ .no ->
  wpAny (model X.prog X.w) X.A (forIn ifs true fun c r=>if r=true then do let ok <-isTrue c (compEnvC scope (capt X.env scope.names []) C X.env) (eval c (compEnvC scope (capt X.env scope.names []) C X.env));pure (ForInStep.yield ok) else pure (ForInStep.yield r)) (fun ok s₃ =>
   if ok=true then wpAny (model X.prog X.w) X.A (eval elt (compEnvC scope (capt X.env scope.names []) C X.env)) (fun u s₄=>∃e v H',f d Γ = .ok (some e)/\Inv (z0v X y scope C s₂ H₂ fp pn) pins σ H' s₄/\RelV v u/\Same H H'/\Is X.K (hid F H') e v) (fun x s'=>∃c H',f d Γ = .er c/\Same H H'/\y0n (z0v X y scope C s₂ H₂ fp pn) pins σ H' c x s') s₃
   else f d Γ = .ok none/\∃H',Inv (z0v X y scope C s₂ H₂ fp pn) pins σ H' s₃/\Same H H') (fun x s'=>∃c H',f d Γ = .er c/\Same H H'/\y0n (z0v X y scope C s₂ H₂ fp pn) pins σ H' c x s') s
theorem x3o{elt:Expr}{ge:G->R D}(he:∀C s₂ H₂ fp pn,(∀b∈fp,∃o,(b,o)∈pn)->PDr (z0v X y scope C s₂ H₂ fp pn) elt ge):PC1X X y scope [] elt (fElt ge):=by
 refine⟨fun C s₂ H₂ fp pn hpn pins s σ H F Γ d I fo rl ho=>?_⟩
 refine wpAny_tests_nil ?_
 rw[if_pos rfl]
 have hne:ge (.ro d::Γ) ≠ .no:=fun z=>by unfold fElt at ho;rw[z] at ho;exact ho rfl
 exact wpAny_mono ((he C s₂ H₂ fp pn hpn).run pins s σ H F (.ro d::Γ) I fo rl hne) (fun u s4 ⟨e,v,H',e1,I',rv,S,iv⟩=>⟨e,v,H',R.step e1 _,I',rv,S,iv⟩) fun x s' ⟨c,H',e1,S,fl⟩=>⟨c,H',R.stop e1 _,S,fl⟩
theorem y7f{elt iter:Expr}{px pos:Pos}{ifs:List Expr}{f:D->G->R (Option D)}{pins:List (Addr×Obj)}{σ:St}{H₂:Hp}{s₂:Shared}{F:List Addr}{Γ:G}{items:List D}{it:Addr}{fp:List Addr}{tn:Nat->Heap->Prop}{J:It}{E:Value->Shared->Prop}{res:R (List D)}{L:Addr}
 (hp:PC1X X y scope ifs elt f) (c:CompOk X.N X.env y scope) (hN:X.N.Nodup) (hcalm:X.calm=true) (I:Inv X pins σ H₂ s₂) (fo:FOk H₂ F) (rl:Rel X.K H₂ F Γ σ) (T:Turn X.prog X.w X.K (.Name y px) J fp it tn) (t0:tn 0 s₂.heap) (hf:∀b∈fp,FpOk X pins H₂ b) (hj:JC X.K H₂ F J items)
 (hex:X.ex=[]) (hstk:X.stack=X.env::X.outer) (hfr:X.env.frame=some L) (ht:z2x (fun d=>f d Γ) items []=res) (hno:res ≠ .no) (hl:items.length<=100000) {RR:Value->Addr->Result->Shared->Prop}
 (hE:∀(Dd C:Addr) (oC:Obj) (m:Str->Option Value) (c:Er) (x:Value) (H':Hp) (s':Shared),s₂.heap.objs.size<=C->res = .er c->Same H₂ H'->(∀h:Heap,h.get? C=some oC->h.Ns C m)->z7h X (pins++[(C,oC)]) σ H' c x s' (rawInt L)->RR (.ref Dd) C (.error x) s')
 (hR:∀(total:List D) (Dd C:Addr) (xs:List V) (H':Hp) (m:Str->Option Value) (s':Shared),res = .ok total->s₂.heap.objs.size<=C->Dd≠C->H₂ Dd=none->H' Dd=none->H' C=none->s₂.heap.objs.size<=Dd->Same H₂ H'->IsAll X.K (hid F H') total xs->Inv X pins σ (upd H' Dd (.lst xs)) s'->s'.heap.Ns C m->RR (.ref Dd) C (.ok .next) s') :
 wpAny (model X.prog X.w) X.A (newList []) (fun acc s₃=>wpAny (model X.prog X.w) X.A (newFunctionEnv scope X.env.globals (capt X.env scope.names []) [] X.env.qual none .none (some X.env)) (fun cenv s₄=>cenv.frame=X.env.frame /\
  codeAny (model X.prog X.w) X.A (.compStart (.ListComp elt [⟨.Name y px,iter,ifs,0⟩] scope pos) 0 (.ref it) acc { cenv with scope:=relabel scope X.env }) (RR acc cenv.locals) s₄) E s₃) E s₂:=by
 have ho:∀b∈fp,b<s₂.heap.objs.size:=fun b hb=>by obtain⟨o,e,_⟩:=T.obj _ _ t0 b hb;exact Heap.lt_size e
 refine wpAny_newObj_type (wpAny_newFunctionEnv c.nocell (by intro y hy;simp at hy) (fun h₁ hns₁ hsb₁=>?_) c.kind)
 dsimp only at hns₁ hsb₁ ⊢
 generalize hH2:s₂.heap.push { cls:=.type "list",dict:=none,data:=.seq ([]:List Value).toArray }=H2 at hns₁ hsb₁ ⊢
 have hCs:H2.objs.size=s₂.heap.objs.size+1:=by rw[<-hH2,Heap.size_push]
 generalize hCC:H2.objs.size=C at hns₁ hsb₁ hCs ⊢
 generalize hDD:s₂.heap.objs.size=Dd at hCs ⊢
 obtain⟨⟨hDC,hC,hD⟩,below⟩:=sb2 hCs hDD
 have old:∀b o,s₂.heap.get? b=some o->h₁.get? b=some o:=fun b o e=>by
  refine hsb₁.extBut b o (below b (Heap.lt_size e)).1 ?_
  exact Heap.get?_push_of_some _ (hH2 ▸ Heap.get?_push_of_some _ e)
 have hacc:h₁.get? Dd=some { cls:=.type "list",dict:=none,data:=.seq ([]:List Value).toArray }:=by
  refine hsb₁.extBut _ _ hDC ?_
  refine Heap.get?_push_of_some _ ?_
  rw[<-hH2,<-hDD]
  exact Heap.get?_push_size _ rfl
 have J0:∀tk,Inv (z0v X y scope C s₂ H₂ fp (X.pn++pins)) [(Dd,{ cls:=.type "list",dict:=none,data:=.seq ([]:List Value).toArray })] (none::σ) H₂ { s₂ with heap:=h₁,toks:=tk }:=fun tk =>
  y1d I c hC hD hDC hf ho old hns₁ hacc (fun v z=>nomatch z)
 have t1:tn 0 h₁:=T.keep _ _ _ t0 fun b hb o e=>old b o e
 have fpY:∀{H':Hp} {o:Obj},(∀b∈fp,H' b=none)->∀b∈fp,FpOk (z0v X y scope C s₂ H₂ fp (X.pn++pins)) [(Dd,o)] H' b:=fun {H' o} hn b hb=>by
  obtain⟨f0,f1,f2,f3,f4,f5⟩:=hf b hb
  have lt:=ho b hb
  refine⟨hn b hb,(below b lt).1,fun z=>?_,.inl hb,fun x k e=>?_,fun p hp'=>?_⟩
  ·rcases List.mem_cons.mp (I.stkSub b z) with q | q
   ·exact f1 q
   ·exact f2 q
  ·rcases z3a scope.names [] (PySem.mem_of_lookup e) with q | q
   ·simp at q
   ·exact f4 x k q
  ·rcases List.mem_append.mp hp' with q | q
   ·exact f5 p q
   ·have e:p=(Dd,o):=by simpa using q
    subst e
    exact Ne.symm (below b lt).2
 have NdY:(z0v X y scope C s₂ H₂ fp (X.pn++pins)).N.Nodup:=by
  show(y::X.N.map (fun z=>if z=y then ("":Str) else z)).Nodup
  refine List.nodup_cons.mpr ⟨fun z=>?_,?_⟩
  ·obtain⟨z',hz,e⟩:=List.mem_map.mp z
   by_cases q:z'=y
   ·rw[if_pos q] at e
    subst e
    have:=c.loc;rw[c.nil] at this;cases this
   ·rw[if_neg q] at e;exact q e
  ·have inj:∀a∈X.N,∀b∈X.N,(if a=y then ("":Str) else a)=(if b=y then ("":Str) else b)->a=b:=fun a ha b hb e=>by
    by_cases qa:a=y
    ·by_cases qb:b=y
     ·rw[qa,qb]
     ·rw[if_pos qa,if_neg qb] at e;exact absurd e.symm (c.none b hb)
    ·by_cases qb:b=y
     ·rw[if_neg qa,if_pos qb] at e;exact absurd e (c.none a ha)
     ·rw[if_neg qa,if_neg qb] at e;exact e
   have gen:∀l:List Str,(∀a∈l,a∈X.N)->l.Nodup->(l.map (fun z=>if z=y then ("":Str) else z)).Nodup:=by
    intro l
    induction l with
    | nil=>intro _ _;exact List.nodup_nil
    | cons a l ih =>
      intro hs nd
      obtain⟨n1,n2⟩:=List.nodup_cons.mp nd
      rw[List.map_cons]
      refine List.nodup_cons.mpr ⟨fun z=>?_,ih (fun b hb=>hs b (List.mem_cons_of_mem _ hb)) n2⟩
      obtain⟨b,hb,e⟩:=List.mem_map.mp z
      exact n1 (inj b (hs b (List.mem_cons_of_mem _ hb)) a (hs a List.mem_cons_self) e ▸ hb)
   exact gen X.N (fun _ h=>h) hN
 let Lp:Nat->Shared->Prop:=fun n s'=>∃(i:Nat) (H':Hp) (o:Option V) (xs:List V) (its:List Value) (acc:List D) (k:Nat),n=items.length-i/\i<=items.length/\Inv (z0v X y scope C s₂ H₂ fp (X.pn++pins)) [(Dd,{ cls:=.type "list",dict:=none,data:=.seq its.toArray k })] (o::σ) H' s' /\
  Same H₂ H'/\(∀b∈fp,H' b=none)/\tn i s'.heap/\Vals xs its/\acc.length<=i/\IsAll X.K (hid F H') acc xs/\z2x (fun d=>f d Γ) (items.drop i) acc=res
 have loop:∀s₄:Shared,Lp items.length s₄->codeAny (model X.prog X.w) X.A (.compLoop (.ListComp elt [⟨.Name y px,iter,ifs,0⟩] scope pos) 0 (.ref it) (.ref Dd) (compEnvC scope (capt X.env scope.names []) C X.env)) (RR (.ref Dd) C) s₄:=fun s₄ h4=>by
  refine codeAny_compLoop_tests Lp (fun n s' hL=>wpAny_mono (E:=fun _ _=>False) ?_ (fun _ _ q=>q) fun _ _ z=>z.elim) items.length h4
  obtain⟨i,H',o,xs,its,acc,k,en,hi,J',S',fr',tn',rv,hal,ia,eg⟩:=hL
  obtain⟨jgo,jstop⟩:=hj H' S'
  have hpD:=J'.pin (Dd,{ cls:=.type "list",dict:=none,data:=.seq its.toArray k }) (List.mem_append_right _ (by simp))
  have hxl:xs.length<=100000:=by rw[<-ia.length];exact Nat.le_trans hal (Nat.le_trans hi hl)
  have hsl:(100000:Nat)<=sizeLine:=by rw[sizeLine_eq];decide
  by_cases hlt:i<items.length
  ·obtain⟨go,yl⟩:=jgo i hlt
   refine thn (T.item (z0v X y scope C s₂ H₂ fp (X.pn++pins)) rfl rfl rfl hcalm i _ s' _ H' (fun _ _=>False) J' (fpY fr') tn' go) fun r s2 ⟨u,hr,h1⟩=>?_
   subst hr
   refine pure_I (a:=()) h1 fun⟨x,H5,J5,r5,y5,st5,fr5⟩=>?_
   obtain⟨e5,d,ed,iv⟩:=yl x H5 y5
   subst e5
   have J5':=J5.pinned (fpY fr5) (T.obj _ _ st5)
   have hdrop:items.drop i=d::items.drop (i+1):=by
    rw[List.drop_eq_getElem_cons hlt]
    have:items[i]=d:=by
     have:=List.getElem?_eq_getElem hlt
     rw[ed] at this;exact(Option.some.inj this).symm
    rw[this]
   rw[hdrop] at eg
   have hne1:f d Γ ≠ .no:=fun z=>by
    have eg2:=eg
    unfold z2x at eg2
    simp only[z] at eg2
    exact hno eg2.symm
   have hok1:∀od,f d Γ = .ok od->(match od with | some e=>z2x (fun d=>f d Γ) (items.drop (i+1)) (acc++[e]) | none=>z2x (fun d=>f d Γ) (items.drop (i+1)) acc)=res:=fun od q=>by
    have eg2:=eg
    unfold z2x at eg2
    cases od with
    | none=>simp only[q] at eg2;exact eg2
    | some e=>simp only[q] at eg2;exact eg2
   have her1:∀c',f d Γ = .er c'->res = .er c':=fun c' q=>by
    have eg2:=eg
    unfold z2x at eg2
    simp only[q] at eg2
    exact eg2.symm
   have hpg:PG (z0v X y scope C s₂ H₂ fp (X.pn++pins)).nox (.Name y px) (y3k 0):=z5v (X:=(z0v X y scope C s₂ H₂ fp (X.pn++pins)).nox) NdY rfl (.inl (lookup_relabel_local c.loc)) (.inr (lookup_relabel_local c.loc))
   refine wpAny_mono (hpg _ s2 (o::σ) H5 x u (fun σ' H'=>σ'=some x::σ/\H'=H5) (J5'.wish _) r5 ⟨rfl,rfl⟩) (fun _ s3 ⟨σ6,H6,J6,e6,e6'⟩=>?_) fun _ _ z=>z.elim
   subst e6 e6'
   have J6':=J6.unwish
   have fo6:=fo.same S'
   have mv:∀{s5:Shared} {H7:Hp} {σ7:St},Inv (z0v X y scope C s₂ H₂ fp (X.pn++pins)) ([(Dd,{ cls:=.type "list",dict:=none,data:=.seq its.toArray k })]++z4o fp s2.heap) σ7 H7 s5->Inv (z0v X y scope C s₂ H₂ fp (X.pn++pins++z4o fp s2.heap)) [(Dd,{ cls:=.type "list",dict:=none,data:=.seq its.toArray k })] σ7 H7 s5:=fun J=>x2n J fun p hp'=>by
    rcases List.mem_append.mp hp' with q | q
    ·rcases List.mem_append.mp q with q | q
     ·exact List.mem_append_left _ q
     ·exact List.mem_append_right _ (List.mem_append_right _ q)
    ·exact List.mem_append_right _ (List.mem_append_left _ q)
   have vm:∀{s5:Shared} {H7:Hp} {σ7:St},Inv (z0v X y scope C s₂ H₂ fp (X.pn++pins++z4o fp s2.heap)) [(Dd,{ cls:=.type "list",dict:=none,data:=.seq its.toArray k })] σ7 H7 s5->Inv (z0v X y scope C s₂ H₂ fp (X.pn++pins)) ([(Dd,{ cls:=.type "list",dict:=none,data:=.seq its.toArray k })]++z4o fp s2.heap) σ7 H7 s5:=fun J=>x2n J fun p hp'=>by
    rcases List.mem_append.mp hp' with q | q
    ·exact List.mem_append_left _ (List.mem_append_left _ q)
    ·rcases List.mem_append.mp q with q | q
     ·exact List.mem_append_right _ q
     ·exact List.mem_append_left _ (List.mem_append_right _ q)
   have hpn:∀b∈fp,∃o,(b,o)∈X.pn++pins++z4o fp s2.heap:=fun b hb=>by
    obtain⟨o,e,_⟩:=T.obj _ _ st5 b hb
    exact⟨o,List.mem_append_right _ (z2b hb e)⟩
   have fall:∀{xx:Value} {s5:Shared} {c':Er} {H7:Hp},f d Γ = .er c'->Same H6 H7->y0n (z0v X y scope C s₂ H₂ fp (X.pn++pins++z4o fp s2.heap)) [(Dd,{ cls:=.type "list",dict:=none,data:=.seq its.toArray k })] (some x::σ) H7 c' xx s5->notedBy (model X.prog X.w) X.A (compEnvC scope (capt X.env scope.names []) C X.env) (fun e s'=>RR (.ref Dd) C (.error e) s') xx s5:=fun {xx s5 c' H7} ef S7 fl=>by
    obtain⟨oC,m,hC1,fl'⟩:=y9y I hex hC hf fl
    show wpAny _ X.A (noteFrame xx X.env) _ _ s5
    exact y1w hex hstk hfr fl' fun s6 f6=>hE Dd C oC m c' xx H7 s6 hC (her1 c' ef) (S'.trans S7) hC1 f6
   refine wpAny_mono (hp.run C s₂ H₂ fp (X.pn++pins++z4o fp s2.heap) hpn _ s3 _ H6 F Γ d (mv J6') fo6 (z9f (rl.same S') iv) hne1) (fun ok s4 h4=>?_) fun x s5 ⟨c',H7,ef,S7,fl⟩=>fall ef S7 fl
   have back:∀{s5:Shared} {H7:Hp} {σ7:St},Inv (z0v X y scope C s₂ H₂ fp (X.pn++pins)) ([(Dd,{ cls:=.type "list",dict:=none,data:=.seq its.toArray k })]++z4o fp s2.heap) σ7 H7 s5->tn (i+1) s5.heap/\(∀b∈fp,H7 b=none):=fun {s5 H7 σ7} J7=>by
    refine⟨T.keep _ _ _ st5 fun b hb o' e=>(J7.pin (b,o') (List.mem_append_right _ (List.mem_append_right _ (z2b hb e)))).1,fun b hb=>?_⟩
    obtain⟨o',e,dd⟩:=T.obj _ _ st5 b hb
    exact(J7.pin (b,o') (List.mem_append_right _ (List.mem_append_right _ (z2b hb e)))).2.1
   cases ok with
   | false =>
     rw[if_neg Bool.false_ne_true] at h4 ⊢
     obtain⟨ef,H7,J7,S7⟩:=h4
     have etot:=hok1 _ ef
     have J7:=vm J7
     obtain⟨tn7,fr7⟩:=back J7
     exact⟨items.length-(i+1),sb1 en hlt,i+1,H7,some x,xs,its,acc,k,rfl,hlt,J7.unpinned,S'.trans S7,fr7,tn7,rv,Nat.le_succ_of_le hal,ia.same (z2i S7),etot⟩
   | true =>
     rw[if_pos rfl] at h4 ⊢
     refine wpAny_mono h4 (fun u7 s5 ⟨e,v7,H7,ef,J7,r7,S7,iv7⟩=>?_) fun x s5 ⟨c',H7,ef,S7,fl⟩=>fall ef S7 fl
     have etot:=hok1 _ ef
     have J7:=vm J7
     obtain⟨tn7,fr7⟩:=back J7
     have J8:=J7.unpinned
     have hpD7:=J8.pin (Dd,{ cls:=.type "list",dict:=none,data:=.seq its.toArray k }) (List.mem_append_right _ (by simp))
     have hlen:its.length=acc.length:=by rw[<-rv.length,<-ia.length]
     refine wpAny_list_append_plain (l:=Dd) (items:=its.toArray) (x:=u7) ⟨k,hpD7.1⟩ (fun h' hl' hs'=>?_) (by rw[List.size_toArray,<-rv.length];exact Nat.le_trans hxl hsl)
     obtain⟨k',hk'⟩:=hl'
     have epush:its.toArray.push u7=(its++[u7]).toArray:=by simp
     rw[epush] at hk'
     have J9:Inv (z0v X y scope C s₂ H₂ fp (X.pn++pins)) [] (some x::σ) H7 s5:=J8.pins_of fun p hp'=>by simp at hp'
     have J10:Inv (z0v X y scope C s₂ H₂ fp (X.pn++pins)) [] (some x::σ) H7 { s5 with heap:=h' }:=J9.turned (t':=s5.toks) (it:=Dd) (fun b o' hb e'=>(hs'.2 b hb).trans e') hpD7.2.1 hDC (.inr hD) (fun x' k'' e' z=>by
      rcases z3a scope.names [] (PySem.mem_of_lookup e') with q | q
      ·simp at q
      ·obtain⟨v',o',ho',_⟩:=I.cell x' k'' q
       exact(below k'' (Heap.lt_size ho')).2 z) (fun p hp' z=>by
      rcases List.mem_append.mp hp' with q | q
      ·obtain⟨h1',_⟩:=I.pin p q
       exact(below p.1 (Heap.lt_size h1')).2 z
      ·simp at q)
     have J11:Inv (z0v X y scope C s₂ H₂ fp (X.pn++pins)) [(Dd,{ cls:=.type "list",dict:=none,data:=.seq (its++[u7]).toArray k' })] (some x::σ) H7 { s5 with heap:=h' }:=J10.pins_of fun p hp'=>by
      have e':p=(Dd,{ cls:=.type "list",dict:=none,data:=.seq (its++[u7]).toArray k' }):=by simpa using hp'
      subst e'
      exact⟨hk',hpD7.2.1,hDC,hpD7.2.2.2.1,fun v z=>nomatch z⟩
     refine⟨items.length-(i+1),sb1 en hlt,i+1,H7,some x,xs++[v7],its++[u7],acc++[e],k',rfl,hlt,J11,S'.trans S7,fr7,T.keep _ _ _ tn7 fun b hb o' e'=>(hs'.2 b (below b (ho b hb)).2).trans e',rv.append (.cons r7 .nil),by rw[List.length_append,List.length_singleton];exact Nat.succ_le_succ hal,(ia.same (z2i S7)).append (IsAll.cons iv7 IsAll.nil),etot⟩
  ·have hi':i=items.length:=Nat.le_antisymm hi (Nat.le_of_not_lt hlt)
   subst hi'
   refine thn (T.done (z0v X y scope C s₂ H₂ fp (X.pn++pins)) rfl rfl rfl hcalm _ _ s' _ H' (fun _ _=>False) J' (fpY fr') tn' jstop) fun r s1 ⟨hr,J1⟩=>?_
   subst hr
   have hpD1:=J1.pin (Dd,{ cls:=.type "list",dict:=none,data:=.seq its.toArray k }) (List.mem_append_right _ (by simp))
   rw[List.drop_length] at eg
   have eacc:res = .ok acc:=by rw[<-eg];unfold z2x;rfl
   obtain⟨mC,hnC,_⟩:=J1.loc
   exact hR acc Dd C xs H' mC s1 eacc hC hDC (I.hok.fresh hD) hpD1.2.1 J1.free hD S' ia (y3m I J1 hD hpD1.2.1 hpD1.1 rv (Nat.le_trans hxl hsl) hf) hnC
 have L0:∀tk,Lp items.length { s₂ with heap:=h₁,toks:=tk }:=fun tk=>⟨0,H₂,none,[],[],[],_,rfl,Nat.zero_le _,J0 tk,.refl _,fun b hb=>(hf b hb).1,t1,.nil,Nat.le_refl _,IsAll.nil,by rw[List.drop_zero];exact ht⟩
 exact⟨rfl,codeAny_compStart_list (loop _ (L0 _)) (T.self _ 0 _ _ _ t1 (loop _ (L0 _)))⟩
theorem x0w{L:Addr}{elt iter:Expr}{px pos:Pos}{ifs:List Expr}{f:D->G->R (Option D)}{gi:G->R (List D)}(hi:PIC X (.Name y px) iter gi)(hp:PC1X X y scope ifs elt f)(hN:X.N.Nodup)(hcalm:X.calm=true)(hex:X.ex=[])(hstk:X.stack=X.env::X.outer)(hfr:X.env.frame=some L)
 (chk:y0k X.N X.env y scope=true:=by rfl) (hclos:closureFor scope X.env=pure (capt X.env scope.names []):=by rfl) (hs:∀x,foldedSetIterable iter X.env x=pure x:=by intro _;rfl) :
 PF X (.ListComp elt [⟨.Name y px,iter,ifs,0⟩] scope pos) (z8p gi f):=by
 refine⟨fun pins s σ H F Γ I fo rl hg=>?_⟩
 have c:=y0i chk
 rw[eval_ListComp]
 refine y9x rfl hs hclos c.kind c.names (wpAny_mono (hi.run pins s σ H F Γ I fo rl (R.left hg)) (fun xv s₁ h₁=>wpAny_mono h₁ (fun itv s₂ h₂=>?_) fun _ _ x=>x.bind _) fun _ _ x=>x.bind _)
 obtain⟨items,it,fp,tn,J,H₂,e1,rfl,I2,S2,T,t0,fk,jc⟩:=h₂
 have hgx:=R.next hg e1
 obtain⟨hl,e2⟩:=R.guard_ne hgx
 have hne:z2x (fun d=>f d Γ) items [] ≠ .no:=by
  have:=R.next hg e1
  rw[e2] at this;exact this
 have eR:z8p gi f Γ=z2x (fun d=>f d Γ) items []:=(R.step e1 _).trans e2
 refine y7f (RR:=fun acc C=>y9z (model X.prog X.w) X.A _ _ X.env acc C) hp c hN hcalm I2 (fo.same S2) (rl.same S2) T t0 fk jc hex hstk hfr rfl hne hl ?_ ?_
 ·intro Dd C oC m c' x H' s' hC er S' hCm fl
  obtain⟨I',e,Ce,oe,vs,h1,h2,h3,h4,h5,h6,h7,h8,h9,h10,h11,T',oT,ts,k1,k2,k3,k4,k5,k6,k7,k8,k9,k10⟩:=fl
  have pC:=I'.pin (C,oC) (List.mem_append_right _ (List.mem_append_right _ (by simp)))
  have eC:C≠e:=h7 (C,oC) (List.mem_append_right _ (List.mem_append_right _ (by simp)))
  have TC:C≠T':=k6 (C,oC) (List.mem_append_right _ (List.mem_append_right _ (by simp)))
  refine⟨m,hCm _ pC.1,fun h'' hs'' ce hce=>?_⟩
  have I0:Inv X pins σ H' s':=I'.pins_of fun p hp'=>I'.pin p (List.mem_append_right _ (List.mem_append_left _ hp'))
  have nlt:∀{b:Addr} {o:Obj},s₂.heap.get? b=some o->b≠C:=fun e=>Nat.ne_of_lt (Nat.lt_of_lt_of_le (Heap.lt_size e) hC)
  have I'':Inv X pins σ H' { s' with heap:=h'' }:=I0.turned (t':=s'.toks) (it:=C) (fun b o hb e=>hs''.extBut b o hb e) pC.2.1 pC.2.2.1 (.inr (Nat.le_trans I2.sz hC))
   (fun x k e=>by obtain⟨v,o,ho,_⟩:=I2.cell x k e;exact nlt ho) (fun p hp'=>nlt (I2.pin p hp').1)
  have fl2:z7h X pins σ H' c' x { s' with heap:=h'' } (rawInt L):=⟨I'',e,Ce,oe,vs,h1,h2,h3,h4,h5,h6,fun p hp'=>h7 p (by
   rcases List.mem_append.mp hp' with q | q
   ·exact List.mem_append_left _ q
   ·exact List.mem_append_right _ (List.mem_append_left _ q)),hs''.extBut e oe (Ne.symm eC) h8,h9,h10,h11,T',oT,ts,k1,k2,k3,k4,k5,fun p hp'=>k6 p (by
   rcases List.mem_append.mp hp' with q | q
   ·exact List.mem_append_left _ q
   ·exact List.mem_append_right _ (List.mem_append_left _ q)),k7,hs''.extBut T' oT (Ne.symm TC) k8,k9,k10⟩
  subst h1
  unfold PySem.passOn
  refine wpAny_bind (wpAny_field (hs''.extBut e oe (Ne.symm eC) h8) h10 k1 ?_)
  rw[if_neg (show ¬((Value.ref T'==Value.none)=true) from by simp)]
  rw[hce,hfr]
  refine wpAny_bind (y4t fl2 fun s9 f9=>?_)
  exact wpAny_throw ⟨c',H',eR.trans er,S2.trans S',f9.here hfr⟩
 ·intro total Dd C xs H' m s' et hC hDC hn hn' hnC hD S' ia I' hnsC
  refine⟨m,hnsC,fun h'' hs''=>?_⟩
  have nlt:∀{b:Addr} {o:Obj},s₂.heap.get? b=some o->b≠C:=fun e=>Nat.ne_of_lt (Nat.lt_of_lt_of_le (Heap.lt_size e) hC)
  have I'':Inv X pins σ (upd H' Dd (.lst xs)) { s' with heap:=h'' }:=I'.turned (t':=s'.toks) (it:=C) (fun b o hb e=>hs''.extBut b o hb e) (by rw[z0q (Ne.symm hDC)];exact hnC) (Nat.ne_of_gt (Nat.lt_of_lt_of_le I2.lt hC)) (.inr (Nat.le_trans I2.sz hC))
   (fun x k e=>by obtain⟨v,o,ho,_⟩:=I2.cell x k e;exact nlt ho) (fun p hp'=>nlt (I2.pin p hp').1)
  have S3:=z1v hn' (.lst xs)
  refine⟨total,Dd,xs,_,eR.trans et,I'',rfl,(S2.trans S').trans S3,S2.free hn,z0u,ia.same fun b o hb=>?_⟩
  obtain⟨z1,z2⟩:=z3g hb
  have hbl:b≠Dd:=z0s z2 hn'
  rw[z2r fun z=>(List.mem_cons.mp z).elim hbl z1,z0q hbl]
  exact z2
end
section
variable {X:Cx}{e a b c:Expr}{g ga gb gc:G->R D}{pos p:Pos}{x:Str}{es:List Expr}{gs:G->R (List D)}
theorem x6r{pins:List (Addr×Obj)}{σ:St}{H:Hp}{s:Shared}{q:Addr}(I:Inv X pins σ H s)(hpn:∀b∈X.ex,∃o,(b,o)∈X.pn)(hq:s.heap.get? q=none):X.s₀.heap.get? q=none/\q≠X.env.locals/\(∀y k,X.env.cells.lookup y=some k->k≠q)/\(∀p∈X.pn++pins,p.1≠q):=by
 refine⟨?_,fun z=>?_,fun y k ek z=>?_,fun p hp z=>?_⟩
 ·cases e0:X.s₀.heap.get? q with
  | none=>rfl
  | some o =>
    obtain⟨o',e1⟩:=I.base.there q o e0 fun z=>by
     obtain⟨o,hm⟩:=hpn q z
     have:=(I.pin (q,o) (List.mem_append_left _ hm)).1
     rw[hq] at this;cases this
    rw[hq] at e1;cases e1
 ·obtain⟨m,⟨o,_,_,ho,_⟩,_⟩:=I.loc
  rw[<-z,hq] at ho;cases ho
 ·obtain⟨v,o,ho,_⟩:=I.cell y k ek
  rw[z,hq] at ho;cases ho
 ·have ho:=(I.pin p hp).1
  rw[z,hq] at ho;cases ho
theorem y1x{pins:List (Addr×Obj)}{σ:St}{H:Hp}{s s':Shared}{u:Value}{r:R D}{E:XK}(hpn:∀b∈X.ex,∃o,(b,o)∈X.pn)(I:Inv X pins σ H s)(h:CXE X.prog X.w X.stack H s E u s')
 (hE:∀C H',E (.ref C) none H'->∃c,r = .er c/\X.mg c.nm=some (.ref C)/\Same H H'):z1h X pins σ H r u s':=by
 obtain⟨e,C,T,oe,oT,vs,ts,H',rfl,os,bare,un,hok,he0,he1,he2,he3,he4,he5,hv,hT0,hT1,hT2,hT3,hT4,hT5,hE'⟩:=h
 obtain⟨c,er,hm,S⟩:=hE C H' hE'
 obtain⟨hh,gg,dd,tt,os'⟩:=s'
 obtain rfl:os'=s.os:=os
 have I':Inv X pins σ H' { s with heap:=hh,gens:=gg,drawn:=dd,toks:=tt }:=I.call (h':=hh) (g':=gg) (d':=dd) (t':=tt) (ch:=[]) un hok bare (fun b z=>absurd z (by simp))
 have fr:∀q:Addr,s.heap.get? q=none->X.s₀.heap.get? q=none/\q≠X.env.locals/\(∀y k,X.env.cells.lookup y=some k->k≠q)/\(∀p∈X.pn++pins,p.1≠q):=fun q hq=>x6r I hpn hq
 obtain⟨f1,f2,f3,f4⟩:=fr e he1
 obtain⟨g1,g2,g3,g4⟩:=fr T hT1
 exact⟨c,H',er,S,I',e,C,oe,vs,rfl,hm,he0,f1,f2,f3,f4,he2,he3,he4,he5,.inr ⟨T,oT,ts,hv,hT0,g1,g2,g3,g4,hT2,hT3,hT4,.inl hT5⟩⟩
theorem x6z{k:Nat}{f:Addr}{fd:FuncData}{ps:List Str}{φ:List D->R D}(Fn:FnD X.prog X.w X.K X.mg X.base k f fd ps φ)(hr:Room k X.A){pins:List (Addr×Obj)}{σ:St}{H:Hp}{s:Shared}{us:List Value}{vs:List V}{ds:List D}
 (I:Inv X pins σ H s) (r:Vals vs us) (i:IsAll X.K H ds vs) (hg:φ ds ≠ .no) (hpn:∀b∈X.ex,∃o,(b,o)∈X.pn):wpAny (model X.prog X.w) X.A (call (.ref f) us) (Post X pins σ H (φ ds)) (z1h X pins σ H (φ ds)) s:=by
 have hsp:spD X.K X.mg φ vs H (fun v H'=>∃d,φ ds = .ok d/\Same H H'/\Is X.K H' d v) (fun C' _ H'=>∃c C,C' = .ref C/\φ ds = .er c/\X.mg c.nm=some (.ref C)/\Same H H') :=
  ⟨ds,i,hg,fun d v H' e S iv=>⟨d,e,S,iv⟩,fun c C H' e hm S=>⟨c,C,rfl,e,hm,S⟩⟩
 have hl:us.length=ps.length:=by rw[<-r.length];exact Fn.ok.len _ _ _ _ hsp
 have hb:=Fn.binds s us I.kIn (by rw[List.append_nil];exact hl)
 rw[List.append_nil] at hb
 refine wpAny_call (codeAny_mono (Fn.ok.run X.A X.stack s H ⟨us,[]⟩ us vs _ _ hr I.env0 hb r hsp) fun r' s' hq=>?_)
 cases r' with
 | error u =>
   refine y1x (E:=fun C' _ H'=>∃c C,C' = .ref C/\φ ds = .er c/\X.mg c.nm=some (.ref C)/\Same H H') hpn I hq fun C H' hE=>?_
   obtain⟨c,C',e,h1,h2,h3⟩:=hE
   cases e
   exact⟨c,h1,h2,h3⟩
 | ok fl =>
   cases fl with
   | ret u =>
     obtain⟨v,H',I',rv,d,e,S,iv⟩:=I.after hq
     exact⟨d,v,H',e,I',rv,S,iv⟩
   | next=>exact False.elim hq
   | brk=>exact False.elim hq
   | cont=>exact False.elim hq
theorem x0z{k:Nat}{f:Addr}{fd:FuncData}{ps:List Str}{φ:List D->R D}(Fn:FnD X.prog X.w X.K X.mg X.base k f fd ps φ)(hr:Room k X.A)(hm:X.mg x=some (.ref f))(ha:PAD X (e::es) gs)(hpn:∀b∈X.ex,∃o,(b,o)∈X.pn)(hg:Gl X x:=by rfl)(hdb:(x==("__debug__":Str))=false:=by decide)
 (he:starEach (e::es) X.env=(false,eval e X.env)::starEach es X.env:=by rfl) (hpl:(backTo pos (starEach es X.env)).any (·.1)=false:=by rfl):PD X (.Call (.Name x p) (e::es) [] pos) (z0i φ gs):=by
 refine⟨fun pins s σ H F Γ I fo rl hgg=>?_⟩
 refine wpAny_Call_Name_kw (z9y I hg hm ?_ hdb)
 refine PySem.W.callWith_K (h₀:=X.base) I.ok.mod.kin Fn.kp (wpAny_mono (ha.run pos pins s σ H F Γ I fo rl (R.left hgg)) (fun us s1 ⟨ds,vs,H1,e1,I1,r1,S1,i1⟩=>⟨I1.kIn,?_⟩) fun _ _ x=>x.bind _) he hpl
 exact wpAny_mono (x6z Fn hr I1 r1 i1 (R.next hgg e1) hpn) (fun _ _ q=>Post.bind e1 S1 q) fun _ _ q=>z1h.later e1 S1 q
end
section
variable {X:Cx}{e:Expr}{g:G->R D}{pos p pos':Pos}
end
section
variable {X:Cx}{e a b c:Expr}{g ga gb gc:G->R D}{pos:Pos}
theorem y3z:∀bs:List Bool,((List.range bs.length).all fun i=>(bs[i]?).getD true)=bs.all (fun b=>b)
 | []=>rfl
 | b::bs=>by
   rw[List.length_cons,List.range_succ_eq_map,List.all_cons,List.all_map,List.all_cons,<-y3z bs]
   rfl
theorem x0j(hc:X.calm=true):z7c X (.builtin "all") (fun xs H Q=>∃(a:Addr) (bs:List Bool),xs=[.ref a]/\SqL X.K H a (bs.map V.bl)/\Q (.bl (bs.all (fun b=>b))) H):=by
 intro pins s σ H xs us Q I r h
 obtain⟨a,bs,rfl,hq,q⟩:=h
 obtain⟨u,rfl,ru⟩:=y1i r
 cases ru
 obtain⟨its,rv,pl,_⟩:=I.list hq
 have hl:=pl.isList
 have hlt:a<s.heap.objs.size:=by obtain⟨_,e,_⟩:=hl;exact Heap.lt_size e
 have hlen:its.length=bs.length:=by rw[<-rv.length,List.length_map]
 refine call_all_walk (wpAny_pyIter_list hl ?_)
 refine⟨s.heap.objs.size,[s.heap.objs.size,a],[s.heap.objs.size],its.toArray.size,_,_,fun i=>(bs[i]?).getD true,rfl,Walks.list (A:=X.A.in1) (I.ok.hd hc) _ a (Nat.ne_of_lt hlt) its.toArray,
  ⟨⟨_,Heap.get?_push_size _ rfl,rfl,rfl⟩,hl.push _⟩,fun i v s' Q' E' hP hQ=>?_,fun h' tk hk=>?_⟩
 ·obtain⟨b,e,rfl⟩:=y0l rv (i:=i) (v:=v) (by simpa using hP)
  simp only[e,Option.getD_some] at hQ
  exact wpAny_truthy_bool hQ
 ·have e:((List.range its.toArray.size).all fun i=>(bs[i]?).getD true)=bs.all (fun b=>b):=by
   rw[List.size_toArray,hlen];exact y3z bs
  refine⟨.bl (bs.all (fun b=>b)),H,I.kept (fun b x ex=>hk b x (fun hm=>by rw[List.mem_singleton.mp hm] at ex;exact Nat.lt_irrefl _ (Heap.lt_size ex)) (Heap.get?_push_of_some _ ex)),by rw[e];rfl,q⟩
theorem x0b(hc:X.calm=true):z9d X (.builtin "all") dAll:=by
 refine⟨_,x0j (X:=X.nox) hc,fun H xs ds i hg=>?_⟩
 unfold dAll at hg
 split at hg
 ·rename_i ys
  obtain⟨v,rfl,h⟩:=z6c i
  obtain⟨a,zs,rfl,h1,h2⟩:=Is.lst_iff.mp h
  cases q:bools? ys with
  | none=>rw[q] at hg;exact absurd rfl hg
  | some ns =>
    have:=bools?_some q
    subst this
    rw[h2.bools_eq] at h1
    exact⟨a,ns,rfl,h1,.bl (ns.all (fun b=>b)),by show dAll [.lst (ns.map D.bl)]=_;simp only[dAll,q],.refl _,Is.bl_iff.mpr rfl⟩
 ·exact absurd rfl hg
end
namespace Rv
theorem subO:isSubtype (.type "reversed") (.type "object")=pure true:=by rw[isSubtype_type];rfl
theorem x5j:Slot "reversed" (Str.ofString "__init__") "object.__init__":=Slot.of (owner:="object") (n:="__init__") (by rw[typeLookup_type,builtinLookup_eq_fast];rfl) (by decide +kernel) (by decide +kernel) (by decide +kernel) (.inl (by decide +kernel)) subO (by decide +kernel)
theorem s_next:Slot "reversed" (Str.ofString "__next__") "reversed.__next__":=Slot.of (owner:="reversed") (n:="__next__") (by rw[typeLookup_type,builtinLookup_eq_fast];rfl) (by decide +kernel) (by decide +kernel) (by decide +kernel) (.inl (by decide +kernel)) F.sub_reversed_self (by decide +kernel)
theorem s_iter:Slot "reversed" (Str.ofString "__iter__") "reversed.__iter__":=Slot.of (owner:="reversed") (n:="__iter__") (by rw[typeLookup_type,builtinLookup_eq_fast];rfl) (by decide +kernel) (by decide +kernel) (by decide +kernel) (.inl (by decide +kernel)) F.sub_reversed_self (by decide +kernel)
theorem called:TypeCalled "reversed" "reversed.__new__" "object.__init__":=⟨by decide +kernel,by decide +kernel,⟨_,_,F.mro_reversed⟩,F.made_reversed,by decide +kernel,F.sub_reversed_self,x5j⟩
theorem e_next:entryFor table "reversed.__next__"=some Builtin.«reversed.__next__»:=entryFor_of_tree rfl
theorem e_iter:entryFor table "reversed.__iter__"=some Builtin.«dict_keyiterator.__iter__»:=entryFor_alias rfl rfl (show _="dict_keyiterator.__iter__" from by decide +kernel) rfl
theorem owner:List.lookup (String.ofList ['d','e','s','r','e','v','e','r'].reverse) Manifest.owners=some Manifest.sig_reversed:=rfl
theorem a_next(a:Value):argsOk "reversed.__next__" ⟨[a],[]⟩:=by
 show(match Manifest.signature? "reversed.__next__" with | some sig=>Bind.checkArgs "reversed.__next__" sig ⟨[a],[]⟩ | none=>pure ())=pure ()
 rw[signature?_of (n:=['_','_','t','x','e','n','_','_']) (o:=['d','e','s','r','e','v','e','r']) rfl owner];rfl
theorem a_iter(a:Value):argsOk "reversed.__iter__" ⟨[a],[]⟩:=by
 show(match Manifest.signature? "reversed.__iter__" with | some sig=>Bind.checkArgs "reversed.__iter__" sig ⟨[a],[]⟩ | none=>pure ())=pure ()
 rw[signature?_of (n:=['_','_','r','e','t','i','_','_']) (o:=['d','e','s','r','e','v','e','r']) rfl owner];rfl
theorem tup_rev:typeLookup (.type "tuple") (Str.ofString "__reversed__")=pure none:=by rw[typeLookup_type,builtinLookup_eq_fast];rfl
theorem tup_get:typeLookup (.type "tuple") (Str.ofString "__getitem__")=pure (some (.builtin "tuple.__getitem__")):=by rw[typeLookup_type,builtinLookup_eq_fast];rfl
theorem tup_dict:isSubtype (.type "tuple") (.type "dict")=pure false:=by rw[isSubtype_type];rfl
end Rv
noncomputable abbrev IsRv (h:Heap) (r t:Addr) (i:Int):Prop:=h.get? r=some { cls:=.type "reversed",data:=.fields #[.ref t,rawInt i] }
section
variable {prog:Program}{w:World}{A:Around}{E:Value->Shared->Prop}{s:Shared}
theorem y7k{t:Addr}{items:Array Value}{Q:Value->Shared->Prop}(ht:s.heap.IsTuple t items)(hz:(items.size:Int)<2^63)(h:∀tk,Q (.ref s.heap.objs.size) { s with heap:=s.heap.push { cls:=.type "reversed",data:=.fields #[.ref t,rawInt ((items.size:Int)-1)] },toks:=tk }) :
 wpAny (model prog w) A (Builtin.«reversed.__new__» ⟨[.type "reversed",.ref t],[]⟩) (fun fin s'=>∃v,fin = .done (.ret v)/\Q v s') E s:=by
 refine(show wpAny _ _ (Builtin.SmallTypes.newClass "reversed" ⟨[.type "reversed",.ref t],[]⟩>>=_) _ _ _ from wpAny_bind (wpAny_of_eq (newClass_reversed (.ref t)) ?_))
 refine(show wpAny _ _ (Builtin.SmallTypes.refuseKeywords "reversed" (.type "reversed") ⟨[.type "reversed",.ref t],[]⟩>>=_) _ _ _ from wpAny_bind (wpAny_of_eq rfl (wpAny_bind (wpAny_of_eq rfl (wpAny_bind (wpAny_specialOf ht.typeIs Rv.tup_rev ?_))))))
 refine(show wpAny _ _ ((isInstance (.ref t) (.type "dict")>>=_)>>=_) _ _ _ from wpAny_bind (wpAny_bind (wpAny_isInstance ht.typeIs Rv.tup_dict ?_)))
 refine(show wpAny _ _ (specialOf (.ref t) (Str.ofString "__getitem__")>>=_) _ _ _ from wpAny_bind (wpAny_specialOf ht.typeIs Rv.tup_get ?_))
 have hl:IsTup s.heap t items:=ht
 refine wpAny_of_eq (a:=true) rfl ?_
 refine(show wpAny _ _ (call (.builtin "len") [.ref t]>>=_) _ _ _ from wpAny_bind (len_tuple hl hz ?_))
 refine(show wpAny _ _ (asInt? (.int (items.size:Int) (s.toks+1))>>=_) _ _ _ from wpAny_bind (wpAny_pure ?_))
 refine(show wpAny _ _ (newObj (.type "reversed") (.fields #[.ref t,rawInt ((items.size:Int)-1)])>>=_) _ _ _ from wpAny_bind (wpAny_newObj_type ?_ (by size_fits)))
 exact wpAny_pure ⟨_,rfl,h _⟩
theorem y6b{r t:Addr}{i:Nat}{items:Array Value}{x:Value}{Q:Option Value->Shared->Prop}(hr:IsRv s.heap r t (i:Int))(ht:s.heap.IsTuple t items)(hz:(i:Int)<2^63)(hx:items[i]? = some x)(hQ:∀h' tk,IsRv h' r t ((i:Int)-1)->Heap.SameBut r s.heap h'->Q (some x) { s with heap:=h',toks:=tk }):wpAny (model prog w) A (pyNext (.ref r)) Q E s:=by
 have hT:s.TypeIs (.ref r) "reversed":=⟨_,hr,rfl⟩
 have hl:IsTup s.heap t items:=ht
 unfold pyNext
 refine wpAny_bind (wpAny_attempt (wpAny_callSpecial?_slot (name:=Str.ofString "__next__") hT Rv.s_next (wpAny_call_entry Rv.s_next hT Rv.e_next ?_ (Rv.a_next _))))
 refine(show wpAny _ _ (field (.ref r) 0>>=_) _ _ _ from wpAny_bind (wpAny_field hr rfl (x:=.ref t) rfl (show wpAny _ _ (field (.ref r) 1>>=_) _ _ _ from wpAny_bind (wpAny_field hr rfl (x:=.int (i:Int) 0) rfl ?_))))
 have hneg:¬((i:Int)<0):=by lia
 simp only[hneg,if_false]
 refine wpAny_bind (wpAny_specialOf ht.typeIs Rv.tup_get ?_)
 simp only[Option.isNone_some,Bool.false_eq_true,if_false]
 refine wpAny_bind (wpAny_mkInt ?_)
 refine wpAny_bind (wpAny_attempt (getItem_tuple hl (by lia) (by lia) (j:=i) ?_ hx ?_))
 ·have hlt:i<items.size:=by
   rcases Nat.lt_or_ge i items.size with z | z
   ·exact z
   ·rw[Array.getElem?_eq_none z] at hx;cases hx
  unfold seqIndex?
  simp
  lia
 ·refine(show wpAny _ _ (field (.ref r) 1>>=_) _ _ _ from wpAny_bind (wpAny_field (s:={ s with toks:=s.toks+1 }) hr rfl (x:=.int (i:Int) 0) rfl (wpAny_bind (wpAny_setField_rec (s:={ s with toks:=s.toks+1 }) hr (by simp) fun h' (hr':IsRv h' r t ((i:Int)-1)) hn=>wpAny_pure ⟨x,rfl,wpAny_pure (hQ h' _ hr' hn)⟩))))
theorem y7l{r t:Addr}{Q:Option Value->Shared->Prop}(hh:A.handled=none)(hr:IsRv s.heap r t (-1))(hQ:∀h' tk,(∀c o,c≠r->s.heap.get? c=some o->h'.get? c=some o)->Q none { s with heap:=h',toks:=tk }):wpAny (model prog w) A (pyNext (.ref r)) Q E s:=by
 have hT:s.TypeIs (.ref r) "reversed":=⟨_,hr,rfl⟩
 unfold pyNext
 refine wpAny_bind (wpAny_attempt (wpAny_callSpecial?_slot (name:=Str.ofString "__next__") hT Rv.s_next (wpAny_call_entry Rv.s_next hT Rv.e_next ?_ (Rv.a_next _))))
 refine(show wpAny _ _ (field (.ref r) 0>>=_) _ _ _ from wpAny_bind (wpAny_field hr rfl (x:=.ref t) rfl (show wpAny _ _ (field (.ref r) 1>>=_) _ _ _ from wpAny_bind (wpAny_field hr rfl (x:=.int (-1) 0) rfl ?_))))
 have hneg:((-1:Int)<0):=by decide
 simp only[hneg,if_true]
 refine wpAny_bind (wpAny_rule (show wpAny _ _ ((setField (.ref r) 1 (rawInt (-1))>>=_)>>=_) _ _ _ from wpAny_bind (wpAny_bind (wpAny_setField_rec hr (by simp) fun h1 (hr1:IsRv h1 r t (-1)) n1=>wpAny_setField_rec hr1 (by simp) fun h2 hr2 n2=>?_))))
 refine wpAny_bind (show wpAny _ _ (newExc (.type "StopIteration") []>>=_) _ _ _ from wpAny_bind ?_)
 simp only[newExc,newTuple]
 refine wpAny_bind (wpAny_newObj_type (wpAny_bind (m:=firstArgMember _ _) (wpAny_of_eq (a:=Value.none) (by first | rfl | (simp only[firstArgMember];rfl)) (wpAny_newObj_type ?_ (by size_fits)))) (by size_fits))
 simp only[raiseNew]
 refine wpAny_bind (wpAny_handled ?_)
 first | rw[show A.in1.handled=none from hh] | rw[hh]
 refine wpAny_bind (wpAny_pure (wpAny_throw ?_))
 exact wpAny_bind (wpAny_isInstance (T:="StopIteration") (b:=true) ⟨_,Heap.get?_push_size _ rfl,rfl⟩ isSubtype_stop (wpAny_pure (hQ _ _ fun c o hc e=>Heap.get?_push_of_some _ (Heap.get?_push_of_some _ (n2.extBut _ _ hc (n1.extBut _ _ hc e))))))
theorem y0u{r t:Addr}{i:Int}{Q:Value->Shared->Prop}(hr:IsRv s.heap r t i)(h:Q (.ref r) s):wpAny (model prog w) A (pyIter (.ref r)) Q E s:=by
 have hT:s.TypeIs (.ref r) "reversed":=⟨_,hr,rfl⟩
 exact wpAny_pyIter_slot hT Rv.s_iter (wpAny_call_entry Rv.s_iter hT Rv.e_iter (wpAny_pure ⟨.ref r,rfl,"reversed",_,hT,Rv.s_next.lookup,h⟩) (Rv.a_iter _))
theorem x1i(t:Addr)(items:Array Value):Meets (Builtin.«reversed.__new__» ⟨[.type "reversed",.ref t],[]⟩) (fun _ R s=>s.heap.IsTuple t items/\(items.size:Int)<2^63/\∀tk,R (.ok (.ret (.ref s.heap.objs.size))) { s with heap:=s.heap.push { cls:=.type "reversed",data:=.fields #[.ref t,rawInt ((items.size:Int)-1)] },toks:=tk }) :=
 .of_wp fun prog w A R s h=>y7k h.1 h.2.1 fun tk=>h.2.2 tk
theorem x4u{t:Addr}{items:Array Value}{Q:Value->Shared->Prop}(ht:s.heap.IsTuple t items)(hz:(items.size:Int)<2^63)(h:∀h' tk,IsRv h' s.heap.objs.size t ((items.size:Int)-1)->(∀c o,s.heap.get? c=some o->h'.get? c=some o)->Q (.ref s.heap.objs.size) { s with heap:=h',toks:=tk }):wpAny (model prog w) A (call (.type "reversed") [.ref t]) Q E s:=by
 refine callType_new Rv.called (by decide) (F.typeCall_reversed_1 _) (F.newCall_reversed_1 _) (fun obj=>F.args_object_init_2 obj _) F.entry_reversed_new (x1i t items) ⟨ht,hz,fun tk=>?_⟩
 exact⟨⟨_,Heap.get?_push_size _ rfl,rfl⟩,h _ tk (Heap.get?_push_size _ rfl) fun c o e=>Heap.get?_push_of_some _ e⟩
end
noncomputable def Itv(K:PySem.W.Frag)(a:Addr)(n:Nat):It :=
 ⟨fun i H=>∃xs x,SqT K H a xs/\xs.length=n/\i<n/\xs[n-1-i]? = some x,fun i H x H'=>H'=H/\∀xs,SqT K H a xs->xs[n-1-i]? = some x,fun i H=>∃xs,SqT K H a xs/\xs.length=n/\i=n⟩
theorem x0o{P:Program}{w:World}{K:PySem.W.Frag}{tg:Expr}(a it:Addr)(n:Nat):Turn P w K tg (Itv K a n) [it] it (fun i h=>IsRv h it a ((n:Int)-1-(i:Nat))) where
 mem:=by simp
 obj:=fun i h st b hb=>by
  have e:b=it:=by simpa using hb
  subst e
  exact⟨_,st,fun v z=>by
   have z':Data.fields _=Data.cell v:=z
   cases z'⟩
 keep:=fun i h h' st k=>k it (by simp) _ st
 item:=by
  intro X hP hw hK hc i pins s σ H E I hf st hg
  subst hP hw hK
  obtain⟨xs,x,hq,hl,hi,hx⟩:=hg
  obtain⟨its,rv,p,hz⟩:=I.tuple hq
  obtain⟨u,hu,ru⟩:=rv.get hx
  obtain⟨f0,f1,f2,f3,f4,f5⟩:=hf it (by simp)
  have hle:=sizeLine_eq
  have e1:((n:Int)-1-(i:Nat))=((n-1-i:Nat):Int):=by lia
  rw[e1] at st
  refine y6b st (show s.heap.IsTuple a its.toArray from p) (by rw[hle] at hz;lia) (x:=u) (by simpa using hu) fun h' tk st' sb=>?_
  have I1:Inv X pins σ H { s with heap:=h',toks:=tk }:=I.turned (fun b o hb e=>(sb.2 b hb).trans e) f0 f1 f3 f4 f5
  rw[<-e1,show((n:Int)-1-(i:Nat)-1)=(n:Int)-1-((i+1:Nat):Int) by lia] at st'
  exact⟨u,rfl,y9j (s:={ s with heap:=h',toks:=tk }) (n:="reversed") st' rfl rfl (by decide) ⟨x,H,I1,ru,⟨rfl,fun ys hy=>by rw[I.tuple_inj hy hq];exact hx⟩,st',fun b hb=>(hf b hb).1⟩⟩
 done:=by
  intro X hP hw hK hc i pins s σ H E I hf st hg
  subst hP hw hK
  obtain⟨xs,hq,hl,hi⟩:=hg
  obtain⟨f0,f1,f2,f3,f4,f5⟩:=hf it (by simp)
  rw[show((n:Int)-1-(i:Nat)) = -1 by lia] at st
  exact y7l (I.ok.hd hc) st fun h' tk kk=>⟨rfl,I.turned (fun b o hb e=>kk b o hb e) f0 f1 f3 f4 f5⟩
 self:=fun _ _ _ _ _ st h=>y0u st h
theorem x6o{K:PySem.W.Frag}{H:Hp}{F:List Addr}{p:Addr}{xs:List V}{ds:List D}(h:SqT K H p xs)(i:IsAll K (hid F H) ds xs):JC K H F (Itv K p xs.length) ds.reverse:=fun H1 S=>by
 have h1:SqT K H1 p xs:=z3o S h
 have il:=i.length
 refine⟨fun j hj=>?_,⟨xs,h1,rfl,by rw[List.length_reverse];lia⟩⟩
 rw[List.length_reverse] at hj
 refine⟨⟨xs,xs[xs.length-1-j]'(by lia),h1,rfl,by lia,List.getElem?_eq_getElem (by lia)⟩,fun x H2 y=>⟨y.1,?_⟩⟩
 obtain⟨d,ed,iv⟩:=i.getX (y.2 xs h1)
 exact⟨d,by rw[List.getElem?_reverse hj,<-ed];congr 1;lia,iv.same (z2i S)⟩
theorem x1y:bootBuiltins ("reversed":Str)=some (.type "reversed"):=by decide +kernel
section
variable {X:Cx}{a:Expr}{ga:G->R D}
theorem x3k{tg:Expr}{p pos:Pos}(ha:PD X a ga)(hm:X.mg "reversed"=none)(hg:Gl X "reversed":=by rfl)(hs:starEach [a] X.env=[(false,eval a X.env)]:=by rfl) :
 PIC X tg (.Call (.Name "reversed" p) [a] [] pos) (gRev ga):=by
 refine⟨fun pins s σ H F Γ I fo rl hgg=>?_⟩
 refine Call_ (z4q I hg hm x1y (PyProof.Rows.callWith_type1 ?_ hs rfl))
 rw[hs]
 show wpAny _ _ (spliced ((false,eval a X.env)::backTo pos [])) _ _ s
 refine Calls.spliced_cons (wpAny_mono (ha.run pins s σ H F Γ I fo rl (R.left hgg)) (fun u s1 ⟨d,v,H1,e1,I1,r1,S1,i1⟩=>Calls.spliced_nil ?_) fun _ _ x=>x.bind _)
 have hg1:=R.next hgg e1
 cases d with
 | tup ds =>
   obtain⟨n1,e5⟩:=R.guard_ne (show R.guard (D.noLs ds=true) (.ok ds.reverse) ≠ .no from hg1)
   obtain⟨l,xs,rfl,q1,j1⟩:=Is.tup_iff.mp i1
   have j1':=IsAll.hid (fo.same S1) _ xs n1 j1
   cases (show u=Value.ref l from r1)
   obtain⟨its,rv,pl,hz⟩:=I1.tuple q1
   have hle:=sizeLine_eq
   have hlen:=rv.length
   refine x4u (show s1.heap.IsTuple l its.toArray from pl) (by rw[hle] at hz;simp;lia) fun h' tk a1 a2=>?_
   refine y0u (s:={ s1 with heap:=h',toks:=tk }) a1 ?_
   have I3:Inv X pins σ H1 { s1 with heap:=h',toks:=tk }:=I1.kept a2
   refine⟨ds.reverse,s1.heap.objs.size,_,_,Itv X.K l xs.length,H1,(R.step e1 _).trans e5,rfl,I3,S1,x0o l _ xs.length,?_,fun c hc=>?_,x6o q1 j1'⟩
   ·show IsRv h' s1.heap.objs.size l ((xs.length:Int)-1-((0:Nat):Int))
    rw[show((xs.length:Int)-1-((0:Nat):Int))=(its.toArray.size:Int)-1 by simp;lia]
    exact a1
   ·have e:c=s1.heap.objs.size:=by simpa using hc
    subst e
    exact I1.fpOk (Nat.le_refl _) (I1.hok.fresh (Nat.le_refl _))
 | _=>exact absurd rfl hg1
end
section
variable {X:Cx}{e:Expr}{pos p:Pos}{x:Str}{es:List Expr}{gs:G->R (List D)}
end
section
variable {X:Cx}{e:Expr}{g:G->R D}{pos pt:Pos}
end
section
variable {prog:Program}{w:World}{A:Around}{E:Value->Shared->Prop}{s:Shared}
end
section
variable {X:Cx}{a:Expr}{ga:G->R D}{st:Expr}{gt:G->R (Option Int)}{pos p2:Pos}
end
section
variable {X:Cx}{e a b c:Expr}{g ga gb gc:G->R D}{pos:Pos}
end
section
variable {X:Cx}{e a b c:Expr}{g ga gb gc:G->R D}{pos:Pos}
end
section
variable {X:Cx}
end
theorem y2h{α:Type}{M:Model}{A:Around}{E:Value->Shared->Prop}{s:Shared}{b:Bool}{t u:Sem α}{Q:α->Shared->Prop}(h1:wpAny M A t Q E s)(h2:wpAny M A u Q E s):wpAny M A (if b=true then t else u) Q E s:=by
 cases b
 ·exact h2
 ·exact h1
theorem y8w(l:Addr)(xs:Array Value):Meets (Builtin.«enumerate.__new__» ⟨[.type "enumerate",.ref l],[]⟩) (fun _ R s=>s.heap.IsTuple l xs/\R (.ok (.ret (.ref (s.heap.push { cls:=.type "tuple_iterator",data:=.fields #[.ref l,.int 0 0] }).objs.size))) { s with heap:=(s.heap.push { cls:=.type "tuple_iterator",data:=.fields #[.ref l,.int 0 0] }).push { cls:=.type "enumerate",data:=.fields #[.none,.bool false,.ref s.heap.objs.size,rawInt 0,.none,.none] } }) :=
 .of_wp fun prog w A R s h=>by
  obtain⟨hp,g,d,tk,os⟩:=s
  obtain⟨q1,h⟩:=h
  have e1:Heap.IsTuple (Shared.heap ⟨hp,g,d,tk,os⟩) l xs:=q1
  have hsub:isSubtype (.type "enumerate") (.type "enumerate")=pure true:=by rw[isSubtype_type];rfl
  wp_walk using wpAny_pyIter_tuple e1
  refine wpAny_stack_any fun st=>wpAny_pure (y2h ?_ ?_)
  ·wp_walk using wpAny_pyIter_tuple e1
   exact⟨_,rfl,h⟩
  ·wp_walk using wpAny_pyIter_tuple e1
   exact⟨_,rfl,h⟩
section
variable {prog:Program}{w:World}{A:Around}{E:Value->Shared->Prop}{s:Shared}
theorem x1x{l:Addr}{xs:Array Value}{Q:Value->Shared->Prop}(q1:s.heap.IsTuple l xs)(h:∀h',IsEnum h' (s.heap.objs.size+1) s.heap.objs.size 0 .none->h'.IsTupleIter s.heap.objs.size l 0->h'.objs.size=s.heap.objs.size+2->(∀c o,s.heap.get? c=some o->h'.get? c=some o)->Q (.ref (s.heap.objs.size+1)) { s with heap:=h' }):wpAny (model prog w) A (call (.type "enumerate") [.ref l]) Q E s:=by
 refine callType_new F.called_enumerate (by decide) (F.typeCall_enumerate_1 _) (F.newCall_enumerate_1 _) (fun obj=>F.args_object_init_2 obj _) F.entry_enumerate_new (y8w l xs) ⟨q1,?_⟩
 have y1:(s.heap.push { cls:=.type "tuple_iterator",data:=.fields #[.ref l,.int 0 0] }).objs.size=s.heap.objs.size+1:=Heap.size_push ..
 show _/\_
 rw[y1]
 have u2:((s.heap.push { cls:=.type "tuple_iterator",data:=.fields #[.ref l,.int 0 0] }).push { cls:=.type "enumerate",data:=.fields #[.none,.bool false,.ref s.heap.objs.size,rawInt 0,.none,.none] }).get? (s.heap.objs.size+1)=some { cls:=.type "enumerate",data:=.fields #[.none,.bool false,.ref s.heap.objs.size,rawInt 0,.none,.none] }:=by
  rw[<-y1];exact Heap.get?_push_size _ rfl
 exact⟨⟨_,u2,rfl⟩,h _ u2 ⟨_,Heap.get?_push_of_some _ (Heap.get?_push_size _ rfl),rfl,rfl⟩ (by rw[Heap.size_push,y1]) fun c o x=>Heap.get?_push_of_some _ (Heap.get?_push_of_some _ x)⟩
theorem x4q{e it l:Addr}{i:Nat}{items:Array Value}{x old:Value}{Q:Value->Shared->Prop}(he:IsEnum s.heap e it (i:Int) old)(hit:s.heap.IsTupleIter it l i)(ht:s.heap.IsTuple l items)(hx:items[i]? = some x)(hne:e≠it)
 (hQ:∀h',IsEnumOut h' e it ((i:Int)+1) x s.heap.objs.size->h'.IsTupleIter it l (i+1)->h'.get? s.heap.objs.size=some { cls:=.type "tuple",data:=.seq #[.int (i:Int) s.toks,x] }->h'.objs.size=s.heap.objs.size+1->(∀b o,b≠e->b≠it->s.heap.get? b=some o->h'.get? b=some o)->Q (.ref s.heap.objs.size) { s with heap:=h',toks:=s.toks+1 }) :
 wpAny (model prog w) A (Builtin.«enumerate.__next__» ⟨[.ref e],[]⟩) (fun fin s'=>∃v,fin = .done (.ret v)/\Q v s') E s:=by
 refine(show wpAny _ _ (field (.ref e) 2>>=_) _ _ _ from wpAny_bind (wpAny_field he rfl (x:=.ref it) rfl (wpAny_bind (x3x hit ht hx fun g1 f1 n1=>?_))))
 have he1:IsEnum g1 e it (i:Int) old:=n1.extBut _ _ hne he
 refine(show wpAny _ _ (field (.ref e) 3>>=_) _ _ _ from wpAny_bind (wpAny_field he1 rfl (x:=.int (i:Int) 0) rfl (show wpAny _ _ (field (.ref e) 4>>=_) _ _ _ from wpAny_bind (wpAny_field he1 rfl (x:=.none) rfl ?_))))
 refine wpAny_bind (show wpAny _ _ (mkInt (i:Int)) _ _ _ from wpAny_mkInt ?_)
 refine wpAny_bind (wpAny_setField_rec (s:={ s with heap:=g1,toks:=s.toks+1 }) he1 (by simp) fun g2 (he2:IsEnum g2 e it ((i:Int)+1) old) n2=>wpAny_bind (wpAny_setField_rec he2 (by simp) fun g3 (he3:IsEnum g3 e it ((i:Int)+1) old) n3=>wpAny_bind (wpAny_newTuple ?_)))
 have sz3:g3.objs.size=s.heap.objs.size:=by rw[n3.1,n2.1,n1.1]
 have he4:IsEnum (g3.push { cls:=.type "tuple",data:=.seq #[.int (i:Int) s.toks,x] }) e it ((i:Int)+1) old:=Heap.get?_push_of_some _ he3
 have elt:e<g3.objs.size:=Heap.lt_size he3
 refine(show wpAny _ _ (Builtin.SmallTypes.ownedTupleIsFree (.ref e)>>=_) _ _ _ from wpAny_bind ?_)
 unfold Builtin.SmallTypes.ownedTupleIsFree
 refine wpAny_bind (wpAny_field he4 rfl (x:=.none) rfl (wpAny_pure ?_));simp only[if_true]
 refine wpAny_bind (wpAny_rule (wpAny_bind (wpAny_field he4 rfl (x:=old) rfl (wpAny_bind (wpAny_setField_rec he4 (by simp) fun g5 (he5:IsEnum g5 e it ((i:Int)+1) x) n5=>?_)))))
 refine(show wpAny _ _ (Builtin.SmallTypes.ownedTupleHandOut (.ref e) (.ref g3.objs.size)>>=_) _ _ _ from wpAny_bind ?_)
 unfold Builtin.SmallTypes.ownedTupleHandOut
 refine wpAny_bind (wpAny_setField_rec he5 (by simp) fun g7 (he7:IsEnumOut g7 e it ((i:Int)+1) x g3.objs.size) n7=>wpAny_setField_rec he7 (by simp) fun g8 (he8:IsEnumOut g8 e it ((i:Int)+1) x g3.objs.size) n8=>?_)
 refine wpAny_bind (wpAny_letGo (wpAny_pure ⟨_,rfl,?_⟩))
 have up:∀c o,c≠e->g3.get? c=some o->g8.get? c=some o:=fun c o c1 q=>n8.extBut _ _ c1 (n7.extBut _ _ c1 (n5.extBut _ _ c1 (Heap.get?_push_of_some _ q)))
 have t8:g8.get? g3.objs.size=some { cls:=.type "tuple",data:=.seq #[.int (i:Int) s.toks,x] }:=n8.extBut _ _ (Nat.ne_of_gt elt) (n7.extBut _ _ (Nat.ne_of_gt elt) (n5.extBut _ _ (Nat.ne_of_gt elt) (Heap.get?_push_size _ rfl)))
 have s8:g8.objs.size=g3.objs.size+1:=by rw[n8.1,n7.1,n5.1];exact Heap.size_push ..
 rw[sz3] at he8 t8 s8
 show Q (.ref g3.objs.size) _
 rw[sz3]
 have fit:g8.IsTupleIter it l (i+1):=f1.at fun o q=>up it o hne.symm (n3.extBut _ _ hne.symm (n2.extBut _ _ hne.symm q))
 exact hQ g8 he8 fit t8 s8 fun b o b1 b2 q=>up b o b1 (n3.extBut _ _ b1 (n2.extBut _ _ b1 (n1.extBut _ _ b2 q)))
theorem x4p{e it l:Addr}{i:Nat}{items:Array Value}{x old:Value}{Q:Option Value->Shared->Prop}(he:IsEnum s.heap e it (i:Int) old)(hit:s.heap.IsTupleIter it l i)(ht:s.heap.IsTuple l items)(hx:items[i]? = some x)(hne:e≠it)
 (hQ:∀h',IsEnumOut h' e it ((i:Int)+1) x s.heap.objs.size->h'.IsTupleIter it l (i+1)->h'.get? s.heap.objs.size=some { cls:=.type "tuple",data:=.seq #[.int (i:Int) s.toks,x] }->h'.objs.size=s.heap.objs.size+1->(∀b o,b≠e->b≠it->s.heap.get? b=some o->h'.get? b=some o)->Q (some (.ref s.heap.objs.size)) { s with heap:=h',toks:=s.toks+1 }) :
 wpAny (model prog w) A (pyNext (.ref e)) Q E s:=by
 have hT:s.TypeIs (.ref e) "enumerate":=⟨_,he,rfl⟩
 unfold pyNext
 exact wpAny_bind (wpAny_attempt (wpAny_callSpecial?_slot (name:=Str.ofString "__next__") hT F.slot_enumerate_next (wpAny_call_entry F.slot_enumerate_next hT F.entry_enumerate_next (x4q he hit ht hx hne fun h' a1 a2 a3 a4 a5=>wpAny_pure (hQ h' a1 a2 a3 a4 a5)) (F.args_enumerate_next_1 _))))
theorem x4o{e it l:Addr}{i:Nat}{items:Array Value}{old:Value}{Q:Option Value->Shared->Prop}(hh:A.handled=none)(he:IsEnum s.heap e it (i:Int) old)(hit:s.heap.IsTupleIter it l i)(ht:s.heap.IsTuple l items)(hx:items[i]? = none)(hQ:∀h',(∀b o,b≠it->s.heap.get? b=some o->h'.get? b=some o)->Q none { s with heap:=h' }):wpAny (model prog w) A (pyNext (.ref e)) Q E s:=by
 have hT:s.TypeIs (.ref e) "enumerate":=⟨_,he,rfl⟩
 unfold pyNext
 refine wpAny_bind (wpAny_attempt (wpAny_callSpecial?_slot (name:=Str.ofString "__next__") hT F.slot_enumerate_next (wpAny_call_entry F.slot_enumerate_next hT F.entry_enumerate_next (show wpAny _ _ (field (.ref e) 2>>=_) _ _ _ from wpAny_bind (wpAny_field he rfl (x:=.ref it) rfl (wpAny_bind (y4n hh hit ht hx fun h' e' hk ⟨o,ho,hc⟩=>?_)))) (F.args_enumerate_next_1 _))))
 exact wpAny_bind (wpAny_isInstance (T:="StopIteration") (b:=true) ⟨o,ho,hc⟩ isSubtype_stop (wpAny_pure (hQ _ fun b o b1 q=>hk b o b1 q)))
end
noncomputable def Itu(K:PySem.W.Frag)(l:Addr):It :=
 ⟨fun i H=>∃xs x,SqT K H l xs/\xs[i]? = some x,
  fun i H v H'=>∃T x,v = .ref T/\H T=none/\H'=upd H T (.tup [.int (i:Int),x])/\∀xs,SqT K H l xs->xs[i]? = some x,
  fun i H=>∃xs,SqT K H l xs/\xs.length<=i⟩
theorem x0p{P:Program}{w:World}{K:PySem.W.Frag}{elts:List Expr}{kt}{pt:Pos}{e it l:Addr}(hei:e≠it):Turn P w K (.Tuple elts kt pt) (Itu K l) [e,it] e (fun i h=>(∃old,IsEnum h e it (i:Nat) old)/\h.IsTupleIter it l i) where
 mem:=by simp
 obj:=fun i h ⟨⟨old,q1⟩,q2⟩ c hc=>by
  simp only[List.mem_cons,List.not_mem_nil,or_false] at hc
  rcases hc with rfl | rfl
  ·exact⟨_,q1,fun v z=>nomatch z⟩
  ·obtain⟨o,e,c,d⟩:=q2;exact⟨o,e,fun v z=>by rw[d] at z;cases z⟩
 keep:=fun i h h' ⟨⟨old,q1⟩,q2⟩ k=>⟨⟨old,k e (by simp) _ q1⟩,q2.at fun o z=>k it (by simp) o z⟩
 item:=by
  intro X hP hw hK hc i pins s σ H E I hf ⟨⟨old,q1⟩,q2⟩ ⟨xs,x,s1,ex⟩
  subst hP hw hK
  obtain⟨its,rv,p,hz⟩:=I.tuple s1
  obtain⟨u,hu,ru⟩:=rv.get ex
  refine x4p q1 q2 (show s.heap.IsTuple l its.toArray from p) (x:=u) (by simpa using hu) hei fun h' a1 a2 a3 a4 a5=>⟨_,rfl,?_⟩
  refine wpAny_letOwnedTupleGo_enum (s:={ s with heap:=h',toks:=s.toks+1 }) a1 fun h'' c1 c2=>?_
  have Te:s.heap.objs.size≠e:=Nat.ne_of_gt (Heap.lt_size q1)
  have kk:∀c o,c ∉ [e,it]->s.heap.get? c=some o->h''.get? c=some o:=fun c o hc z=>by
   simp only[List.mem_cons,List.not_mem_nil,or_false,not_or] at hc
   exact c2.extBut _ _ hc.1 (a5 c o hc.1 hc.2 z)
  have tT:IsTup h'' s.heap.objs.size [Value.int i s.toks,u].toArray:=⟨_,c2.extBut _ _ Te a3,rfl,_,rfl⟩
  have I1:=x5c (t':=s.toks+1) (xs:=[.int (i:Int),x]) I hf kk (Nat.le_refl _) (by rw[sizeLine_eq];exact(by decide:(2:Nat)<=16777216)) (.cons ⟨_,rfl⟩ (.cons ru .nil)) tT
  refine⟨.ref s.heap.objs.size,_,I1,rfl,⟨_,x,rfl,I.hok.fresh (Nat.le_refl _),rfl,fun xs' q=>by rw[I.tuple_inj q s1];exact ex⟩,⟨⟨u,c1⟩,a2.at fun o z=>c2.extBut _ _ (Ne.symm hei) z⟩,fun c hc=>?_⟩
  rw[z0q]
  ·exact(hf c hc).1
  ·intro z
   have ex:∃o,s.heap.get? c=some o:=by
    simp only[List.mem_cons,List.not_mem_nil,or_false] at hc
    rcases hc with rfl | rfl
    ·exact⟨_,q1⟩
    ·obtain⟨o,e,_⟩:=q2;exact⟨o,e⟩
   obtain⟨o,eo⟩:=ex
   exact absurd (Heap.lt_size eo) (by rw[z];exact Nat.lt_irrefl _)
 done:=by
  intro X hP hw hK hc i pins s σ H E I hf ⟨⟨old,q1⟩,q2⟩ ⟨xs,s1,hend⟩
  subst hP hw hK
  obtain⟨its,rv,p,hz⟩:=I.tuple s1
  have n1:=rv.length
  refine x4o (I.ok.hd hc) q1 q2 (show s.heap.IsTuple l its.toArray from p) (by simp;lia) fun h' kk=>⟨rfl,x5d (t':=s.toks) I hf fun c o hc z=>?_⟩
  simp only[List.mem_cons,List.not_mem_nil,or_false,not_or] at hc
  exact kk c o hc.2 z
 self:=fun _ _ _ _ _ st h=>by obtain⟨⟨old,q1⟩,_⟩:=st;exact wpAny_pyIter_enum q1 h
theorem x4h{K:PySem.W.Frag}{H:Hp}{F:List Addr}{l:Addr}{xs:List V}{ds:List D}(h1:SqT K (hid F H) l xs)(i1:IsAll K (hid F H) ds xs):JD2 K H F (Itu K l) (z4l 0 ds):=fun H1 S=>by
 have q1:SqT K H1 l xs:=z3o (z3s (F:=F)) (z3o (y6x S fun b hb=>.inl hb) h1)
 have n1:=i1.length
 have nz:=y0e 0 ds
 refine⟨fun i hi=>⟨⟨xs,xs[i]'(by lia),q1,List.getElem?_eq_getElem (by lia)⟩,fun v H2 y=>?_⟩,⟨xs,q1,by lia⟩⟩
 obtain⟨T,x,rfl,hT,rfl,e1⟩:=y
 obtain⟨d,ed,iv⟩:=i1.getX (e1 xs q1)
 have S2:=z1v hT (.tup [.int (i:Int),x])
 have eg:=y0f (k:=0) ed
 rw[Nat.zero_add] at eg
 exact⟨S2,.int (i:Int),d,T,.int (i:Int),x,eg,rfl,SqT.of z0u,fun F' hF=>⟨Is.int_iff.mpr rfl,(iv.same (y6x S hF)).same (z2i S2)⟩⟩
section
variable {X:Cx}{a b:Expr}{ga gb:G->R D}
theorem x0u{elts:List Expr}{kt}{pt p pos:Pos}(ha:PDr X a ga)(hm:X.mg "enumerate"=none)(hg:Gl X "enumerate":=by rfl)(hs:starEach [a] X.env=[(false,eval a X.env)]:=by rfl) :
 PIx JD2 X (.Tuple elts kt pt) (.Call (.Name "enumerate" p) [a] [] pos) (y5t ga):=by
 refine⟨fun pins s σ H F Γ I fo rl hgg=>?_⟩
 refine Call_ (z4q I hg hm y3s (PyProof.Rows.callWith_type1 ?_ hs rfl))
 rw[hs]
 show wpAny _ _ (spliced ((false,eval a X.env)::backTo pos [])) _ _ s
 refine Calls.spliced_cons (wpAny_mono (ha.run pins s σ H F Γ I fo rl (R.left hgg)) (fun u s1 ⟨d,v,H1,e1,I1,r1,S1,i1⟩=>Calls.spliced_nil ?_) fun _ _ x=>x.bind _)
 have hg1:=R.next hgg e1
 cases d with
 | tup ds =>
   obtain⟨l,xs,rfl,q1,j1⟩:=Is.tup_iff.mp i1
   cases (show u=Value.ref l from r1)
   obtain⟨its,rv,pl,hz⟩:=I1.tuple (z3o (z3s (F:=F)) q1)
   refine x1x (show s1.heap.IsTuple l its.toArray from pl) fun h' a1 a2 a3 a4=>?_
   refine wpAny_pyIter_enum (s:={ s1 with heap:=h' }) a1 ?_
   have I3:Inv X pins σ H1 { s1 with heap:=h' }:=I1.kept (t':=s1.toks) a4
   refine⟨z4l 0 ds,s1.heap.objs.size+1,_,_,Itu X.K l,H1,R.step e1 _,rfl,I3,S1,x0p (it:=s1.heap.objs.size) (by show @Ne Nat _ _;lia),⟨⟨_,a1⟩,a2⟩,fun c hc=>?_,x4h q1 j1⟩
   simp only[List.mem_cons,List.not_mem_nil,or_false] at hc
   have hge:s1.heap.objs.size<=c:=by rcases hc with rfl | rfl<;>lia
   exact I1.fpOk hge (I1.hok.fresh hge)
 | _=>exact absurd rfl hg1
end
section
variable {X:Cx}{e a b c:Expr}{g ga gb gc:G->R D}{gs:G->R (List D)}{pos pos' p:Pos}
end
structure TabK (led:Bool) (t:SetTable):Prop where
 led:t.led=led
 dum:t.dummies=#[]
 up:t.plain=true->t.place.toList.Pairwise (·<·)
section
variable {prog:Program}{w:World}{A:Around}{E:Value->Shared->Prop}{s:Shared}
end
section
variable {prog:Program}{w:World}{A:Around}{E:Value->Shared->Prop}{s:Shared}
end
section
variable {prog:Program}{w:World}{A:Around}{E:Value->Shared->Prop}{s:Shared}
end
section
variable {prog:Program}{w:World}{A:Around}{E:Value->Shared->Prop}{s:Shared}
end
section
variable {prog:Program}{w:World}{A:Around}{E:Value->Shared->Prop}{s:Shared}
end
section
variable {prog:Program}{w:World}{A:Around}{E:Value->Shared->Prop}{s:Shared}
end
section
variable {prog:Program}{w:World}{A:Around}{E:Value->Shared->Prop}{s:Shared}
end
section
variable {prog:Program}{w:World}{A:Around}{E:Value->Shared->Prop}{s:Shared}
end
section
variable {X:Cx}{e a b c:Expr}{g ga gb gc:G->R D}{gs:G->R (List D)}{pos pos' p p2:Pos}
end
section
variable {X:Cx}
end
section
variable {prog:Program}{w:World}{A:Around}{E:Value->Shared->Prop}{s:Shared}
end
section
variable {prog:Program}{w:World}{A:Around}{E:Value->Shared->Prop}{s:Shared}
end
section
variable {X:Cx}{a b:Expr}{ga gb:G->R D}
end
end L3
namespace Row
open PySem PySem.Spec PyProof.Rows L2 L3
noncomputable def top(i:Nat):Stmt:=PySem.Challenge.pw_longrounds_k44_what_is_lost.main.body.getD i (.Pass ⟨0,0,0,0⟩)
noncomputable abbrev s_q:Stmt:=top 47
theorem sc_q:FnScope ["items","place","ahead","at"] ["items","place"] (z0d s_q):=⟨rfl,rfl,rfl,by decide +kernel,rfl,by decide +kernel,by decide +kernel⟩
noncomputable abbrev s_t:Stmt:=top 38
theorem sc_t:FnScope ["script","k"] ["script","k"] (z0d s_t):=⟨rfl,rfl,rfl,by decide +kernel,rfl,by decide +kernel,by decide +kernel⟩
noncomputable abbrev s_a:Stmt:=top 46
theorem sc_a:FnScope ["items","at","place"] ["items"] (z0d s_a):=⟨rfl,rfl,rfl,by decide +kernel,rfl,by decide +kernel,by decide +kernel⟩
noncomputable abbrev s_c:Stmt:=top 48
theorem sc_c:FnScope ["items","cell","at","item"] ["items","cell"] (z0d s_c):=⟨rfl,rfl,rfl,by decide +kernel,rfl,by decide +kernel,by decide +kernel⟩
noncomputable abbrev s_o:Stmt:=top 42
theorem sc_o:FnScope ["cell"] ["cell"] (z0d s_o):=⟨rfl,rfl,rfl,by decide +kernel,rfl,by decide +kernel,by decide +kernel⟩
noncomputable abbrev s_i:Stmt:=top 40
theorem sc_i:FnScope ["cell","P","size","out","k"] ["cell","P","size"] (z0d s_i):=⟨rfl,rfl,rfl,by decide +kernel,rfl,by decide +kernel,by decide +kernel⟩
noncomputable abbrev s_v:Stmt:=top 43
theorem sc_v:FnScope ["cell","more","P","many","x","form"] ["cell","more","P","many"] (z0d s_v):=⟨rfl,rfl,rfl,by decide +kernel,rfl,by decide +kernel,by decide +kernel⟩
noncomputable abbrev s_n:Stmt:=top 44
theorem sc_n:FnScope ["cells","P","many","agains","items","deep","k","few","level"] ["cells","P","many","agains"] (z0d s_n):=⟨rfl,rfl,rfl,by decide +kernel,rfl,by decide +kernel,by decide +kernel⟩
noncomputable abbrev s_r:Stmt:=top 39
theorem sc_r:FnScope ["cell","n"] ["cell"] (z0d s_r):=⟨rfl,rfl,rfl,by decide +kernel,rfl,by decide +kernel,by decide +kernel⟩
noncomputable abbrev s_s:Stmt:=top 41
theorem sc_s:FnScope ["found"] ["found"] (z0d s_s):=⟨rfl,rfl,rfl,by decide +kernel,rfl,by decide +kernel,by decide +kernel⟩
noncomputable abbrev s_l:Stmt:=top 45
theorem sc_l:FnScope ["found","P","many"] ["found","P","many"] (z0d s_l):=⟨rfl,rfl,rfl,by decide +kernel,rfl,by decide +kernel,by decide +kernel⟩
noncomputable abbrev s_x:Stmt:=top 34
theorem sc_x:FnScope ["items","place","item"] ["items","place"] (z0d s_x):=⟨rfl,rfl,rfl,by decide +kernel,rfl,by decide +kernel,by decide +kernel⟩
noncomputable abbrev s_j:Stmt:=top 35
theorem sc_j:FnScope ["items","place","ahead"] ["items","place"] (z0d s_j):=⟨rfl,rfl,rfl,by decide +kernel,rfl,by decide +kernel,by decide +kernel⟩
noncomputable abbrev s_f:Stmt:=top 33
theorem sc_f:FnScope ["items","number","item","within"] ["items"] (z0d s_f):=⟨rfl,rfl,rfl,by decide +kernel,rfl,by decide +kernel,by decide +kernel⟩
noncomputable abbrev s_d:Stmt:=top 32
theorem sc_d:FnScope ["item"] ["item"] (z0d s_d):=⟨rfl,rfl,rfl,by decide +kernel,rfl,by decide +kernel,by decide +kernel⟩
noncomputable abbrev s_z:Stmt:=top 10
theorem sc_z:FnScope ["width","place"] ["width","place"] (z0d s_z):=⟨rfl,rfl,rfl,by decide +kernel,rfl,by decide +kernel,by decide +kernel⟩
noncomputable abbrev s_E:Stmt:=top 23
theorem sc_E:FnScope ["many"] ["many"] (z0d s_E):=⟨rfl,rfl,rfl,by decide +kernel,rfl,by decide +kernel,by decide +kernel⟩
noncomputable abbrev s_K:Stmt:=top 11
theorem sc_K:FnScope ["many"] ["many"] (z0d s_K):=⟨rfl,rfl,rfl,by decide +kernel,rfl,by decide +kernel,by decide +kernel⟩
noncomputable abbrev s_m:Stmt:=top 12
theorem sc_m:FnScope ["form","table","place"] ["form","table","place"] (z0d s_m):=⟨rfl,rfl,rfl,by decide +kernel,rfl,by decide +kernel,by decide +kernel⟩
noncomputable abbrev s_on:Stmt:=top 5
theorem x5i:FnScope ["P","n"] ["P","n"] (z0d s_on):=⟨rfl,rfl,rfl,by decide +kernel,rfl,by decide +kernel,by decide +kernel⟩
noncomputable abbrev s_p:Stmt:=top 13
theorem sc_p:FnScope ["P","table","form","many","numbers"] ["P","table","form"] (z0d s_p):=⟨rfl,rfl,rfl,by decide +kernel,rfl,by decide +kernel,by decide +kernel⟩
noncomputable abbrev s_I:Stmt:=top 14
theorem sc_I:FnScope ["P","one","other"] ["P","one","other"] (z0d s_I):=⟨rfl,rfl,rfl,by decide +kernel,rfl,by decide +kernel,by decide +kernel⟩
noncomputable abbrev s_B:Stmt:=top 17
theorem sc_B:FnScope ["P","table","n","rungs","rung","figure"] ["P","table","n"] (z0d s_B):=⟨rfl,rfl,rfl,by decide +kernel,rfl,by decide +kernel,by decide +kernel⟩
noncomputable abbrev s_u:Stmt:=top 18
theorem sc_u:FnScope ["rungs","n"] ["rungs","n"] (z0d s_u):=⟨rfl,rfl,rfl,by decide +kernel,rfl,by decide +kernel,by decide +kernel⟩
noncomputable abbrev s_D:Stmt:=top 19
theorem sc_D:FnScope ["P","table","n","whole","rung"] ["P","table","n"] (z0d s_D):=⟨rfl,rfl,rfl,by decide +kernel,rfl,by decide +kernel,by decide +kernel⟩
noncomputable abbrev s_y:Stmt:=top 15
theorem sc_y:FnScope ["many","x","form","forms"] ["many","x","form"] (z0d s_y):=⟨rfl,rfl,rfl,by decide +kernel,rfl,by decide +kernel,by decide +kernel⟩
noncomputable abbrev s_w:Stmt:=top 21
theorem sc_w:FnScope ["P","many","items","whole","item"] ["P","many","items"] (z0d s_w):=⟨rfl,rfl,rfl,by decide +kernel,rfl,by decide +kernel,by decide +kernel⟩
noncomputable abbrev s_b:Stmt:=top 20
theorem sc_b:FnScope ["P","many","item"] ["P","many","item"] (z0d s_b):=⟨rfl,rfl,rfl,by decide +kernel,rfl,by decide +kernel,by decide +kernel⟩
noncomputable abbrev s_F:Stmt:=top 8
theorem sc_F:FnScope ["P","form","stand","many"] ["P","form","stand"] (z0d s_F):=⟨rfl,rfl,rfl,by decide +kernel,rfl,by decide +kernel,by decide +kernel⟩
noncomputable abbrev s_A:Stmt:=top 9
theorem sc_A:FnScope ["P","table","stand"] ["P","table","stand"] (z0d s_A):=⟨rfl,rfl,rfl,by decide +kernel,rfl,by decide +kernel,by decide +kernel⟩
noncomputable abbrev s_H:Stmt:=top 6
theorem sc_H:FnScope ["P","n","number","answer"] ["P","n"] (z0d s_H):=⟨rfl,rfl,rfl,by decide +kernel,rfl,by decide +kernel,by decide +kernel⟩
noncomputable abbrev s_G:Stmt:=top 25
theorem sc_G:FnScope ["P","row","number"] ["P","row","number"] (z0d s_G):=⟨rfl,rfl,rfl,by decide +kernel,rfl,by decide +kernel,by decide +kernel⟩
noncomputable abbrev s_h:Stmt:=top 27
theorem sc_h:FnScope ["P","x","form","by","numbers"] ["P","x","form"] (z0d s_h):=⟨rfl,rfl,rfl,by decide +kernel,rfl,by decide +kernel,by decide +kernel⟩
noncomputable abbrev s_k:Stmt:=top 28
theorem sc_k:FnScope ["P","x","form"] ["P","x","form"] (z0d s_k):=⟨rfl,rfl,rfl,by decide +kernel,rfl,by decide +kernel,by decide +kernel⟩
noncomputable abbrev s_C:Stmt:=top 31
theorem sc_C:FnScope ["P","many","items"] ["P","many","items"] (z0d s_C):=⟨rfl,rfl,rfl,by decide +kernel,rfl,by decide +kernel,by decide +kernel⟩
noncomputable abbrev s_e:Stmt:=top 29
theorem sc_e:FnScope ["P","many","n","items"] ["P","many","n","items"] (z0d s_e):=⟨rfl,rfl,rfl,by decide +kernel,rfl,by decide +kernel,by decide +kernel⟩
noncomputable abbrev s_g:Stmt:=top 30
theorem sc_g:FnScope ["P","many","item"] ["P","many","item"] (z0d s_g):=⟨rfl,rfl,rfl,by decide +kernel,rfl,by decide +kernel,by decide +kernel⟩
noncomputable abbrev s_J:Stmt:=top 36
theorem sc_J:FnScope ["P","many","items","place","x","way_back","one","other"] ["P","many","items"] (z0d s_J):=⟨rfl,rfl,rfl,by decide +kernel,rfl,by decide +kernel,by decide +kernel⟩
noncomputable abbrev y1o:Stmt:=top 49
theorem x2c:FnScope ["script","P","many","items","place","found","ahead","item","first","there"] ["script"] (z0d y1o):=⟨rfl,rfl,rfl,by decide +kernel,rfl,by decide +kernel,by decide +kernel⟩
section
variable {P:Program}{w:World}{K:PySem.W.Frag}{mg:Str->Option Value}{base:Heap}
theorem f_q{f:Addr}{fd:FuncData}(Fu:Fun K "_law_ahead" "_law_ahead" s_q f fd)(hb:z1u K fd ["items","place"] [])
 (m_len:mg "len"=none)
 : FnD P w K mg base 1 f fd ["items","place"] c_q:=by
 refine z1i Fu sc_q hb (fun ds h=>z0h h) fun cdv A outer s H E hr=>?_
 have nd:=sc_q.nd
 have hu:=hr.units
 refine⟨g_q,?_,fun ds hne=>(z1d (z0h hne)).symm⟩
 exact(z0f (z0y 2 (PD.ro (z3b z0c)) nd)
  (z0f (z9q 3 z5i rfl (y4h (PD.ro (z6e (z0b 1) podN (podS (z0t z9u (z0x z3y m_len (by decide +kernel) (z0a (z0b 1) z0c)) z0e)))))
  (z0f (z0y 2 (PD.ro (z0t z1y (z0b 2) (z6e (z0b 0) podN (podS (z0b 3))))) nd)
  (z0g (z0y 0 (PD.ro (z0p (z0p (z0b 0) (z0b 3)) z0e)) nd))) nd)
  (z0g (z0o (z3b (z0a (z0t z1y (z0b 2) (z6e (z0b 0) podN (podS (z0p (z0b 1) (z0t z9u (z0x z3y m_len (by decide +kernel) (z0a (z0b 1) z0c)) z0e))))) (z0a (z0p (z0b 0) (z0p (z0b 1) (z0t z9u (z0x z3y m_len (by decide +kernel) (z0a (z0b 1) z0c)) z0e))) z0c)))))))
theorem f_t{f:Addr}{fd:FuncData}(Fu:Fun K "_law_cell" "_law_cell" s_t f fd)(hb:z1u K fd ["script","k"] [])
 (m_len:mg "len"=none)
 : FnD P w K mg base 1 f fd ["script","k"] c_t:=by
 refine z1i Fu sc_t hb (fun ds h=>z0h h) fun cdv A outer s H E hr=>?_
 have nd:=sc_t.nd
 have hu:=hr.units
 refine⟨g_t,?_,fun ds hne=>(z1d (z0h hne)).symm⟩
 exact(z0f (z4j (z0r x1c (z0b 1) (z0x z3y m_len (by decide +kernel) (z0a (z0b 0) z0c)) (z1a _)) (z0g (z0o (z0p (z0b 0) (z0b 1)))) z1o)
  (z0g (z0o z0e)))
theorem f_a
 {a_a:Addr} {d_a:FuncData} (Fu_a:Fun K "_law_first_lossy" "_law_first_lossy" s_a a_a d_a) (hb_a:z1u K d_a ["items"] []) (m_a:mg "_law_first_lossy"=some (.ref a_a))
 (m_len:mg "len"=none)
 (m_range:mg "range"=none)
 : ∀n:Nat,FnD P w K mg base (1+n) a_a d_a ["items"] (c_a n):=by
 intro n
 induction n with
 | zero=>exact z7f (k:=0) Fu_a sc_a hb_a
 | succ n ih =>
   have F_a:=ih
   ·refine z1i (k:=1+n) Fu_a sc_a hb_a (fun ds h=>z0h h) fun cdv A outer s H E hr=>?_
    have nd:=sc_a.nd
    have hu:=hr.units
    refine⟨g_a (c_a n),?_,fun ds hne=>(z1d (z0h hne)).symm⟩
    exact(z0f (z9q 1 z5i rfl (z2p (z0x z3y m_len (by decide +kernel) (z0a (z0b 0) z0c)) m_range)
   (z0f (z4j (PWD.pt (z9o (z0r (z4c hu) (z0p (z0p (z0b 0) (z0b 1)) z0e) z4v (z1a _)) (z9g (z0r (z4c hu) (z0p (z0p (z0p (z0b 0) (z0b 1)) z0e) (z0p (z0p (z0b 0) (z0b 1)) z0e)) z0e (z1a _))))) (z0g (z0o (z3b (z0a (z0b 1) z0c)))) z1o)
   (z0g (z4j (PWD.pt (z9o (z0r (z4c hu) (z0p (z0p (z0b 0) (z0b 1)) z0e) z4v (z1a _)) (z9g (z0r x1d (z0p (z0p (z0b 0) (z0b 1)) z0e) z0e (z1a _))))) (z0f (z0y 2 (PD.ro (z0k F_a hr m_a (z0a (z0p (z0p (z0b 0) (z0b 1)) z0e) z0c))) nd)
   (z0g (z4j (z0r (y4m hu) (z0b 2) (z3b z0c) (z1a _)) (z0g (z0o (z0t z1y (z3b (z0a (z0b 1) z0c)) (z0b 2)))) z1o))) z1o))) nd)
   (z0g (z0o (z3b z0c))))
theorem f_c{f:Addr}{fd:FuncData}(Fu:Fun K "_law_forgets" "_law_forgets" s_c f fd)(hb:z1u K fd ["items","cell"] [])
 (m_len:mg "len"=none)
 : FnD P w K mg base 1 f fd ["items","cell"] c_c:=by
 refine z1i Fu sc_c hb (fun ds h=>z0h h) fun cdv A outer s H E hr=>?_
 have nd:=sc_c.nd
 have hu:=hr.units
 refine⟨g_c,?_,fun ds hne=>(z1d (z0h hne)).symm⟩
 exact(z0f (z4j (PWD.pt (z9n (z0r (z4c hu) (z0t z3j (z0b 1) z0e) z0e (z1a _)) (z9m (z0r (z4c hu) (z0x z3y m_len (by decide +kernel) (z0a (z0b 0) z0c)) z0e (z1a _))))) (z0g (z0o (z0b 0))) z1o)
  (z0f (z0y 2 (PD.ro (z0t z3j (z0t z6b (z0b 1) z0e) (z0x z3y m_len (by decide +kernel) (z0a (z0b 0) z0c)))) nd)
  (z0f (z0y 3 (PD.ro (z0p (z0b 0) (z0b 2))) nd)
  (z0f (z4j (z0r (z4c hu) (z0p (z0b 3) z0e) z4v (z1a _)) (z0g (z0y 3 (PD.ro (z3b (z0a z4v (z0a (z0p (z0b 3) z0e) (z0a (z0t z1y (z0t z1y (z6e (z0p (z0b 3) z0e) podN (podS (z0p (z0b 3) z0e))) (z3b (z0a z0e z0c))) (z6e (z0p (z0b 3) z0e) (podS (z0t z1y (z0p (z0b 3) z0e) z0e)) podN)) z0c))))) nd)) z1o)
  (z0g (z0o (z0t z1y (z0t z1y (z6e (z0b 0) podN (podS (z0b 2))) (z3b (z0a (z0b 3) z0c))) (z6e (z0b 0) (podS (z0t z1y (z0b 2) z0e)) podN))))))))
theorem f_o{f:Addr}{fd:FuncData}(Fu:Fun K "_law_count" "_law_count" s_o f fd)(hb:z1u K fd ["cell"] [])
 : FnD P w K mg base 1 f fd ["cell"] c_o:=by
 refine z1i Fu sc_o hb (fun ds h=>z0h h) fun cdv A outer s H E hr=>?_
 have nd:=sc_o.nd
 have hu:=hr.units
 refine⟨g_o,?_,fun ds hne=>(z1d (z0h hne)).symm⟩
 exact(z0g (z0o (z0p (PF.pd (z7d (z0a (z0t z3j (z0t z6b (z0b 0) z0e) z0e) (z0a (z0t z3j (z0t z6b (z0b 0) z0e) z0e) (z0a (z0t z3j (z0t z6b (z0b 0) z0e) (z0t z1y (z0t x6c z0e z0e) z0e)) z0c))))) (z0t z3j (z0b 0) z0e))))
theorem f_i{f:Addr}{fd:FuncData}(Fu:Fun K "_law_digits" "_law_digits" s_i f fd)(hb:z1u K fd ["cell","P","size"] [])
 (m_range:mg "range"=none)
 (m_tuple:mg "tuple"=none)
 : FnD P w K mg base 1 f fd ["cell","P","size"] c_i:=by
 refine z1i Fu sc_i hb (fun ds h=>z0h h) fun cdv A outer s H E hr=>?_
 have nd:=sc_i.nd
 have hu:=hr.units
 refine⟨g_i,?_,fun ds hne=>(z1d (z0h hne)).symm⟩
 exact(z0f (z6g 3 (z7d z0c) nd)
  (z0f (z9q 4 z5i rfl (z2p (z0b 2) m_range)
  (z0f (z7s 3 (PD.ro (z0t z3j (z0b 0) (z0b 1))))
  (z0g (z0y 0 (PD.ro (z0t z6b (z0b 0) (z0b 1))) nd))) nd)
  (z0g (z0o (z1n z2n m_tuple (by decide +kernel) (z0a (z0b 3) z0c))))))
theorem f_v{f:Addr}{fd:FuncData}(Fu:Fun K "_law_set" "_law_set" s_v f fd)(hb:z1u K fd ["cell","more","P","many"] [])
 {a_i:Addr} {d_i:FuncData} (G_i:FnD P w K mg base 1 a_i d_i ["cell","P","size"] c_i) (m_i:mg "_law_digits"=some (.ref a_i))
 : FnD P w K mg base 2 f fd ["cell","more","P","many"] c_v:=by
 have F_i:=G_i.mono (k:=1) (by lia)
 refine z1i Fu sc_v hb (fun ds h=>z0h h) fun cdv A outer s H E hr=>?_
 have nd:=sc_v.nd
 have hu:=hr.units
 refine⟨g_v,?_,fun ds hne=>(z1d (z0h hne)).symm⟩
 exact(z0f (z0y 4 (PD.ro (z0t z3j (z0b 0) (z0b 3))) nd)
  (z0f (z0y 5 (PD.ro (z0k F_i hr m_i (z0a (z0b 1) (z0a (z0b 2) (z0a (z0t z1y (z0b 3) z0e) z0c))))) nd)
  (z0f (z4j (PWD.pt (z9o (z0r (z4c hu) (z0p (z0b 5) (z0b 4)) z0e (z1a _)) (z9g (z0r x1d (z0t z3j (z0t z6b (z0b 0) z0e) z0e) z0e (z1a _))))) (z0g (z0y 5 (PD.ro (z0t z1y (z0t z1y (z6e (z0b 5) podN (podS (z0b 4))) (z3b (z0a (z0t z1y z0e (z0t z3j (z0t z6b (z0b 0) z0e) (z0t z9u (z0b 2) z0e))) z0c))) (z6e (z0b 5) (podS (z0t z1y (z0b 4) z0e)) podN))) nd)) z1o)
  (z0g (z0o (z3b (z0a z4v (z0a (z0b 4) (z0a (z0b 5) z0c)))))))))
theorem f_n{f:Addr}{fd:FuncData}(Fu:Fun K "_law_items" "_law_items" s_n f fd)(hb:z1u K fd ["cells","P","many","agains"] [])
 {a_o:Addr} {d_o:FuncData} (G_o:FnD P w K mg base 1 a_o d_o ["cell"] c_o) (m_o:mg "_law_count"=some (.ref a_o))
 {a_v:Addr} {d_v:FuncData} (G_v:FnD P w K mg base 2 a_v d_v ["cell","more","P","many"] c_v) (m_v:mg "_law_set"=some (.ref a_v))
 (m_len:mg "len"=none)
 (m_max:mg "max"=none)
 (m_min:mg "min"=none)
 (m_range:mg "range"=none)
 (m_tuple:mg "tuple"=none)
 : FnD P w K mg base 3 f fd ["cells","P","many","agains"] c_n:=by
 have F_o:=G_o.mono (k:=2) (by lia)
 have F_v:=G_v.mono (k:=2) (by lia)
 refine z1i Fu sc_n hb (fun ds h=>z0h h) fun cdv A outer s H E hr=>?_
 have nd:=sc_n.nd
 have hu:=hr.units
 refine⟨g_n,?_,fun ds hne=>(z1d (z0h hne)).symm⟩
 exact(z0f (z6g 4 (z7d z0c) nd)
  (z0f (z6g 5 (z7d z0c) nd)
  (z0f (z9q 6 z5i rfl (y6s z0e (z0t z9u (z0x (x2u rfl) m_min (by decide +kernel) (z0a (z0x z3y m_len (by decide +kernel) (z0a (z0b 0) z0c)) (z0a z0e z0c))) z0e) z0e m_range)
  (z0f (z0y 7 (PD.ro (z0t z9u (z0x z3y m_len (by decide +kernel) (z0a (z0b 4) z0c)) (z0x (x2u rfl) m_min (by decide +kernel) (z0a (z0t z3j (z0t z6b (z0p (z0b 0) (z0b 6)) z0e) z0e) (z0a (z0x z3y m_len (by decide +kernel) (z0a (z0b 4) z0c)) z0c))))) nd)
  (z0f (z0y 8 (PD.ro (z0t z1y z0e (z0x (x4t rfl) m_max (by decide +kernel) (z0a (PF.pd (y4k (PF.pd (z7d (z0a z0e z0c))) (z6e (z0b 5) (podS (z0b 7)) podN))) z0c)))) nd)
  (z0g (z4j (PWD.pt (z9o (z0r (z4c hu) (z0t z3j (z0p (z0b 0) (z0b 6)) z0e) z0e (z1a _)) (z9o (z0r x1c (z0b 8) z0e (z1a _)) (z9g (z0r x1d (z0b 3) z0e (z1a _)))))) (z0f (z6g 4 (y4k (z6e (z0b 4) podN (podS (z0b 7))) (PF.pd (z7d (z0a (z3b (z0a z4v (z0a (z0k F_o hr m_o (z0a (z0p (z0b 0) (z0t z1y (z0b 6) z0e)) z0c)) (z0a (z1n z2n m_tuple (by decide +kernel) (z0a (z6e (z0b 4) (podS (z0b 7)) podN) z0c)) z0c)))) z0c)))) nd)
  (z0f (z6g 5 (y4k (z6e (z0b 5) podN (podS (z0b 7))) (PF.pd (z7d (z0a (z0b 8) z0c)))) nd)
  (z0g (z0y 3 (PD.ro (z0t z9u (z0b 3) z0e)) nd)))) (z0f (z7s 4 (PD.ro (z0k F_v hr m_v (z0a (z0t z6b (z0p (z0b 0) (z0b 6)) z0e) (z0a (z0p (z0b 0) (z0t z1y (z0b 6) z0e)) (z0a (z0b 1) (z0a (z0b 2) z0c)))))))
  (z0g (z7s 5 (PD.ro z0e)))))))) nd)
  (z0g (z0o (z1n z2n m_tuple (by decide +kernel) (z0a (z0b 4) z0c)))))))
theorem f_r{f:Addr}{fd:FuncData}(Fu:Fun K "_law_prime" "_law_prime" s_r f fd)(hb:z1u K fd ["cell"] [])
 (m_any:mg "any"=none)
 (m_range:mg "range"=none)
 : FnD P w K mg base 1 f fd ["cell"] c_r:=by
 refine z1i Fu sc_r hb (fun ds h=>z0h h) fun cdv A outer s H E hr=>?_
 have nd:=sc_r.nd
 have hu:=hr.units
 refine⟨g_r,?_,fun ds hne=>(z1d (z0h hne)).symm⟩
 exact(z0f (z4j (z0r (z4c hu) (z0t z3j (z0b 0) z0e) z0e (z1a _)) (z0g (z0o (z0p (z3b y6u) (z0t z3j (z0t z6b (z0b 0) z0e) z0e)))) z1o)
  (z0f (z0y 1 (PD.ro (z0t z1y z0e (z0t z3j (z0t z6b (z0b 0) z0e) z0e))) nd)
  (z0f (y5j 10000 z5i (z8h (z0x (x6u rfl) m_any (by decide +kernel) (z0a (PF.pd (z3p (PIx.pic (y6t z0e z0e m_range)) (x3n (fun _ _ _ _ _=>(z0r x1c (z0b 0) (z0b 2) (z1a _))) (fun _ _ _ _ _=>(PD.ro (y2v (z4c hu) (z0t z3j (z0b 2) (z0b 0)) z0e (z1a _))))) nd rfl)) z0c))) (z0g (z0y 1 (PD.ro (z0t z1y (z0b 1) z0e)) nd)))
  (z0g (z0o (z0b 1))))))
theorem f_s{f:Addr}{fd:FuncData}(Fu:Fun K "_law_whole" "_law_whole" s_s f fd)(hb:z1u K fd ["found"] [])
 (m_bool:mg "bool"=none)
 (m_int:mg "int"=none)
 (m_isinstance:mg "isinstance"=none)
 : FnD P w K mg base 1 f fd ["found"] c_s:=by
 refine z1i Fu sc_s hb (fun ds h=>z0h h) fun cdv A outer s H E hr=>?_
 have nd:=sc_s.nd
 have hu:=hr.units
 refine⟨g_s,?_,fun ds hne=>(z1d (z0h hne)).symm⟩
 exact(z0g (z0o (y8r (y2u z6p (z0b 0) m_isinstance (fun I q=>z4q I rfl m_int (by decide +kernel) q) x7q) (y8p (x5s (y2u z4s (z0b 0) m_isinstance (fun I q=>z4q I rfl m_bool (by decide +kernel) q) x6n))))))
theorem f_l{f:Addr}{fd:FuncData}(Fu:Fun K "_law_stand" "_law_stand" s_l f fd)(hb:z1u K fd ["found","P","many"] [])
 {a_s:Addr} {d_s:FuncData} (G_s:FnD P w K mg base 1 a_s d_s ["found"] c_s) (m_s:mg "_law_whole"=some (.ref a_s))
 (m_all:mg "all"=none)
 (m_isinstance:mg "isinstance"=none)
 (m_len:mg "len"=none)
 (m_tuple:mg "tuple"=none)
 : FnD P w K mg base 2 f fd ["found","P","many"] c_l:=by
 have F_s:=G_s.mono (k:=1) (by lia)
 refine z1i Fu sc_l hb (fun ds h=>z0h h) fun cdv A outer s H E hr=>?_
 have nd:=sc_l.nd
 have hu:=hr.units
 refine⟨g_l,?_,fun ds hne=>(z1d (z0h hne)).symm⟩
 exact(z0f (z4j (PWD.pt (z9n (z9p (z8h (y2u z2m (z0b 0) m_isinstance (fun I q=>z4q I rfl m_tuple (by decide +kernel) q) y4r))) (z9m (z0r (y4m hu) (z0x z3y m_len (by decide +kernel) (z0a (z0b 0) z0c)) (z0b 2) (z1a _))))) (z0g (z0o y8q)) z1o)
  (z0g (z0o (z0x (x0b rfl) m_all (by decide +kernel) (z0a (PF.pd (z3p (z7j (z0b 0)) (z4w (fun _ _ _ _ _=>(PD.ro (y8r (z3z F_s hr m_s (z0a (z0b 0) z0c)) (y8p (x0y x7l x1c z0e (z0b 0) (z0b 2))))))) nd rfl)) z0c)))))
theorem f_x
 {a_x:Addr} {d_x:FuncData} (Fu_x:Fun K "item_at" "item_at" s_x a_x d_x) (hb_x:z1u K d_x ["items","place"] []) (m_x:mg "item_at"=some (.ref a_x))
 (m_len:mg "len"=none)
 : ∀n:Nat,FnD P w K mg base (1+n) a_x d_x ["items","place"] (c_x n):=by
 intro n
 induction n with
 | zero=>exact z7f (k:=0) Fu_x sc_x hb_x
 | succ n ih =>
   have F_x:=ih
   ·refine z1i (k:=1+n) Fu_x sc_x hb_x (fun ds h=>z0h h) fun cdv A outer s H E hr=>?_
    have nd:=sc_x.nd
    have hu:=hr.units
    refine⟨g_x (c_x n),?_,fun ds hne=>(z1d (z0h hne)).symm⟩
    exact(z0f (z0y 2 (PD.ro (z0p (z0b 0) (z0p (z0b 1) z0e))) nd)
   (z0f (z4j (z0r (z4c hu) (z0x z3y m_len (by decide +kernel) (z0a (z0b 1) z0c)) z0e (z1a _)) (z0g (z0o (z0b 2))) z1o)
   (z0g (z0o (z0k F_x hr m_x (z0a (z0p (z0b 2) z0e) (z0a (z6e (z0b 1) (podS z0e) podN) z0c)))))))
theorem f_j
 {a_j:Addr} {d_j:FuncData} (Fu_j:Fun K "items_ahead" "items_ahead" s_j a_j d_j) (hb_j:z1u K d_j ["items","place"] []) (m_j:mg "items_ahead"=some (.ref a_j))
 (m_len:mg "len"=none)
 : ∀n:Nat,FnD P w K mg base (1+n) a_j d_j ["items","place"] (c_j n):=by
 intro n
 induction n with
 | zero=>exact z7f (k:=0) Fu_j sc_j hb_j
 | succ n ih =>
   have F_j:=ih
   ·refine z1i (k:=1+n) Fu_j sc_j hb_j (fun ds h=>z0h h) fun cdv A outer s H E hr=>?_
    have nd:=sc_j.nd
    have hu:=hr.units
    refine⟨g_j (c_j n),?_,fun ds hne=>(z1d (z0h hne)).symm⟩
    exact(z0f (z0y 2 (PD.ro (z6e (z0b 0) podN (podS (z0p (z0b 1) z0e)))) nd)
   (z0f (z4j (z0r (z4c hu) (z0x z3y m_len (by decide +kernel) (z0a (z0b 1) z0c)) z0e (z1a _)) (z0g (z0o (z0b 2))) z1o)
   (z0g (z0o (z0t z1y (z0b 2) (z0k F_j hr m_j (z0a (z0p (z0p (z0b 0) (z0p (z0b 1) z0e)) z0e) (z0a (z6e (z0b 1) (podS z0e) podN) z0c))))))))
theorem f_f
 {a_f:Addr} {d_f:FuncData} (Fu_f:Fun K "lossy_place" "lossy_place" s_f a_f d_f) (hb_f:z1u K d_f ["items"] []) (m_f:mg "lossy_place"=some (.ref a_f))
 {a_d:Addr} {d_d:FuncData} (Fu_d:Fun K "lossy_within" "lossy_within" s_d a_d d_d) (hb_d:z1u K d_d ["item"] []) (m_d:mg "lossy_within"=some (.ref a_d))
 (m_enumerate:mg "enumerate"=none)
 : ∀n:Nat,FnD P w K mg base (1+n) a_f d_f ["items"] (c_f n)/\FnD P w K mg base (1+n) a_d d_d ["item"] (c_d n):=by
 intro n
 induction n with
 | zero=>exact⟨z7f (k:=0) Fu_f sc_f hb_f,z7f (k:=0) Fu_d sc_d hb_d⟩
 | succ n ih =>
   obtain⟨F_f,F_d⟩:=ih
   refine⟨?_,?_⟩
   ·refine z1i (k:=1+n) Fu_f sc_f hb_f (fun ds h=>z0h h) fun cdv A outer s H E hr=>?_
    have nd:=sc_f.nd
    have hu:=hr.units
    refine⟨g_f (c_f n) (c_d n),?_,fun ds hne=>(z1d (z0h hne)).symm⟩
    exact(z0f (x3j 1 2 z5i rfl (x0u (y8o 0) m_enumerate)
   (z0f (z0y 3 (PD.ro (z0k F_d hr m_d (z0a (z0b 2) z0c))) nd)
   (z0g (z4j (z0r x3w (z0b 3) z9s (z1a _)) (z0g (z0o (z0t z1y (z3b (z0a (z0b 1) z0c)) (z0b 3)))) z1o))) nd)
   (z0g (z0o z9s)))
   ·refine z1i (k:=1+n) Fu_d sc_d hb_d (fun ds h=>z0h h) fun cdv A outer s H E hr=>?_
    have nd:=sc_d.nd
    have hu:=hr.units
    refine⟨g_d (c_f n) (c_d n),?_,fun ds hne=>(z1d (z0h hne)).symm⟩
    exact(z0f (z4j (z0r (z4c hu) (z0p (z0b 0) z0e) z4v (z1a _)) (z0g (z0o (x3l (z0r (z4c hu) (z0p (z0p (z0b 0) z0e) (z0p (z0b 0) z0e)) z0e (z1a _)) (z3b z0c) z9s))) z1o)
   (z0g (z0o (x3l (z0r x1d (z0p (z0b 0) z0e) z0e (z1a _)) (z0k F_f hr m_f (z0a (z0p (z0b 0) z0e) z0c)) z9s))))
theorem f_z{f:Addr}{fd:FuncData}(Fu:Fun K "one_at" "one_at" s_z f fd)(hb:z1u K fd ["width","place"] [])
 (m_range:mg "range"=none)
 (m_tuple:mg "tuple"=none)
 : FnD P w K mg base 1 f fd ["width","place"] c_z:=by
 refine z1i Fu sc_z hb (fun ds h=>z0h h) fun cdv A outer s H E hr=>?_
 have nd:=sc_z.nd
 have hu:=hr.units
 refine⟨g_z,?_,fun ds hne=>(z1d (z0h hne)).symm⟩
 exact(z0g (z0o (z1n z2n m_tuple (by decide +kernel) (z0a (PF.pd (z3p (PIx.pic (z2p (z0b 0) m_range)) (z4w (fun _ _ _ _ _=>(PD.ro (x3l (z0r (z4c hu) (z0b 0) (z0b 2) (z1a _)) z0e z0e)))) nd rfl)) z0c))))
theorem f_E{f:Addr}{fd:FuncData}(Fu:Fun K "starts" "starts" s_E f fd)(hb:z1u K fd ["many"] [])
 {a_z:Addr} {d_z:FuncData} (G_z:FnD P w K mg base 1 a_z d_z ["width","place"] c_z) (m_z:mg "one_at"=some (.ref a_z))
 (m_range:mg "range"=none)
 (m_tuple:mg "tuple"=none)
 : FnF P w K mg base 2 f fd ["many"] c_E:=by
 have F_z:=G_z.mono (k:=1) (by lia)
 refine y9n Fu sc_E hb (fun ds h=>z8k h) fun cdv A outer s H E hr=>?_
 have nd:=sc_E.nd
 have hu:=hr.units
 refine⟨g_E,?_,fun ds hne=>(y5x (z8k hne)).symm⟩
 exact(z0g (y8h (x5o (z7d (z0a (z1n z2n m_tuple (by decide +kernel) (z0a (PF.pd (x5n (z7d (z0a z0e z0c)) (z0b 0))) z0c)) z0c)) (z3p (PIx.pic (z2p (z0b 0) m_range)) (z4w (fun _ _ _ _ _=>(PD.ro (z3z F_z hr m_z (z0a (z0b 1) (z0a (z0b 0) z0c)))))) nd rfl))))
theorem f_K{f:Addr}{fd:FuncData}(Fu:Fun K "idle" "idle" s_K f fd)(hb:z1u K fd ["many"] [])
 {a_z:Addr} {d_z:FuncData} (G_z:FnD P w K mg base 1 a_z d_z ["width","place"] c_z) (m_z:mg "one_at"=some (.ref a_z))
 (m_range:mg "range"=none)
 (m_tuple:mg "tuple"=none)
 : FnD P w K mg base 2 f fd ["many"] c_K:=by
 have F_z:=G_z.mono (k:=1) (by lia)
 refine z1i Fu sc_K hb (fun ds h=>z0h h) fun cdv A outer s H E hr=>?_
 have nd:=sc_K.nd
 have hu:=hr.units
 refine⟨g_K,?_,fun ds hne=>(z1d (z0h hne)).symm⟩
 exact(z0g (z0o (z1n z2n m_tuple (by decide +kernel) (z0a (PF.pd (z3p (PIx.pic (z2p (z0b 0) m_range)) (z4w (fun _ _ _ _ _=>(PD.ro (z3z F_z hr m_z (z0a (z0t z1y (z0b 1) z0e) (z0a (z0b 0) z0c)))))) nd rfl)) z0c))))
theorem f_m{f:Addr}{fd:FuncData}(Fu:Fun K "column_sum" "column_sum" s_m f fd)(hb:z1u K fd ["form","table","place"] [])
 (m_len:mg "len"=none)
 (m_range:mg "range"=none)
 (m_sum:mg "sum"=none)
 : FnD P w K mg base 1 f fd ["form","table","place"] c_m:=by
 refine z1i Fu sc_m hb (fun ds h=>z0h h) fun cdv A outer s H E hr=>?_
 have nd:=sc_m.nd
 have hu:=hr.units
 refine⟨g_m,?_,fun ds hne=>(z1d (z0h hne)).symm⟩
 exact(z0g (z0o (z0x (x2t rfl) m_sum (by decide +kernel) (z0a (PF.pd (z3p (PIx.pic (z2p (z0x z3y m_len (by decide +kernel) (z0a (z0b 1) z0c)) m_range)) (z4w (fun _ _ _ _ _=>(PD.ro (z0t y2w (z0p (z0b 1) (z0b 0)) (z0p (z0p (z0b 2) (z0b 0)) (z0b 3)))))) nd rfl)) z0c))))
theorem f_on{f:Addr}{fd:FuncData}(Fu:Fun K "on" "on" s_on f fd)(hb:z1u K fd ["P","n"] [])
 : FnD P w K mg base 1 f fd ["P","n"] c_on:=by
 refine z1i Fu x5i hb (fun ds h=>z0h h) fun cdv A outer s H E hr=>?_
 have nd:=x5i.nd
 have hu:=hr.units
 refine⟨g_on,?_,fun ds hne=>(z1d (z0h hne)).symm⟩
 exact(z0g (z0o (z0t z3j (z0b 1) (z0b 0))))
theorem f_p{f:Addr}{fd:FuncData}(Fu:Fun K "form_ahead" "form_ahead" s_p f fd)(hb:z1u K fd ["P","table","form"] [])
 {a_m:Addr} {d_m:FuncData} (G_m:FnD P w K mg base 1 a_m d_m ["form","table","place"] c_m) (m_m:mg "column_sum"=some (.ref a_m))
 (m_len:mg "len"=none)
 {a_on:Addr} {d_on:FuncData} (G_on:FnD P w K mg base 1 a_on d_on ["P","n"] c_on) (m_on:mg "on"=some (.ref a_on))
 (m_range:mg "range"=none)
 (m_tuple:mg "tuple"=none)
 : FnD P w K mg base 2 f fd ["P","table","form"] c_p:=by
 have F_m:=G_m.mono (k:=1) (by lia)
 have F_on:=G_on.mono (k:=1) (by lia)
 refine z1i Fu sc_p hb (fun ds h=>z0h h) fun cdv A outer s H E hr=>?_
 have nd:=sc_p.nd
 have hu:=hr.units
 refine⟨g_p,?_,fun ds hne=>(z1d (z0h hne)).symm⟩
 exact(z0f (z0y 3 (PD.ro (z0x z3y m_len (by decide +kernel) (z0a (z0b 1) z0c))) nd)
  (z0f (y6p 4 (PIx.pic (z2p (z0t z1y (z0b 3) z0e) m_range)) (z4w (fun _ _ _ _ _=>(PD.ro (z3z F_m hr m_m (z0a (z0b 3) (z0a (z0b 2) (z0a (z0b 0) z0c))))))) nd rfl)
  (z0f (y8i 4 (z0b 3) (PD.ro (z0t z1y (z0p (z0b 4) (z0b 3)) (z0p (z0b 2) (z0b 3)))))
  (z0g (z0o (z1n z2n m_tuple (by decide +kernel) (z0a (PF.pd (z3p (z7j (z0b 4)) (z4w (fun _ _ _ _ _=>(PD.ro (z3z F_on hr m_on (z0a (z0b 1) (z0a (z0b 0) z0c)))))) nd rfl)) z0c)))))))
theorem f_I{f:Addr}{fd:FuncData}(Fu:Fun K "then" "then" s_I f fd)(hb:z1u K fd ["P","one","other"] [])
 {a_p:Addr} {d_p:FuncData} (G_p:FnD P w K mg base 2 a_p d_p ["P","table","form"] c_p) (m_p:mg "form_ahead"=some (.ref a_p))
 (m_tuple:mg "tuple"=none)
 : FnD P w K mg base 3 f fd ["P","one","other"] c_I:=by
 have F_p:=G_p.mono (k:=2) (by lia)
 refine z1i Fu sc_I hb (fun ds h=>z0h h) fun cdv A outer s H E hr=>?_
 have nd:=sc_I.nd
 have hu:=hr.units
 refine⟨g_I,?_,fun ds hne=>(z1d (z0h hne)).symm⟩
 exact(z0g (z0o (z1n z2n m_tuple (by decide +kernel) (z0a (PF.pd (z3p (z7j (z0b 2)) (z4w (fun _ _ _ _ _=>(PD.ro (z3z F_p hr m_p (z0a (z0b 1) (z0a (z0b 2) (z0a (z0b 0) z0c))))))) nd rfl)) z0c))))
theorem f_B{f:Addr}{fd:FuncData}(Fu:Fun K "ladder" "ladder" s_B f fd)(hb:z1u K fd ["P","table","n"] [])
 (m_range:mg "range"=none)
 {a_I:Addr} {d_I:FuncData} (G_I:FnD P w K mg base 3 a_I d_I ["P","one","other"] c_I) (m_I:mg "then"=some (.ref a_I))
 : FnF P w K mg base 4 f fd ["P","table","n"] c_B:=by
 have F_I:=G_I.mono (k:=3) (by lia)
 refine y9n Fu sc_B hb (fun ds h=>z8k h) fun cdv A outer s H E hr=>?_
 have nd:=sc_B.nd
 have hu:=hr.units
 refine⟨g_B,?_,fun ds hne=>(y5x (z8k hne)).symm⟩
 exact(z0f (z6g 3 (z7d z0c) nd)
  (z0f (z0y 4 (PD.ro (z0b 1)) nd)
  (z0f (z9q 5 z5i rfl (z2p (x3m (z0b 2)) m_range)
  (z0f (z7s 3 (PD.ro (z0b 4)))
  (z0g (z0y 4 (PD.ro (z0k F_I hr m_I (z0a (z0b 0) (z0a (z0b 4) (z0a (z0b 4) z0c))))) nd))) nd)
  (z0g (x3i 3)))))
theorem f_u{f:Addr}{fd:FuncData}(Fu:Fun K "rungs_for" "rungs_for" s_u f fd)(hb:z1u K fd ["rungs","n"] [])
 (m_enumerate:mg "enumerate"=none)
 : FnF P w K mg base 1 f fd ["rungs","n"] c_u:=by
 refine y9n Fu sc_u hb (fun ds h=>z8k h) fun cdv A outer s H E hr=>?_
 have nd:=sc_u.nd
 have hu:=hr.units
 refine⟨g_u,?_,fun ds hne=>(y5x (z8k hne)).symm⟩
 exact(z0g (y8h (x0x (y8m (z0b 0) m_enumerate) (x1a (fun _ _ _ _ _=>(z0r (z4c hu) (z0t z3j (z0t x6b (z0b 3) (z0b 0)) z0e) z0e (z1a _))) (fun _ _ _ _ _=>(PD.ro (z0b 1)))) nd rfl)))
theorem f_D{f:Addr}{fd:FuncData}(Fu:Fun K "rounds" "rounds" s_D f fd)(hb:z1u K fd ["P","table","n"] [])
 {a_K:Addr} {d_K:FuncData} (G_K:FnD P w K mg base 2 a_K d_K ["many"] c_K) (m_K:mg "idle"=some (.ref a_K))
 {a_B:Addr} {d_B:FuncData} (G_B:FnF P w K mg base 4 a_B d_B ["P","table","n"] c_B) (m_B:mg "ladder"=some (.ref a_B))
 (m_len:mg "len"=none)
 {a_u:Addr} {d_u:FuncData} (G_u:FnF P w K mg base 1 a_u d_u ["rungs","n"] c_u) (m_u:mg "rungs_for"=some (.ref a_u))
 {a_I:Addr} {d_I:FuncData} (G_I:FnD P w K mg base 3 a_I d_I ["P","one","other"] c_I) (m_I:mg "then"=some (.ref a_I))
 : FnD P w K mg base 5 f fd ["P","table","n"] c_D:=by
 have F_K:=G_K.mono (k:=4) (by lia)
 have F_B:=G_B.mono (k:=4) (by lia)
 have F_u:=G_u.mono (k:=4) (by lia)
 have F_I:=G_I.mono (k:=4) (by lia)
 refine z1i Fu sc_D hb (fun ds h=>z0h h) fun cdv A outer s H E hr=>?_
 have nd:=sc_D.nd
 have hu:=hr.units
 refine⟨g_D,?_,fun ds hne=>(z1d (z0h hne)).symm⟩
 exact(z0f (z0y 3 (PD.ro (z0k F_K hr m_K (z0a (z0x z3y m_len (by decide +kernel) (z0a (z0b 1) z0c)) z0c))) nd)
  (z0f (z9q 4 z5i rfl (y4h (PF.ro (y1p F_u hr m_u (z0a (PF.pd (y1p F_B hr m_B (z0a (z0b 0) (z0a (z0b 1) (z0a (z0b 2) z0c))))) (z0a (z0b 2) z0c)))))
  (z0g (z0y 3 (PD.ro (z0k F_I hr m_I (z0a (z0b 0) (z0a (z0b 3) (z0a (z0b 4) z0c))))) nd)) nd)
  (z0g (z0o (z0b 3)))))
theorem f_y{f:Addr}{fd:FuncData}(Fu:Fun K "setting" "setting" s_y f fd)(hb:z1u K fd ["many","x","form"] [])
 {a_K:Addr} {d_K:FuncData} (G_K:FnD P w K mg base 2 a_K d_K ["many"] c_K) (m_K:mg "idle"=some (.ref a_K))
 (m_list:mg "list"=none)
 (m_tuple:mg "tuple"=none)
 : FnD P w K mg base 3 f fd ["many","x","form"] c_y:=by
 have F_K:=G_K.mono (k:=2) (by lia)
 refine z1i Fu sc_y hb (fun ds h=>z0h h) fun cdv A outer s H E hr=>?_
 have nd:=sc_y.nd
 have hu:=hr.units
 refine⟨g_y,?_,fun ds hne=>(z1d (z0h hne)).symm⟩
 exact(z0f (z6g 3 (y8n (z0k F_K hr m_K (z0a (z0b 0) z0c)) m_list (by decide +kernel)) nd)
  (z0f (y8i 3 (z0b 1) (PD.ro (z1n z2n m_tuple (by decide +kernel) (z0a (z0b 2) z0c))))
  (z0g (z0o (z1n z2n m_tuple (by decide +kernel) (z0a (z0b 3) z0c))))))
theorem f_w
 {a_w:Addr} {d_w:FuncData} (Fu_w:Fun K "table_of" "table_of" s_w a_w d_w) (hb_w:z1u K d_w ["P","many","items"] []) (m_w:mg "table_of"=some (.ref a_w))
 {a_b:Addr} {d_b:FuncData} (Fu_b:Fun K "table_of_item" "table_of_item" s_b a_b d_b) (hb_b:z1u K d_b ["P","many","item"] []) (m_b:mg "table_of_item"=some (.ref a_b))
 {a_K:Addr} {d_K:FuncData} (G_K:FnD P w K mg base 2 a_K d_K ["many"] c_K) (m_K:mg "idle"=some (.ref a_K))
 {a_I:Addr} {d_I:FuncData} (G_I:FnD P w K mg base 3 a_I d_I ["P","one","other"] c_I) (m_I:mg "then"=some (.ref a_I))
 {a_D:Addr} {d_D:FuncData} (G_D:FnD P w K mg base 5 a_D d_D ["P","table","n"] c_D) (m_D:mg "rounds"=some (.ref a_D))
 {a_y:Addr} {d_y:FuncData} (G_y:FnD P w K mg base 3 a_y d_y ["many","x","form"] c_y) (m_y:mg "setting"=some (.ref a_y))
 : ∀n:Nat,FnD P w K mg base (5+n) a_w d_w ["P","many","items"] (c_w n)/\FnD P w K mg base (5+n) a_b d_b ["P","many","item"] (c_b n):=by
 intro n
 induction n with
 | zero=>exact⟨z7f (k:=4) Fu_w sc_w hb_w,z7f (k:=4) Fu_b sc_b hb_b⟩
 | succ n ih =>
   obtain⟨F_w,F_b⟩:=ih
   have F_K:=G_K.mono (k:=5+n) (by lia)
   have F_I:=G_I.mono (k:=5+n) (by lia)
   have F_D:=G_D.mono (k:=5+n) (by lia)
   have F_y:=G_y.mono (k:=5+n) (by lia)
   refine⟨?_,?_⟩
   ·refine z1i (k:=5+n) Fu_w sc_w hb_w (fun ds h=>z0h h) fun cdv A outer s H E hr=>?_
    have nd:=sc_w.nd
    have hu:=hr.units
    refine⟨g_w (c_w n) (c_b n),?_,fun ds hne=>(z1d (z0h hne)).symm⟩
    exact(z0f (z0y 3 (PD.ro (z0k F_K hr m_K (z0a (z0b 1) z0c))) nd)
   (z0f (z9q 4 z5i rfl (y4h (y8o 2))
   (z0g (z0y 3 (PD.ro (z0k F_I hr m_I (z0a (z0b 0) (z0a (z0b 3) (z0a (z0k F_b hr m_b (z0a (z0b 0) (z0a (z0b 1) (z0a (z0b 4) z0c)))) z0c))))) nd)) nd)
   (z0g (z0o (z0b 3)))))
   ·refine z1i (k:=5+n) Fu_b sc_b hb_b (fun ds h=>z0h h) fun cdv A outer s H E hr=>?_
    have nd:=sc_b.nd
    have hu:=hr.units
    refine⟨g_b (c_w n) (c_b n),?_,fun ds hne=>(z1d (z0h hne)).symm⟩
    exact(z0f (z4j (z0r (z4c hu) (z0p (z0b 2) z0e) z4v (z1a _)) (z0g (z0o (z0k F_y hr m_y (z0a (z0b 1) (z0a (z0p (z0b 2) z0e) (z0a (z0p (z0b 2) z0e) z0c)))))) z1o)
   (z0g (z0o (z0k F_D hr m_D (z0a (z0b 0) (z0a (z0k F_w hr m_w (z0a (z0b 0) (z0a (z0b 1) (z0a (z0p (z0b 2) z0e) z0c)))) (z0a (z0p (z0b 2) z0e) z0c)))))))
theorem f_F{f:Addr}{fd:FuncData}(Fu:Fun K "worth" "worth" s_F f fd)(hb:z1u K fd ["P","form","stand"] [])
 (m_len:mg "len"=none)
 {a_on:Addr} {d_on:FuncData} (G_on:FnD P w K mg base 1 a_on d_on ["P","n"] c_on) (m_on:mg "on"=some (.ref a_on))
 (m_range:mg "range"=none)
 (m_sum:mg "sum"=none)
 : FnD P w K mg base 2 f fd ["P","form","stand"] c_F:=by
 have F_on:=G_on.mono (k:=1) (by lia)
 refine z1i Fu sc_F hb (fun ds h=>z0h h) fun cdv A outer s H E hr=>?_
 have nd:=sc_F.nd
 have hu:=hr.units
 refine⟨g_F,?_,fun ds hne=>(z1d (z0h hne)).symm⟩
 exact(z0f (z0y 3 (PD.ro (z0x z3y m_len (by decide +kernel) (z0a (z0b 2) z0c))) nd)
  (z0g (z0o (z0k F_on hr m_on (z0a (z0b 0) (z0a (z0t z1y (z0x (x2t rfl) m_sum (by decide +kernel) (z0a (PF.pd (z3p (PIx.pic (z2p (z0b 3) m_range)) (z4w (fun _ _ _ _ _=>(PD.ro (z0t y2w (z0p (z0b 2) (z0b 0)) (z0p (z0b 3) (z0b 0)))))) nd rfl)) z0c)) (z0p (z0b 1) (z0b 3))) z0c))))))
theorem f_A{f:Addr}{fd:FuncData}(Fu:Fun K "turned" "turned" s_A f fd)(hb:z1u K fd ["P","table","stand"] [])
 (m_tuple:mg "tuple"=none)
 {a_F:Addr} {d_F:FuncData} (G_F:FnD P w K mg base 2 a_F d_F ["P","form","stand"] c_F) (m_F:mg "worth"=some (.ref a_F))
 : FnD P w K mg base 3 f fd ["P","table","stand"] c_A:=by
 have F_F:=G_F.mono (k:=2) (by lia)
 refine z1i Fu sc_A hb (fun ds h=>z0h h) fun cdv A outer s H E hr=>?_
 have nd:=sc_A.nd
 have hu:=hr.units
 refine⟨g_A,?_,fun ds hne=>(z1d (z0h hne)).symm⟩
 exact(z0g (z0o (z1n z2n m_tuple (by decide +kernel) (z0a (PF.pd (z3p (z7j (z0b 1)) (z4w (fun _ _ _ _ _=>(PD.ro (z3z F_F hr m_F (z0a (z0b 1) (z0a (z0b 0) (z0a (z0b 3) z0c))))))) nd rfl)) z0c))))
theorem f_H{f:Addr}{fd:FuncData}(Fu:Fun K "back" "back" s_H f fd)(hb:z1u K fd ["P","n"] [])
 {a_NoNumber:Addr} (m_NoNumber:mg "NoNumber"=some (.ref a_NoNumber))
 {a_on:Addr} {d_on:FuncData} (G_on:FnD P w K mg base 1 a_on d_on ["P","n"] c_on) (m_on:mg "on"=some (.ref a_on))
 (X_NoNumber:XOk K mg .noNumber a_NoNumber)
 : FnD P w K mg base 2 f fd ["P","n"] c_H:=by
 have F_on:=G_on.mono (k:=1) (by lia)
 refine z1i Fu sc_H hb (fun ds h=>z0h h) fun cdv A outer s H E hr=>?_
 have nd:=sc_H.nd
 have hu:=hr.units
 refine⟨g_H,?_,fun ds hne=>(z1d (z0h hne)).symm⟩
 exact(z0f (z0y 2 (PD.ro (z0k F_on hr m_on (z0a (z0b 0) (z0a (z0b 1) z0c)))) nd)
  (z0f (z4j (z0r (z4c hu) (z0b 2) z0e (z1a _)) (z0g (y5k X_NoNumber z4v rfl)) z1o)
  (z0f (z0y 3 (PD.ro z0e) nd)
  (z0f (y5j 100000 z5i (z0r (y4m hu) (z0b 2) z0e (z1a _)) (z0f (z0y 3 (PD.ro (z0k F_on hr m_on (z0a (z0b 0) (z0a (z0t y2w (x2h (z0b 3)) (z0t z6b (z0b 0) (z0b 2))) z0c)))) nd)
  (z0g (z0y 2 (PD.ro (z0t z3j (z0b 0) (z0b 2))) nd))))
  (z0g (z0o (z0b 3)))))))
theorem f_G{f:Addr}{fd:FuncData}(Fu:Fun K "times" "times" s_G f fd)(hb:z1u K fd ["P","row","number"] [])
 {a_on:Addr} {d_on:FuncData} (G_on:FnD P w K mg base 1 a_on d_on ["P","n"] c_on) (m_on:mg "on"=some (.ref a_on))
 (m_tuple:mg "tuple"=none)
 : FnD P w K mg base 2 f fd ["P","row","number"] c_G:=by
 have F_on:=G_on.mono (k:=1) (by lia)
 refine z1i Fu sc_G hb (fun ds h=>z0h h) fun cdv A outer s H E hr=>?_
 have nd:=sc_G.nd
 have hu:=hr.units
 refine⟨g_G,?_,fun ds hne=>(z1d (z0h hne)).symm⟩
 exact(z0g (z0o (z1n z2n m_tuple (by decide +kernel) (z0a (PF.pd (z3p (z7j (z0b 1)) (z4w (fun _ _ _ _ _=>(PD.ro (z3z F_on hr m_on (z0a (z0b 1) (z0a (z0t y2w (z0b 3) (z0b 0)) z0c)))))) nd rfl)) z0c))))
theorem f_h{f:Addr}{fd:FuncData}(Fu:Fun K "undone_form" "undone_form" s_h f fd)(hb:z1u K fd ["P","x","form"] [])
 {a_H:Addr} {d_H:FuncData} (G_H:FnD P w K mg base 2 a_H d_H ["P","n"] c_H) (m_H:mg "back"=some (.ref a_H))
 (m_list:mg "list"=none)
 {a_G:Addr} {d_G:FuncData} (G_G:FnD P w K mg base 2 a_G d_G ["P","row","number"] c_G) (m_G:mg "times"=some (.ref a_G))
 (m_tuple:mg "tuple"=none)
 : FnD P w K mg base 3 f fd ["P","x","form"] c_h:=by
 have F_H:=G_H.mono (k:=2) (by lia)
 have F_G:=G_G.mono (k:=2) (by lia)
 refine z1i Fu sc_h hb (fun ds h=>z0h h) fun cdv A outer s H E hr=>?_
 have nd:=sc_h.nd
 have hu:=hr.units
 refine⟨g_h,?_,fun ds hne=>(z1d (z0h hne)).symm⟩
 exact(z0f (z0y 3 (PD.ro (z0k F_H hr m_H (z0a (z0b 0) (z0a (z0p (z0b 2) (z0b 1)) z0c)))) nd)
  (z0f (z6g 4 (y8n (z0k F_G hr m_G (z0a (z0b 0) (z0a (z0b 2) (z0a (x2h (z0b 3)) z0c)))) m_list (by decide +kernel)) nd)
  (z0f (y8i 4 (z0b 1) (PD.ro (z0b 3)))
  (z0g (z0o (z1n z2n m_tuple (by decide +kernel) (z0a (z0b 4) z0c)))))))
theorem f_k{f:Addr}{fd:FuncData}(Fu:Fun K "undone_set" "undone_set" s_k f fd)(hb:z1u K fd ["P","x","form"] [])
 {a_Lossy:Addr} (m_Lossy:mg "Lossy"=some (.ref a_Lossy))
 {a_h:Addr} {d_h:FuncData} (G_h:FnD P w K mg base 3 a_h d_h ["P","x","form"] c_h) (m_h:mg "undone_form"=some (.ref a_h))
 (X_Lossy:XOk K mg .lossy a_Lossy)
 : FnD P w K mg base 4 f fd ["P","x","form"] c_k:=by
 have F_h:=G_h.mono (k:=3) (by lia)
 refine z1i Fu sc_k hb (fun ds h=>z0h h) fun cdv A outer s H E hr=>?_
 have nd:=sc_k.nd
 have hu:=hr.units
 refine⟨g_k,?_,fun ds hne=>(z1d (z0h hne)).symm⟩
 exact(z0f (z4j (z0r (z4c hu) (z0p (z0b 2) (z0b 1)) z0e (z1a _)) (z0g (y5k X_Lossy z4v rfl)) z1o)
  (z0g (z0o (z3b (z0a z4v (z0a (z0b 1) (z0a (z0k F_h hr m_h (z0a (z0b 0) (z0a (z0b 1) (z0a (z0b 2) z0c)))) z0c)))))))
theorem f_C
 {a_C:Addr} {d_C:FuncData} (Fu_C:Fun K "undone" "undone" s_C a_C d_C) (hb_C:z1u K d_C ["P","many","items"] []) (m_C:mg "undone"=some (.ref a_C))
 {a_e:Addr} {d_e:FuncData} (Fu_e:Fun K "undone_again" "undone_again" s_e a_e d_e) (hb_e:z1u K d_e ["P","many","n","items"] []) (m_e:mg "undone_again"=some (.ref a_e))
 {a_g:Addr} {d_g:FuncData} (Fu_g:Fun K "undone_item" "undone_item" s_g a_g d_g) (hb_g:z1u K d_g ["P","many","item"] []) (m_g:mg "undone_item"=some (.ref a_g))
 (m_reversed:mg "reversed"=none)
 (m_tuple:mg "tuple"=none)
 {a_k:Addr} {d_k:FuncData} (G_k:FnD P w K mg base 4 a_k d_k ["P","x","form"] c_k) (m_k:mg "undone_set"=some (.ref a_k))
 : ∀n:Nat,FnD P w K mg base (4+n) a_C d_C ["P","many","items"] (c_C n)/\FnD P w K mg base (4+n) a_e d_e ["P","many","n","items"] (c_e n)/\FnD P w K mg base (4+n) a_g d_g ["P","many","item"] (c_g n):=by
 intro n
 induction n with
 | zero=>exact⟨z7f (k:=3) Fu_C sc_C hb_C,z7f (k:=3) Fu_e sc_e hb_e,z7f (k:=3) Fu_g sc_g hb_g⟩
 | succ n ih =>
   obtain⟨F_C,F_e,F_g⟩:=ih
   have F_k:=G_k.mono (k:=4+n) (by lia)
   refine⟨?_,?_,?_⟩
   ·refine z1i (k:=4+n) Fu_C sc_C hb_C (fun ds h=>z0h h) fun cdv A outer s H E hr=>?_
    have nd:=sc_C.nd
    have hu:=hr.units
    refine⟨g_C (c_C n) (c_e n) (c_g n),?_,fun ds hne=>(z1d (z0h hne)).symm⟩
    exact(z0g (z0o (z1n z2n m_tuple (by decide +kernel) (z0a (PF.pd (x0w (x3k (z0b 2) m_reversed) (x3o (fun _ _ _ _ _ hpn=>(PD.ro (x0z F_g hr m_g (z0a (z0b 1) (z0a (z0b 2) (z0a (z0b 0) z0c))) hpn)))) nd rfl rfl rfl rfl)) z0c))))
   ·refine z1i (k:=4+n) Fu_e sc_e hb_e (fun ds h=>z0h h) fun cdv A outer s H E hr=>?_
    have nd:=sc_e.nd
    have hu:=hr.units
    refine⟨g_e (c_C n) (c_e n) (c_g n),?_,fun ds hne=>(z1d (z0h hne)).symm⟩
    exact(z0f (z4j (z0r (z4c hu) (z0b 2) z0e (z1a _)) (z0g (z0o (z3b (z0a z4v (z0a z0e (z0a (z3b z0c) z0c)))))) z1o)
   (z0g (z0o (z3b (z0a z4v (z0a (z0b 2) (z0a (z0k F_C hr m_C (z0a (z0b 0) (z0a (z0b 1) (z0a (z0b 3) z0c)))) z0c)))))))
   ·refine z1i (k:=4+n) Fu_g sc_g hb_g (fun ds h=>z0h h) fun cdv A outer s H E hr=>?_
    have nd:=sc_g.nd
    have hu:=hr.units
    refine⟨g_g (c_C n) (c_e n) (c_g n),?_,fun ds hne=>(z1d (z0h hne)).symm⟩
    exact(z0f (z4j (z0r (z4c hu) (z0p (z0b 2) z0e) z4v (z1a _)) (z0g (z0o (z0k F_k hr m_k (z0a (z0b 0) (z0a (z0p (z0b 2) z0e) (z0a (z0p (z0b 2) z0e) z0c)))))) z1o)
   (z0g (z0o (z0k F_e hr m_e (z0a (z0b 0) (z0a (z0b 1) (z0a (z0p (z0b 2) z0e) (z0a (z0p (z0b 2) z0e) z0c))))))))
theorem f_J{f:Addr}{fd:FuncData}(Fu:Fun K "loss" "loss" s_J f fd)(hb:z1u K fd ["P","many","items"] [])
 {a_x:Addr} {d_x:FuncData} (G_x:FnD P w K mg base 13 a_x d_x ["items","place"] (c_x 12)) (m_x:mg "item_at"=some (.ref a_x))
 {a_j:Addr} {d_j:FuncData} (G_j:FnD P w K mg base 13 a_j d_j ["items","place"] (c_j 12)) (m_j:mg "items_ahead"=some (.ref a_j))
 {a_f:Addr} {d_f:FuncData} (G_f:FnD P w K mg base 13 a_f d_f ["items"] (c_f 12)) (m_f:mg "lossy_place"=some (.ref a_f))
 {a_E:Addr} {d_E:FuncData} (G_E:FnF P w K mg base 2 a_E d_E ["many"] c_E) (m_E:mg "starts"=some (.ref a_E))
 {a_w:Addr} {d_w:FuncData} (G_w:FnD P w K mg base 17 a_w d_w ["P","many","items"] (c_w 12)) (m_w:mg "table_of"=some (.ref a_w))
 {a_A:Addr} {d_A:FuncData} (G_A:FnD P w K mg base 3 a_A d_A ["P","table","stand"] c_A) (m_A:mg "turned"=some (.ref a_A))
 {a_C:Addr} {d_C:FuncData} (G_C:FnD P w K mg base 16 a_C d_C ["P","many","items"] (c_C 12)) (m_C:mg "undone"=some (.ref a_C))
 : FnD P w K mg base 18 f fd ["P","many","items"] c_J:=by
 have F_x:=G_x.mono (k:=17) (by lia)
 have F_j:=G_j.mono (k:=17) (by lia)
 have F_f:=G_f.mono (k:=17) (by lia)
 have F_E:=G_E.mono (k:=17) (by lia)
 have F_w:=G_w.mono (k:=17) (by lia)
 have F_A:=G_A.mono (k:=17) (by lia)
 have F_C:=G_C.mono (k:=17) (by lia)
 refine z1i Fu sc_J hb (fun ds h=>z0h h) fun cdv A outer s H E hr=>?_
 have nd:=sc_J.nd
 have hu:=hr.units
 refine⟨g_J,?_,fun ds hne=>(z1d (z0h hne)).symm⟩
 exact(z0f (z0y 3 (PD.ro (z0k F_f hr m_f (z0a (z0b 2) z0c))) nd)
  (z0f (z4j (z0r x2i (z0b 3) z9s (z1a _)) (z0g (z0o z9s)) z1o)
  (z0f (z0y 4 (PD.ro (z0p (z0k F_x hr m_x (z0a (z0b 2) (z0a (z0b 3) z0c))) z0e)) nd)
  (z0f (z0y 5 (PD.ro (z0k F_w hr m_w (z0a (z0b 0) (z0a (z0b 1) (z0a (z0k F_C hr m_C (z0a (z0b 0) (z0a (z0b 1) (z0a (z0k F_j hr m_j (z0a (z0b 2) (z0a (z0b 3) z0c))) z0c)))) z0c))))) nd)
  (z0f (z0y 6 (PD.ro (z0k F_A hr m_A (z0a (z0b 0) (z0a (z0b 5) (z0a (z0p (PF.pd (y1p F_E hr m_E (z0a (z0b 1) z0c))) z0e) z0c))))) nd)
  (z0f (z0y 7 (PD.ro (z0k F_A hr m_A (z0a (z0b 0) (z0a (z0b 5) (z0a (z0p (PF.pd (y1p F_E hr m_E (z0a (z0b 1) z0c))) (z0t z1y z0e (z0b 4))) z0c))))) nd)
  (z0g (z0o (z3b (z0a (z0b 3) (z0a (z0b 6) (z0a (z0b 7) (z0a (z0k F_A hr m_A (z0a (z0b 0) (z0a (z0k F_w hr m_w (z0a (z0b 0) (z0a (z0b 1) (z0a (z0b 2) z0c)))) (z0a (z0b 6) z0c)))) z0c)))))))))))))
theorem x7t{f:Addr}{fd:FuncData}(Fu:Fun K "law" "law" y1o f fd)(hb:z1u K fd ["script"] [])
 {a_q:Addr} {d_q:FuncData} (G_q:FnD P w K mg base 1 a_q d_q ["items","place"] c_q) (m_q:mg "_law_ahead"=some (.ref a_q))
 {a_t:Addr} {d_t:FuncData} (G_t:FnD P w K mg base 1 a_t d_t ["script","k"] c_t) (m_t:mg "_law_cell"=some (.ref a_t))
 {a_a:Addr} {d_a:FuncData} (G_a:FnD P w K mg base 13 a_a d_a ["items"] (c_a 12)) (m_a:mg "_law_first_lossy"=some (.ref a_a))
 {a_c:Addr} {d_c:FuncData} (G_c:FnD P w K mg base 1 a_c d_c ["items","cell"] c_c) (m_c:mg "_law_forgets"=some (.ref a_c))
 {a_n:Addr} {d_n:FuncData} (G_n:FnD P w K mg base 3 a_n d_n ["cells","P","many","agains"] c_n) (m_n:mg "_law_items"=some (.ref a_n))
 {a_r:Addr} {d_r:FuncData} (G_r:FnD P w K mg base 1 a_r d_r ["cell"] c_r) (m_r:mg "_law_prime"=some (.ref a_r))
 {a_l:Addr} {d_l:FuncData} (G_l:FnD P w K mg base 2 a_l d_l ["found","P","many"] c_l) (m_l:mg "_law_stand"=some (.ref a_l))
 {a_s:Addr} {d_s:FuncData} (G_s:FnD P w K mg base 1 a_s d_s ["found"] c_s) (m_s:mg "_law_whole"=some (.ref a_s))
 (m_all:mg "all"=none)
 (m_int:mg "int"=none)
 (m_isinstance:mg "isinstance"=none)
 (m_len:mg "len"=none)
 {a_J:Addr} {d_J:FuncData} (G_J:FnD P w K mg base 18 a_J d_J ["P","many","items"] c_J) (m_J:mg "loss"=some (.ref a_J))
 (m_range:mg "range"=none)
 {a_w:Addr} {d_w:FuncData} (G_w:FnD P w K mg base 17 a_w d_w ["P","many","items"] (c_w 12)) (m_w:mg "table_of"=some (.ref a_w))
 (m_tuple:mg "tuple"=none)
 {a_A:Addr} {d_A:FuncData} (G_A:FnD P w K mg base 3 a_A d_A ["P","table","stand"] c_A) (m_A:mg "turned"=some (.ref a_A))
 : FnD P w K mg base 19 f fd ["script"] c_law:=by
 have F_q:=G_q.mono (k:=18) (by lia)
 have F_t:=G_t.mono (k:=18) (by lia)
 have F_a:=G_a.mono (k:=18) (by lia)
 have F_c:=G_c.mono (k:=18) (by lia)
 have F_n:=G_n.mono (k:=18) (by lia)
 have F_r:=G_r.mono (k:=18) (by lia)
 have F_l:=G_l.mono (k:=18) (by lia)
 have F_s:=G_s.mono (k:=18) (by lia)
 have F_J:=G_J.mono (k:=18) (by lia)
 have F_w:=G_w.mono (k:=18) (by lia)
 have F_A:=G_A.mono (k:=18) (by lia)
 refine z1i Fu x2c hb (fun ds h=>z0h h) fun cdv A outer s H E hr=>?_
 have nd:=x2c.nd
 have hu:=hr.units
 refine⟨x4l,?_,fun ds hne=>(z1d (z0h hne)).symm⟩
 exact(z0f (z0y 1 (PD.ro (z0k F_r hr m_r (z0a (z0k F_t hr m_t (z0a (z0b 0) (z0a z0e z0c))) z0c))) nd)
  (z0f (z0y 2 (PD.ro (z0t z1y z0e (z0t z3j (z0k F_t hr m_t (z0a (z0b 0) (z0a z0e z0c))) z0e))) nd)
  (z0f (z0y 3 (PD.ro (z0k F_c hr m_c (z0a (z0k F_n hr m_n (z0a (z6e (z0b 0) (podS z0e) (podS z0e)) (z0a (z0b 1) (z0a (z0b 2) (z0a z0e z0c))))) (z0a (z0k F_t hr m_t (z0a (z0b 0) (z0a z0e z0c))) z0c)))) nd)
  (z0f (z0y 4 (PD.ro (z0k F_a hr m_a (z0a (z0b 3) z0c))) nd)
  (z0f (z0y 5 (PD.ro (z0k F_J hr m_J (z0a (z0b 1) (z0a (z0b 2) (z0a (z0b 3) z0c))))) nd)
  (z0f (z4j (z0r (z4c hu) (z0b 4) (z3b z0c) (z1a _)) (z0g (z0o (y2v x2i (z0b 5) z9s (z1a _)))) z1o)
  (z0f (z4j (PWD.pt (z9n (z9p (z8h (y2u z2m (z0b 5) m_isinstance (fun I q=>z4q I rfl m_tuple (by decide +kernel) q) y4r))) (z9n (z0r (y4m hu) (z0x z3y m_len (by decide +kernel) (z0a (z0b 5) z0c)) z0e (z1a _)) (z9n (z9p (z8h (y2u z2m (z0p (z0b 5) z0e) m_isinstance (fun I q=>z4q I rfl m_tuple (by decide +kernel) q) y4r))) (z9m (z0r (y4m hu) (z0p (z0b 5) z0e) (z0b 4) (z1a _))))))) (z0g (z0o y8q)) z1o)
  (z0f (z4j (PWD.pt (z9n (z9p (z8h (z0x (x0b rfl) m_all (by decide +kernel) (z0a (PF.pd (z3p (z7j (z0p (z0b 5) z0e)) (z4w (fun _ _ _ _ _=>(PD.ro (z3z F_s hr m_s (z0a (z0b 0) z0c))))) nd rfl)) z0c)))) (z9m (z9p (z8h (z0x (x0b rfl) m_all (by decide +kernel) (z0a (PF.pd (z3p (z7j (z6e (z0b 5) (podS z0e) podN)) (z4w (fun _ _ _ _ _=>(PD.ro (z3z F_l hr m_l (z0a (z0b 0) (z0a (z0b 2) (z0a (z0b 3) z0c))))))) nd rfl)) z0c))))))) (z0g (z0o y8q)) z1o)
  (z0f (y6o 6 7 (z0k F_q hr m_q (z0a (z0b 3) (z0a (z0b 4) z0c))) nd rfl)
  (z0f (z0y 8 (PD.ro (z0k F_w hr m_w (z0a (z0b 1) (z0a (z0b 2) (z0a (z0b 6) z0c))))) nd)
  (z0f (z4j (PWD.pt (z9n (z0r (y4m hu) (z0k F_A hr m_A (z0a (z0b 1) (z0a (z0b 8) (z0a (z0p (z0b 5) z0e) z0c)))) (z0t y2w (z3b (z0a z0e z0c)) (z0b 2)) (z1a _)) (z9m (z0r (z4c hu) (z0p (z0b 5) z0e) (z0p (z0b 5) z0e) (z1a _))))) (z0g (z0o y8q)) z1o)
  (z0f (z4j (z0r (y4m hu) (z0k F_A hr m_A (z0a (z0b 1) (z0a (z0b 8) (z0a (z0p (z0b 5) z0e) z0c)))) (z1n z2n m_tuple (by decide +kernel) (z0a (PF.pd (z3p (PIx.pic (z2p (z0b 2) m_range)) (z4w (fun _ _ _ _ _=>(PD.ro (z1n x6t m_int (by decide +kernel) (z0a (y2v (z4c hu) (z0b 0) (z0p (z0b 8) z0e) (z1a _)) z0c))))) nd rfl)) z0c)) (z1a _)) (z0g (z0o y8q)) z1o)
  (z0f (z0y 9 (PD.ro (z0k F_w hr m_w (z0a (z0b 1) (z0a (z0b 2) (z0a (z0b 3) z0c))))) nd)
  (z0g (z0o (y8r (y2v (z4c hu) (z0k F_A hr m_A (z0a (z0b 1) (z0a (z0b 9) (z0a (z0p (z0b 5) z0e) z0c)))) (z0p (z0b 5) z0e) (z1a _)) (y8p (y2v (z4c hu) (z0k F_A hr m_A (z0a (z0b 1) (z0a (z0b 9) (z0a (z0p (z0b 5) z0e) z0c)))) (z0p (z0b 5) z0e) (z1a _)))))))))))))))))))
end
theorem y1s{α:Type}{p:List α->Prop}(h:∀a,p [a])(us:List α)(hl:us.length=1):p us:=by
 obtain⟨a,rfl⟩:∃a,us=[a]:=by
  match us,hl with
  | [a],_=>exact⟨a,rfl⟩
 exact h a
theorem y1r{α:Type}{p:List α->Prop}(h:∀a b,p [a,b])(us:List α)(hl:us.length=2):p us:=by
 obtain⟨a,b,rfl⟩:∃a b,us=[a,b]:=by
  match us,hl with
  | [a,b],_=>exact⟨a,b,rfl⟩
 exact h a b
theorem z6f{α:Type}{p:List α->Prop}(h:∀a b c,p [a,b,c])(us:List α)(hl:us.length=3):p us:=by
 obtain⟨a,b,c,rfl⟩:∃a b c,us=[a,b,c]:=by
  match us,hl with
  | [a,b,c],_=>exact⟨a,b,c,rfl⟩
 exact h a b c
theorem x4b{α:Type}{p:List α->Prop}(h:∀a b c d,p [a,b,c,d])(us:List α)(hl:us.length=4):p us:=by
 obtain⟨a,b,c,d,rfl⟩:∃a b c d,us=[a,b,c,d]:=by
  match us,hl with
  | [a,b,c,d],_=>exact⟨a,b,c,d,rfl⟩
 exact h a b c d
theorem all_mk{l:PySem.W.OpenLaw}{w:World}{K:PySem.W.Frag}{h:Heap}{mg:Str->Option Value}{fa:Addr}(X:K.In h)(G:h.Ns mainGlobals mg)(hfa:mg "law"=some (.ref fa))
 {a_q:Addr} {od_q an_q:Option Addr} {sl_q:Array (Option Value)} {oc_q kV_q dc_q pm_q cd_q ct_q:Value}
 {a_t:Addr} {od_t an_t:Option Addr} {sl_t:Array (Option Value)} {oc_t kV_t dc_t pm_t cd_t ct_t:Value}
 {a_a:Addr} {od_a an_a:Option Addr} {sl_a:Array (Option Value)} {oc_a kV_a dc_a pm_a cd_a ct_a:Value}
 {a_c:Addr} {od_c an_c:Option Addr} {sl_c:Array (Option Value)} {oc_c kV_c dc_c pm_c cd_c ct_c:Value}
 {a_o:Addr} {od_o an_o:Option Addr} {sl_o:Array (Option Value)} {oc_o kV_o dc_o pm_o cd_o ct_o:Value}
 {a_i:Addr} {od_i an_i:Option Addr} {sl_i:Array (Option Value)} {oc_i kV_i dc_i pm_i cd_i ct_i:Value}
 {a_v:Addr} {od_v an_v:Option Addr} {sl_v:Array (Option Value)} {oc_v kV_v dc_v pm_v cd_v ct_v:Value}
 {a_n:Addr} {od_n an_n:Option Addr} {sl_n:Array (Option Value)} {oc_n kV_n dc_n pm_n cd_n ct_n:Value}
 {a_r:Addr} {od_r an_r:Option Addr} {sl_r:Array (Option Value)} {oc_r kV_r dc_r pm_r cd_r ct_r:Value}
 {a_s:Addr} {od_s an_s:Option Addr} {sl_s:Array (Option Value)} {oc_s kV_s dc_s pm_s cd_s ct_s:Value}
 {a_l:Addr} {od_l an_l:Option Addr} {sl_l:Array (Option Value)} {oc_l kV_l dc_l pm_l cd_l ct_l:Value}
 {a_x:Addr} {od_x an_x:Option Addr} {sl_x:Array (Option Value)} {oc_x kV_x dc_x pm_x cd_x ct_x:Value}
 {a_j:Addr} {od_j an_j:Option Addr} {sl_j:Array (Option Value)} {oc_j kV_j dc_j pm_j cd_j ct_j:Value}
 {a_f:Addr} {od_f an_f:Option Addr} {sl_f:Array (Option Value)} {oc_f kV_f dc_f pm_f cd_f ct_f:Value}
 {a_d:Addr} {od_d an_d:Option Addr} {sl_d:Array (Option Value)} {oc_d kV_d dc_d pm_d cd_d ct_d:Value}
 {a_z:Addr} {od_z an_z:Option Addr} {sl_z:Array (Option Value)} {oc_z kV_z dc_z pm_z cd_z ct_z:Value}
 {a_E:Addr} {od_E an_E:Option Addr} {sl_E:Array (Option Value)} {oc_E kV_E dc_E pm_E cd_E ct_E:Value}
 {a_K:Addr} {od_K an_K:Option Addr} {sl_K:Array (Option Value)} {oc_K kV_K dc_K pm_K cd_K ct_K:Value}
 {a_m:Addr} {od_m an_m:Option Addr} {sl_m:Array (Option Value)} {oc_m kV_m dc_m pm_m cd_m ct_m:Value}
 {a_on:Addr} {od_on an_on:Option Addr} {sl_on:Array (Option Value)} {oc_on kV_on dc_on pm_on cd_on ct_on:Value}
 {a_p:Addr} {od_p an_p:Option Addr} {sl_p:Array (Option Value)} {oc_p kV_p dc_p pm_p cd_p ct_p:Value}
 {a_I:Addr} {od_then an_I:Option Addr} {sl_I:Array (Option Value)} {oc_I kV_I dc_I pm_I cd_I ct_I:Value}
 {a_B:Addr} {od_B an_B:Option Addr} {sl_B:Array (Option Value)} {oc_B kV_B dc_B pm_B cd_B ct_B:Value}
 {a_u:Addr} {od_u an_u:Option Addr} {sl_u:Array (Option Value)} {oc_u kV_u dc_u pm_u cd_u ct_u:Value}
 {a_D:Addr} {od_D an_D:Option Addr} {sl_D:Array (Option Value)} {oc_D kV_D dc_D pm_D cd_D ct_D:Value}
 {a_y:Addr} {od_y an_y:Option Addr} {sl_y:Array (Option Value)} {oc_y kV_y dc_y pm_y cd_y ct_y:Value}
 {a_w:Addr} {od_w an_w:Option Addr} {sl_w:Array (Option Value)} {oc_w kV_w dc_w pm_w cd_w ct_w:Value}
 {a_b:Addr} {od_b an_b:Option Addr} {sl_b:Array (Option Value)} {oc_b kV_b dc_b pm_b cd_b ct_b:Value}
 {a_F:Addr} {od_F an_F:Option Addr} {sl_F:Array (Option Value)} {oc_F kV_F dc_F pm_F cd_F ct_F:Value}
 {a_A:Addr} {od_A an_A:Option Addr} {sl_A:Array (Option Value)} {oc_A kV_A dc_A pm_A cd_A ct_A:Value}
 {a_H:Addr} {od_H an_H:Option Addr} {sl_H:Array (Option Value)} {oc_H kV_H dc_H pm_H cd_H ct_H:Value}
 {a_G:Addr} {od_G an_G:Option Addr} {sl_G:Array (Option Value)} {oc_G kV_G dc_G pm_G cd_G ct_G:Value}
 {a_h:Addr} {od_h an_h:Option Addr} {sl_h:Array (Option Value)} {oc_h kV_h dc_h pm_h cd_h ct_h:Value}
 {a_k:Addr} {od_k an_k:Option Addr} {sl_k:Array (Option Value)} {oc_k kV_k dc_k pm_k cd_k ct_k:Value}
 {a_C:Addr} {od_C an_C:Option Addr} {sl_C:Array (Option Value)} {oc_C kV_C dc_C pm_C cd_C ct_C:Value}
 {a_e:Addr} {od_e an_e:Option Addr} {sl_e:Array (Option Value)} {oc_e kV_e dc_e pm_e cd_e ct_e:Value}
 {a_g:Addr} {od_g an_g:Option Addr} {sl_g:Array (Option Value)} {oc_g kV_g dc_g pm_g cd_g ct_g:Value}
 {a_J:Addr} {od_J an_J:Option Addr} {sl_J:Array (Option Value)} {oc_J kV_J dc_J pm_J cd_J ct_J:Value}
 {a_law:Addr} {od_law an_law:Option Addr} {sl_law:Array (Option Value)} {oc_law kV_law dc_law pm_law cd_law ct_law:Value}
 (a1_q:PySem.W.nsIn K mainGlobals "_law_ahead"=some (some (.ref a_q))) (l1_q:K.lookup a_q=some ⟨oc_q,od_q,.func (PySem.W.fnOf "_law_ahead" "_law_ahead" (z0n s_q) (z0m s_q) (z0d s_q) .none kV_q dc_q pm_q an_q cd_q ct_q),sl_q⟩) (c1_q:PySem.W.codeIn K cd_q "_law_ahead"=true) (k1_q:PySem.W.keepIn K (.ref a_q)=true)
 (a1_t:PySem.W.nsIn K mainGlobals "_law_cell"=some (some (.ref a_t))) (l1_t:K.lookup a_t=some ⟨oc_t,od_t,.func (PySem.W.fnOf "_law_cell" "_law_cell" (z0n s_t) (z0m s_t) (z0d s_t) .none kV_t dc_t pm_t an_t cd_t ct_t),sl_t⟩) (c1_t:PySem.W.codeIn K cd_t "_law_cell"=true) (k1_t:PySem.W.keepIn K (.ref a_t)=true)
 (a1_a:PySem.W.nsIn K mainGlobals "_law_first_lossy"=some (some (.ref a_a))) (l1_a:K.lookup a_a=some ⟨oc_a,od_a,.func (PySem.W.fnOf "_law_first_lossy" "_law_first_lossy" (z0n s_a) (z0m s_a) (z0d s_a) .none kV_a dc_a pm_a an_a cd_a ct_a),sl_a⟩) (c1_a:PySem.W.codeIn K cd_a "_law_first_lossy"=true) (k1_a:PySem.W.keepIn K (.ref a_a)=true)
 (a1_c:PySem.W.nsIn K mainGlobals "_law_forgets"=some (some (.ref a_c))) (l1_c:K.lookup a_c=some ⟨oc_c,od_c,.func (PySem.W.fnOf "_law_forgets" "_law_forgets" (z0n s_c) (z0m s_c) (z0d s_c) .none kV_c dc_c pm_c an_c cd_c ct_c),sl_c⟩) (c1_c:PySem.W.codeIn K cd_c "_law_forgets"=true) (k1_c:PySem.W.keepIn K (.ref a_c)=true)
 (a1_o:PySem.W.nsIn K mainGlobals "_law_count"=some (some (.ref a_o))) (l1_o:K.lookup a_o=some ⟨oc_o,od_o,.func (PySem.W.fnOf "_law_count" "_law_count" (z0n s_o) (z0m s_o) (z0d s_o) .none kV_o dc_o pm_o an_o cd_o ct_o),sl_o⟩) (c1_o:PySem.W.codeIn K cd_o "_law_count"=true) (k1_o:PySem.W.keepIn K (.ref a_o)=true)
 (a1_i:PySem.W.nsIn K mainGlobals "_law_digits"=some (some (.ref a_i))) (l1_i:K.lookup a_i=some ⟨oc_i,od_i,.func (PySem.W.fnOf "_law_digits" "_law_digits" (z0n s_i) (z0m s_i) (z0d s_i) .none kV_i dc_i pm_i an_i cd_i ct_i),sl_i⟩) (c1_i:PySem.W.codeIn K cd_i "_law_digits"=true) (k1_i:PySem.W.keepIn K (.ref a_i)=true)
 (a1_v:PySem.W.nsIn K mainGlobals "_law_set"=some (some (.ref a_v))) (l1_v:K.lookup a_v=some ⟨oc_v,od_v,.func (PySem.W.fnOf "_law_set" "_law_set" (z0n s_v) (z0m s_v) (z0d s_v) .none kV_v dc_v pm_v an_v cd_v ct_v),sl_v⟩) (c1_v:PySem.W.codeIn K cd_v "_law_set"=true) (k1_v:PySem.W.keepIn K (.ref a_v)=true)
 (a1_n:PySem.W.nsIn K mainGlobals "_law_items"=some (some (.ref a_n))) (l1_n:K.lookup a_n=some ⟨oc_n,od_n,.func (PySem.W.fnOf "_law_items" "_law_items" (z0n s_n) (z0m s_n) (z0d s_n) .none kV_n dc_n pm_n an_n cd_n ct_n),sl_n⟩) (c1_n:PySem.W.codeIn K cd_n "_law_items"=true) (k1_n:PySem.W.keepIn K (.ref a_n)=true)
 (a1_r:PySem.W.nsIn K mainGlobals "_law_prime"=some (some (.ref a_r))) (l1_r:K.lookup a_r=some ⟨oc_r,od_r,.func (PySem.W.fnOf "_law_prime" "_law_prime" (z0n s_r) (z0m s_r) (z0d s_r) .none kV_r dc_r pm_r an_r cd_r ct_r),sl_r⟩) (c1_r:PySem.W.codeIn K cd_r "_law_prime"=true) (k1_r:PySem.W.keepIn K (.ref a_r)=true)
 (a1_s:PySem.W.nsIn K mainGlobals "_law_whole"=some (some (.ref a_s))) (l1_s:K.lookup a_s=some ⟨oc_s,od_s,.func (PySem.W.fnOf "_law_whole" "_law_whole" (z0n s_s) (z0m s_s) (z0d s_s) .none kV_s dc_s pm_s an_s cd_s ct_s),sl_s⟩) (c1_s:PySem.W.codeIn K cd_s "_law_whole"=true) (k1_s:PySem.W.keepIn K (.ref a_s)=true)
 (a1_l:PySem.W.nsIn K mainGlobals "_law_stand"=some (some (.ref a_l))) (l1_l:K.lookup a_l=some ⟨oc_l,od_l,.func (PySem.W.fnOf "_law_stand" "_law_stand" (z0n s_l) (z0m s_l) (z0d s_l) .none kV_l dc_l pm_l an_l cd_l ct_l),sl_l⟩) (c1_l:PySem.W.codeIn K cd_l "_law_stand"=true) (k1_l:PySem.W.keepIn K (.ref a_l)=true)
 (a1_x:PySem.W.nsIn K mainGlobals "item_at"=some (some (.ref a_x))) (l1_x:K.lookup a_x=some ⟨oc_x,od_x,.func (PySem.W.fnOf "item_at" "item_at" (z0n s_x) (z0m s_x) (z0d s_x) .none kV_x dc_x pm_x an_x cd_x ct_x),sl_x⟩) (c1_x:PySem.W.codeIn K cd_x "item_at"=true) (k1_x:PySem.W.keepIn K (.ref a_x)=true)
 (a1_j:PySem.W.nsIn K mainGlobals "items_ahead"=some (some (.ref a_j))) (l1_j:K.lookup a_j=some ⟨oc_j,od_j,.func (PySem.W.fnOf "items_ahead" "items_ahead" (z0n s_j) (z0m s_j) (z0d s_j) .none kV_j dc_j pm_j an_j cd_j ct_j),sl_j⟩) (c1_j:PySem.W.codeIn K cd_j "items_ahead"=true) (k1_j:PySem.W.keepIn K (.ref a_j)=true)
 (a1_f:PySem.W.nsIn K mainGlobals "lossy_place"=some (some (.ref a_f))) (l1_f:K.lookup a_f=some ⟨oc_f,od_f,.func (PySem.W.fnOf "lossy_place" "lossy_place" (z0n s_f) (z0m s_f) (z0d s_f) .none kV_f dc_f pm_f an_f cd_f ct_f),sl_f⟩) (c1_f:PySem.W.codeIn K cd_f "lossy_place"=true) (k1_f:PySem.W.keepIn K (.ref a_f)=true)
 (a1_d:PySem.W.nsIn K mainGlobals "lossy_within"=some (some (.ref a_d))) (l1_d:K.lookup a_d=some ⟨oc_d,od_d,.func (PySem.W.fnOf "lossy_within" "lossy_within" (z0n s_d) (z0m s_d) (z0d s_d) .none kV_d dc_d pm_d an_d cd_d ct_d),sl_d⟩) (c1_d:PySem.W.codeIn K cd_d "lossy_within"=true) (k1_d:PySem.W.keepIn K (.ref a_d)=true)
 (a1_z:PySem.W.nsIn K mainGlobals "one_at"=some (some (.ref a_z))) (l1_z:K.lookup a_z=some ⟨oc_z,od_z,.func (PySem.W.fnOf "one_at" "one_at" (z0n s_z) (z0m s_z) (z0d s_z) .none kV_z dc_z pm_z an_z cd_z ct_z),sl_z⟩) (c1_z:PySem.W.codeIn K cd_z "one_at"=true) (k1_z:PySem.W.keepIn K (.ref a_z)=true)
 (a1_E:PySem.W.nsIn K mainGlobals "starts"=some (some (.ref a_E))) (l1_E:K.lookup a_E=some ⟨oc_E,od_E,.func (PySem.W.fnOf "starts" "starts" (z0n s_E) (z0m s_E) (z0d s_E) .none kV_E dc_E pm_E an_E cd_E ct_E),sl_E⟩) (c1_E:PySem.W.codeIn K cd_E "starts"=true) (k1_E:PySem.W.keepIn K (.ref a_E)=true)
 (a1_K:PySem.W.nsIn K mainGlobals "idle"=some (some (.ref a_K))) (l1_K:K.lookup a_K=some ⟨oc_K,od_K,.func (PySem.W.fnOf "idle" "idle" (z0n s_K) (z0m s_K) (z0d s_K) .none kV_K dc_K pm_K an_K cd_K ct_K),sl_K⟩) (c1_K:PySem.W.codeIn K cd_K "idle"=true) (k1_K:PySem.W.keepIn K (.ref a_K)=true)
 (a1_m:PySem.W.nsIn K mainGlobals "column_sum"=some (some (.ref a_m))) (l1_m:K.lookup a_m=some ⟨oc_m,od_m,.func (PySem.W.fnOf "column_sum" "column_sum" (z0n s_m) (z0m s_m) (z0d s_m) .none kV_m dc_m pm_m an_m cd_m ct_m),sl_m⟩) (c1_m:PySem.W.codeIn K cd_m "column_sum"=true) (k1_m:PySem.W.keepIn K (.ref a_m)=true)
 (a1_on:PySem.W.nsIn K mainGlobals "on"=some (some (.ref a_on))) (l1_on:K.lookup a_on=some ⟨oc_on,od_on,.func (PySem.W.fnOf "on" "on" (z0n s_on) (z0m s_on) (z0d s_on) .none kV_on dc_on pm_on an_on cd_on ct_on),sl_on⟩) (c1_on:PySem.W.codeIn K cd_on "on"=true) (k1_on:PySem.W.keepIn K (.ref a_on)=true)
 (a1_p:PySem.W.nsIn K mainGlobals "form_ahead"=some (some (.ref a_p))) (l1_p:K.lookup a_p=some ⟨oc_p,od_p,.func (PySem.W.fnOf "form_ahead" "form_ahead" (z0n s_p) (z0m s_p) (z0d s_p) .none kV_p dc_p pm_p an_p cd_p ct_p),sl_p⟩) (c1_p:PySem.W.codeIn K cd_p "form_ahead"=true) (k1_p:PySem.W.keepIn K (.ref a_p)=true)
 (a1_I:PySem.W.nsIn K mainGlobals "then"=some (some (.ref a_I))) (l1_I:K.lookup a_I=some ⟨oc_I,od_then,.func (PySem.W.fnOf "then" "then" (z0n s_I) (z0m s_I) (z0d s_I) .none kV_I dc_I pm_I an_I cd_I ct_I),sl_I⟩) (c1_I:PySem.W.codeIn K cd_I "then"=true) (k1_I:PySem.W.keepIn K (.ref a_I)=true)
 (a1_B:PySem.W.nsIn K mainGlobals "ladder"=some (some (.ref a_B))) (l1_B:K.lookup a_B=some ⟨oc_B,od_B,.func (PySem.W.fnOf "ladder" "ladder" (z0n s_B) (z0m s_B) (z0d s_B) .none kV_B dc_B pm_B an_B cd_B ct_B),sl_B⟩) (c1_B:PySem.W.codeIn K cd_B "ladder"=true) (k1_B:PySem.W.keepIn K (.ref a_B)=true)
 (a1_u:PySem.W.nsIn K mainGlobals "rungs_for"=some (some (.ref a_u))) (l1_u:K.lookup a_u=some ⟨oc_u,od_u,.func (PySem.W.fnOf "rungs_for" "rungs_for" (z0n s_u) (z0m s_u) (z0d s_u) .none kV_u dc_u pm_u an_u cd_u ct_u),sl_u⟩) (c1_u:PySem.W.codeIn K cd_u "rungs_for"=true) (k1_u:PySem.W.keepIn K (.ref a_u)=true)
 (a1_D:PySem.W.nsIn K mainGlobals "rounds"=some (some (.ref a_D))) (l1_D:K.lookup a_D=some ⟨oc_D,od_D,.func (PySem.W.fnOf "rounds" "rounds" (z0n s_D) (z0m s_D) (z0d s_D) .none kV_D dc_D pm_D an_D cd_D ct_D),sl_D⟩) (c1_D:PySem.W.codeIn K cd_D "rounds"=true) (k1_D:PySem.W.keepIn K (.ref a_D)=true)
 (a1_y:PySem.W.nsIn K mainGlobals "setting"=some (some (.ref a_y))) (l1_y:K.lookup a_y=some ⟨oc_y,od_y,.func (PySem.W.fnOf "setting" "setting" (z0n s_y) (z0m s_y) (z0d s_y) .none kV_y dc_y pm_y an_y cd_y ct_y),sl_y⟩) (c1_y:PySem.W.codeIn K cd_y "setting"=true) (k1_y:PySem.W.keepIn K (.ref a_y)=true)
 (a1_w:PySem.W.nsIn K mainGlobals "table_of"=some (some (.ref a_w))) (l1_w:K.lookup a_w=some ⟨oc_w,od_w,.func (PySem.W.fnOf "table_of" "table_of" (z0n s_w) (z0m s_w) (z0d s_w) .none kV_w dc_w pm_w an_w cd_w ct_w),sl_w⟩) (c1_w:PySem.W.codeIn K cd_w "table_of"=true) (k1_w:PySem.W.keepIn K (.ref a_w)=true)
 (a1_b:PySem.W.nsIn K mainGlobals "table_of_item"=some (some (.ref a_b))) (l1_b:K.lookup a_b=some ⟨oc_b,od_b,.func (PySem.W.fnOf "table_of_item" "table_of_item" (z0n s_b) (z0m s_b) (z0d s_b) .none kV_b dc_b pm_b an_b cd_b ct_b),sl_b⟩) (c1_b:PySem.W.codeIn K cd_b "table_of_item"=true) (k1_b:PySem.W.keepIn K (.ref a_b)=true)
 (a1_F:PySem.W.nsIn K mainGlobals "worth"=some (some (.ref a_F))) (l1_F:K.lookup a_F=some ⟨oc_F,od_F,.func (PySem.W.fnOf "worth" "worth" (z0n s_F) (z0m s_F) (z0d s_F) .none kV_F dc_F pm_F an_F cd_F ct_F),sl_F⟩) (c1_F:PySem.W.codeIn K cd_F "worth"=true) (k1_F:PySem.W.keepIn K (.ref a_F)=true)
 (a1_A:PySem.W.nsIn K mainGlobals "turned"=some (some (.ref a_A))) (l1_A:K.lookup a_A=some ⟨oc_A,od_A,.func (PySem.W.fnOf "turned" "turned" (z0n s_A) (z0m s_A) (z0d s_A) .none kV_A dc_A pm_A an_A cd_A ct_A),sl_A⟩) (c1_A:PySem.W.codeIn K cd_A "turned"=true) (k1_A:PySem.W.keepIn K (.ref a_A)=true)
 (a1_H:PySem.W.nsIn K mainGlobals "back"=some (some (.ref a_H))) (l1_H:K.lookup a_H=some ⟨oc_H,od_H,.func (PySem.W.fnOf "back" "back" (z0n s_H) (z0m s_H) (z0d s_H) .none kV_H dc_H pm_H an_H cd_H ct_H),sl_H⟩) (c1_H:PySem.W.codeIn K cd_H "back"=true) (k1_H:PySem.W.keepIn K (.ref a_H)=true)
 (a1_G:PySem.W.nsIn K mainGlobals "times"=some (some (.ref a_G))) (l1_G:K.lookup a_G=some ⟨oc_G,od_G,.func (PySem.W.fnOf "times" "times" (z0n s_G) (z0m s_G) (z0d s_G) .none kV_G dc_G pm_G an_G cd_G ct_G),sl_G⟩) (c1_G:PySem.W.codeIn K cd_G "times"=true) (k1_G:PySem.W.keepIn K (.ref a_G)=true)
 (a1_h:PySem.W.nsIn K mainGlobals "undone_form"=some (some (.ref a_h))) (l1_h:K.lookup a_h=some ⟨oc_h,od_h,.func (PySem.W.fnOf "undone_form" "undone_form" (z0n s_h) (z0m s_h) (z0d s_h) .none kV_h dc_h pm_h an_h cd_h ct_h),sl_h⟩) (c1_h:PySem.W.codeIn K cd_h "undone_form"=true) (k1_h:PySem.W.keepIn K (.ref a_h)=true)
 (a1_k:PySem.W.nsIn K mainGlobals "undone_set"=some (some (.ref a_k))) (l1_k:K.lookup a_k=some ⟨oc_k,od_k,.func (PySem.W.fnOf "undone_set" "undone_set" (z0n s_k) (z0m s_k) (z0d s_k) .none kV_k dc_k pm_k an_k cd_k ct_k),sl_k⟩) (c1_k:PySem.W.codeIn K cd_k "undone_set"=true) (k1_k:PySem.W.keepIn K (.ref a_k)=true)
 (a1_C:PySem.W.nsIn K mainGlobals "undone"=some (some (.ref a_C))) (l1_C:K.lookup a_C=some ⟨oc_C,od_C,.func (PySem.W.fnOf "undone" "undone" (z0n s_C) (z0m s_C) (z0d s_C) .none kV_C dc_C pm_C an_C cd_C ct_C),sl_C⟩) (c1_C:PySem.W.codeIn K cd_C "undone"=true) (k1_C:PySem.W.keepIn K (.ref a_C)=true)
 (a1_e:PySem.W.nsIn K mainGlobals "undone_again"=some (some (.ref a_e))) (l1_e:K.lookup a_e=some ⟨oc_e,od_e,.func (PySem.W.fnOf "undone_again" "undone_again" (z0n s_e) (z0m s_e) (z0d s_e) .none kV_e dc_e pm_e an_e cd_e ct_e),sl_e⟩) (c1_e:PySem.W.codeIn K cd_e "undone_again"=true) (k1_e:PySem.W.keepIn K (.ref a_e)=true)
 (a1_g:PySem.W.nsIn K mainGlobals "undone_item"=some (some (.ref a_g))) (l1_g:K.lookup a_g=some ⟨oc_g,od_g,.func (PySem.W.fnOf "undone_item" "undone_item" (z0n s_g) (z0m s_g) (z0d s_g) .none kV_g dc_g pm_g an_g cd_g ct_g),sl_g⟩) (c1_g:PySem.W.codeIn K cd_g "undone_item"=true) (k1_g:PySem.W.keepIn K (.ref a_g)=true)
 (a1_J:PySem.W.nsIn K mainGlobals "loss"=some (some (.ref a_J))) (l1_J:K.lookup a_J=some ⟨oc_J,od_J,.func (PySem.W.fnOf "loss" "loss" (z0n s_J) (z0m s_J) (z0d s_J) .none kV_J dc_J pm_J an_J cd_J ct_J),sl_J⟩) (c1_J:PySem.W.codeIn K cd_J "loss"=true) (k1_J:PySem.W.keepIn K (.ref a_J)=true)
 (a1_law:PySem.W.nsIn K mainGlobals "law"=some (some (.ref a_law))) (l1_law:K.lookup a_law=some ⟨oc_law,od_law,.func (PySem.W.fnOf "law" "law" (z0n y1o) (z0m y1o) (z0d y1o) .none kV_law dc_law pm_law an_law cd_law ct_law),sl_law⟩) (c1_law:PySem.W.codeIn K cd_law "law"=true) (k1_law:PySem.W.keepIn K (.ref a_law)=true)
 (z_all:PySem.W.nsIn K mainGlobals "all"=some none)
 (z_any:PySem.W.nsIn K mainGlobals "any"=some none)
 (z_bool:PySem.W.nsIn K mainGlobals "bool"=some none)
 (z_enumerate:PySem.W.nsIn K mainGlobals "enumerate"=some none)
 (z_int:PySem.W.nsIn K mainGlobals "int"=some none)
 (z_isinstance:PySem.W.nsIn K mainGlobals "isinstance"=some none)
 (z_len:PySem.W.nsIn K mainGlobals "len"=some none)
 (z_list:PySem.W.nsIn K mainGlobals "list"=some none)
 (z_max:PySem.W.nsIn K mainGlobals "max"=some none)
 (z_min:PySem.W.nsIn K mainGlobals "min"=some none)
 (z_range:PySem.W.nsIn K mainGlobals "range"=some none)
 (z_reversed:PySem.W.nsIn K mainGlobals "reversed"=some none)
 (z_sum:PySem.W.nsIn K mainGlobals "sum"=some none)
 (z_tuple:PySem.W.nsIn K mainGlobals "tuple"=some none)
 {a_NoNumber:Addr} {cdx_NoNumber:ClassData}
 {a_Lossy:Addr} {cdx_Lossy:ClassData}
 {a_LongError:Addr} {cdx_LongError:ClassData}
 (a1_NoNumber:PySem.W.nsIn K mainGlobals "NoNumber"=some (some (.ref a_NoNumber)))
 (a1_Lossy:PySem.W.nsIn K mainGlobals "Lossy"=some (some (.ref a_Lossy)))
 (a1_LongError:PySem.W.nsIn K mainGlobals "LongError"=some (some (.ref a_LongError)))
 (xa_NoNumber:PySem.W.findIn K (.ref a_NoNumber) "__getattribute__"=some (some (.builtin "BaseException.__getattribute__")))
 (xb_NoNumber:PySem.W.findIn K (.ref a_NoNumber) "__getattr__"=some none)
 (xc_NoNumber:PySem.W.findIn K (.ref a_NoNumber) "__class__"=some (some (.builtin "object.__class__")))
 (xd_NoNumber:PySem.W.mroIn K a_NoNumber (.type "object")=some true)
 (xe_NoNumber:PySem.W.mroIn K a_NoNumber (.type "BaseException")=some true)
 (xf_NoNumber:PySem.W.typeIn K (.ref a_NoNumber)=some (.type "type"))
 (xg_NoNumber:PySem.W.clsIn K a_NoNumber=some cdx_NoNumber)
 (xa_Lossy:PySem.W.findIn K (.ref a_Lossy) "__getattribute__"=some (some (.builtin "BaseException.__getattribute__")))
 (xb_Lossy:PySem.W.findIn K (.ref a_Lossy) "__getattr__"=some none)
 (xc_Lossy:PySem.W.findIn K (.ref a_Lossy) "__class__"=some (some (.builtin "object.__class__")))
 (xd_Lossy:PySem.W.mroIn K a_Lossy (.type "object")=some true)
 (xe_Lossy:PySem.W.mroIn K a_Lossy (.type "BaseException")=some true)
 (xf_Lossy:PySem.W.typeIn K (.ref a_Lossy)=some (.type "type"))
 (xg_Lossy:PySem.W.clsIn K a_Lossy=some cdx_Lossy)
 (xa_LongError:PySem.W.findIn K (.ref a_LongError) "__getattribute__"=some (some (.builtin "BaseException.__getattribute__")))
 (xb_LongError:PySem.W.findIn K (.ref a_LongError) "__getattr__"=some none)
 (xc_LongError:PySem.W.findIn K (.ref a_LongError) "__class__"=some (some (.builtin "object.__class__")))
 (xd_LongError:PySem.W.mroIn K a_LongError (.type "object")=some true)
 (xe_LongError:PySem.W.mroIn K a_LongError (.type "BaseException")=some true)
 (xf_LongError:PySem.W.typeIn K (.ref a_LongError)=some (.type "type"))
 (xg_LongError:PySem.W.clsIn K a_LongError=some cdx_LongError)
 (zg_NoPrime:PySem.W.nsIn K mainGlobals "NoPrime"=some none)
 (zg_NoProgram:PySem.W.nsIn K mainGlobals "NoProgram"=some none)
 (zg_TooLong:PySem.W.nsIn K mainGlobals "TooLong"=some none)
 (zg_NoText:PySem.W.nsIn K mainGlobals "NoText"=some none)
 (ex_Lossy:PySem.W.excIn K a_Lossy [.type "ValueError",.type "Exception",.type "BaseException",.type "object"] "ValueError.__new__"=true)
 (ex_NoNumber:PySem.W.excIn K a_NoNumber [.type "ValueError",.type "Exception",.type "BaseException",.type "object"] "ValueError.__new__"=true)
 : ∃fd:FuncData,(∀(s:Shared) (v:Value),BindsTo s fd ⟨[v],[]⟩ [("script",v)])/\∀base:Heap,K.In base->base.Ns mainGlobals mg->FnOk l.prog w K mg base (CXE l.prog w) 19 fa fd ["script"] (spN c_law K):=by
 have e:=hfa.symm.trans (PySem.W.mg_of X G a1_law)
 cases e
 have U_q:=z1c (st:=s_q) l1_q c1_q k1_q
 have b_q:=U_q.binds (ps:=["items","place"]) fun _ _ _ _ _ _=>y1r fun _ _=>rfl
 have m_q:=PySem.W.mg_of X G a1_q
 have U_t:=z1c (st:=s_t) l1_t c1_t k1_t
 have b_t:=U_t.binds (ps:=["script","k"]) fun _ _ _ _ _ _=>y1r fun _ _=>rfl
 have m_t:=PySem.W.mg_of X G a1_t
 have U_a:=z1c (st:=s_a) l1_a c1_a k1_a
 have b_a:=U_a.binds (ps:=["items"]) fun _ _ _ _ _ _=>y1s fun _=>rfl
 have m_a:=PySem.W.mg_of X G a1_a
 have U_c:=z1c (st:=s_c) l1_c c1_c k1_c
 have b_c:=U_c.binds (ps:=["items","cell"]) fun _ _ _ _ _ _=>y1r fun _ _=>rfl
 have m_c:=PySem.W.mg_of X G a1_c
 have U_o:=z1c (st:=s_o) l1_o c1_o k1_o
 have b_o:=U_o.binds (ps:=["cell"]) fun _ _ _ _ _ _=>y1s fun _=>rfl
 have m_o:=PySem.W.mg_of X G a1_o
 have U_i:=z1c (st:=s_i) l1_i c1_i k1_i
 have b_i:=U_i.binds (ps:=["cell","P","size"]) fun _ _ _ _ _ _=>z6f fun _ _ _=>rfl
 have m_i:=PySem.W.mg_of X G a1_i
 have U_v:=z1c (st:=s_v) l1_v c1_v k1_v
 have b_v:=U_v.binds (ps:=["cell","more","P","many"]) fun _ _ _ _ _ _=>x4b fun _ _ _ _=>rfl
 have m_v:=PySem.W.mg_of X G a1_v
 have U_n:=z1c (st:=s_n) l1_n c1_n k1_n
 have b_n:=U_n.binds (ps:=["cells","P","many","agains"]) fun _ _ _ _ _ _=>x4b fun _ _ _ _=>rfl
 have m_n:=PySem.W.mg_of X G a1_n
 have U_r:=z1c (st:=s_r) l1_r c1_r k1_r
 have b_r:=U_r.binds (ps:=["cell"]) fun _ _ _ _ _ _=>y1s fun _=>rfl
 have m_r:=PySem.W.mg_of X G a1_r
 have U_s:=z1c (st:=s_s) l1_s c1_s k1_s
 have b_s:=U_s.binds (ps:=["found"]) fun _ _ _ _ _ _=>y1s fun _=>rfl
 have m_s:=PySem.W.mg_of X G a1_s
 have U_l:=z1c (st:=s_l) l1_l c1_l k1_l
 have b_l:=U_l.binds (ps:=["found","P","many"]) fun _ _ _ _ _ _=>z6f fun _ _ _=>rfl
 have m_l:=PySem.W.mg_of X G a1_l
 have U_x:=z1c (st:=s_x) l1_x c1_x k1_x
 have b_x:=U_x.binds (ps:=["items","place"]) fun _ _ _ _ _ _=>y1r fun _ _=>rfl
 have m_x:=PySem.W.mg_of X G a1_x
 have U_j:=z1c (st:=s_j) l1_j c1_j k1_j
 have b_j:=U_j.binds (ps:=["items","place"]) fun _ _ _ _ _ _=>y1r fun _ _=>rfl
 have m_j:=PySem.W.mg_of X G a1_j
 have U_f:=z1c (st:=s_f) l1_f c1_f k1_f
 have b_f:=U_f.binds (ps:=["items"]) fun _ _ _ _ _ _=>y1s fun _=>rfl
 have m_f:=PySem.W.mg_of X G a1_f
 have U_d:=z1c (st:=s_d) l1_d c1_d k1_d
 have b_d:=U_d.binds (ps:=["item"]) fun _ _ _ _ _ _=>y1s fun _=>rfl
 have m_d:=PySem.W.mg_of X G a1_d
 have U_z:=z1c (st:=s_z) l1_z c1_z k1_z
 have b_z:=U_z.binds (ps:=["width","place"]) fun _ _ _ _ _ _=>y1r fun _ _=>rfl
 have m_z:=PySem.W.mg_of X G a1_z
 have U_E:=z1c (st:=s_E) l1_E c1_E k1_E
 have b_E:=U_E.binds (ps:=["many"]) fun _ _ _ _ _ _=>y1s fun _=>rfl
 have m_E:=PySem.W.mg_of X G a1_E
 have U_K:=z1c (st:=s_K) l1_K c1_K k1_K
 have b_K:=U_K.binds (ps:=["many"]) fun _ _ _ _ _ _=>y1s fun _=>rfl
 have m_K:=PySem.W.mg_of X G a1_K
 have U_m:=z1c (st:=s_m) l1_m c1_m k1_m
 have b_m:=U_m.binds (ps:=["form","table","place"]) fun _ _ _ _ _ _=>z6f fun _ _ _=>rfl
 have m_m:=PySem.W.mg_of X G a1_m
 have U_on:=z1c (st:=s_on) l1_on c1_on k1_on
 have b_on:=U_on.binds (ps:=["P","n"]) fun _ _ _ _ _ _=>y1r fun _ _=>rfl
 have m_on:=PySem.W.mg_of X G a1_on
 have U_p:=z1c (st:=s_p) l1_p c1_p k1_p
 have b_p:=U_p.binds (ps:=["P","table","form"]) fun _ _ _ _ _ _=>z6f fun _ _ _=>rfl
 have m_p:=PySem.W.mg_of X G a1_p
 have U_I:=z1c (st:=s_I) l1_I c1_I k1_I
 have b_I:=U_I.binds (ps:=["P","one","other"]) fun _ _ _ _ _ _=>z6f fun _ _ _=>rfl
 have m_I:=PySem.W.mg_of X G a1_I
 have U_B:=z1c (st:=s_B) l1_B c1_B k1_B
 have b_B:=U_B.binds (ps:=["P","table","n"]) fun _ _ _ _ _ _=>z6f fun _ _ _=>rfl
 have m_B:=PySem.W.mg_of X G a1_B
 have U_u:=z1c (st:=s_u) l1_u c1_u k1_u
 have b_u:=U_u.binds (ps:=["rungs","n"]) fun _ _ _ _ _ _=>y1r fun _ _=>rfl
 have m_u:=PySem.W.mg_of X G a1_u
 have U_D:=z1c (st:=s_D) l1_D c1_D k1_D
 have b_D:=U_D.binds (ps:=["P","table","n"]) fun _ _ _ _ _ _=>z6f fun _ _ _=>rfl
 have m_D:=PySem.W.mg_of X G a1_D
 have U_y:=z1c (st:=s_y) l1_y c1_y k1_y
 have b_y:=U_y.binds (ps:=["many","x","form"]) fun _ _ _ _ _ _=>z6f fun _ _ _=>rfl
 have m_y:=PySem.W.mg_of X G a1_y
 have U_w:=z1c (st:=s_w) l1_w c1_w k1_w
 have b_w:=U_w.binds (ps:=["P","many","items"]) fun _ _ _ _ _ _=>z6f fun _ _ _=>rfl
 have m_w:=PySem.W.mg_of X G a1_w
 have U_b:=z1c (st:=s_b) l1_b c1_b k1_b
 have b_b:=U_b.binds (ps:=["P","many","item"]) fun _ _ _ _ _ _=>z6f fun _ _ _=>rfl
 have m_b:=PySem.W.mg_of X G a1_b
 have U_F:=z1c (st:=s_F) l1_F c1_F k1_F
 have b_F:=U_F.binds (ps:=["P","form","stand"]) fun _ _ _ _ _ _=>z6f fun _ _ _=>rfl
 have m_F:=PySem.W.mg_of X G a1_F
 have U_A:=z1c (st:=s_A) l1_A c1_A k1_A
 have b_A:=U_A.binds (ps:=["P","table","stand"]) fun _ _ _ _ _ _=>z6f fun _ _ _=>rfl
 have m_A:=PySem.W.mg_of X G a1_A
 have U_H:=z1c (st:=s_H) l1_H c1_H k1_H
 have b_H:=U_H.binds (ps:=["P","n"]) fun _ _ _ _ _ _=>y1r fun _ _=>rfl
 have m_H:=PySem.W.mg_of X G a1_H
 have U_G:=z1c (st:=s_G) l1_G c1_G k1_G
 have b_G:=U_G.binds (ps:=["P","row","number"]) fun _ _ _ _ _ _=>z6f fun _ _ _=>rfl
 have m_G:=PySem.W.mg_of X G a1_G
 have U_h:=z1c (st:=s_h) l1_h c1_h k1_h
 have b_h:=U_h.binds (ps:=["P","x","form"]) fun _ _ _ _ _ _=>z6f fun _ _ _=>rfl
 have m_h:=PySem.W.mg_of X G a1_h
 have U_k:=z1c (st:=s_k) l1_k c1_k k1_k
 have b_k:=U_k.binds (ps:=["P","x","form"]) fun _ _ _ _ _ _=>z6f fun _ _ _=>rfl
 have m_k:=PySem.W.mg_of X G a1_k
 have U_C:=z1c (st:=s_C) l1_C c1_C k1_C
 have b_C:=U_C.binds (ps:=["P","many","items"]) fun _ _ _ _ _ _=>z6f fun _ _ _=>rfl
 have m_C:=PySem.W.mg_of X G a1_C
 have U_e:=z1c (st:=s_e) l1_e c1_e k1_e
 have b_e:=U_e.binds (ps:=["P","many","n","items"]) fun _ _ _ _ _ _=>x4b fun _ _ _ _=>rfl
 have m_e:=PySem.W.mg_of X G a1_e
 have U_g:=z1c (st:=s_g) l1_g c1_g k1_g
 have b_g:=U_g.binds (ps:=["P","many","item"]) fun _ _ _ _ _ _=>z6f fun _ _ _=>rfl
 have m_g:=PySem.W.mg_of X G a1_g
 have U_J:=z1c (st:=s_J) l1_J c1_J k1_J
 have b_J:=U_J.binds (ps:=["P","many","items"]) fun _ _ _ _ _ _=>z6f fun _ _ _=>rfl
 have m_J:=PySem.W.mg_of X G a1_J
 have U_law:=z1c (st:=y1o) l1_law c1_law k1_law
 have b_law:=U_law.binds (ps:=["script"]) fun _ _ _ _ _ _=>y1s fun _=>rfl
 have m_law:=PySem.W.mg_of X G a1_law
 have m_all:=PySem.W.mg_none_of X G z_all
 have m_any:=PySem.W.mg_none_of X G z_any
 have m_bool:=PySem.W.mg_none_of X G z_bool
 have m_enumerate:=PySem.W.mg_none_of X G z_enumerate
 have m_int:=PySem.W.mg_none_of X G z_int
 have m_isinstance:=PySem.W.mg_none_of X G z_isinstance
 have m_len:=PySem.W.mg_none_of X G z_len
 have m_list:=PySem.W.mg_none_of X G z_list
 have m_max:=PySem.W.mg_none_of X G z_max
 have m_min:=PySem.W.mg_none_of X G z_min
 have m_range:=PySem.W.mg_none_of X G z_range
 have m_reversed:=PySem.W.mg_none_of X G z_reversed
 have m_sum:=PySem.W.mg_none_of X G z_sum
 have m_tuple:=PySem.W.mg_none_of X G z_tuple
 have m_NoNumber:=PySem.W.mg_of X G a1_NoNumber
 have cl_NoNumber:XCls K a_NoNumber:=⟨xa_NoNumber,xb_NoNumber,xc_NoNumber,xd_NoNumber,xe_NoNumber,xf_NoNumber,by rw[xg_NoNumber];rfl⟩
 have m_Lossy:=PySem.W.mg_of X G a1_Lossy
 have cl_Lossy:XCls K a_Lossy:=⟨xa_Lossy,xb_Lossy,xc_Lossy,xd_Lossy,xe_Lossy,xf_Lossy,by rw[xg_Lossy];rfl⟩
 have m_LongError:=PySem.W.mg_of X G a1_LongError
 have cl_LongError:XCls K a_LongError:=⟨xa_LongError,xb_LongError,xc_LongError,xd_LongError,xe_LongError,xf_LongError,by rw[xg_LongError];rfl⟩
 have X_Lossy:XOk K mg .lossy a_Lossy:=⟨a1_Lossy,m_Lossy,ex_Lossy⟩
 have X_NoNumber:XOk K mg .noNumber a_NoNumber:=⟨a1_NoNumber,m_NoNumber,ex_NoNumber⟩
 refine⟨PySem.W.fnOf "law" "law" (z0n y1o) (z0m y1o) (z0d y1o) .none kV_law dc_law pm_law an_law cd_law ct_law,fun s v=>.of_eq rfl,fun base _ _=>?_⟩
 have G_q:=f_q (P:=l.prog) (w:=w) (mg:=mg) (base:=base) U_q b_q m_len
 have G_t:=f_t (P:=l.prog) (w:=w) (mg:=mg) (base:=base) U_t b_t m_len
 have A_a:=f_a (P:=l.prog) (w:=w) (mg:=mg) (base:=base) U_a b_a m_a m_len m_range
 have G_a:=(A_a 12)
 have G_c:=f_c (P:=l.prog) (w:=w) (mg:=mg) (base:=base) U_c b_c m_len
 have G_o:=f_o (P:=l.prog) (w:=w) (mg:=mg) (base:=base) U_o b_o
 have G_i:=f_i (P:=l.prog) (w:=w) (mg:=mg) (base:=base) U_i b_i m_range m_tuple
 have G_v:=f_v (P:=l.prog) (w:=w) (mg:=mg) (base:=base) U_v b_v G_i m_i
 have G_n:=f_n (P:=l.prog) (w:=w) (mg:=mg) (base:=base) U_n b_n G_o m_o G_v m_v m_len m_max m_min m_range m_tuple
 have G_r:=f_r (P:=l.prog) (w:=w) (mg:=mg) (base:=base) U_r b_r m_any m_range
 have G_s:=f_s (P:=l.prog) (w:=w) (mg:=mg) (base:=base) U_s b_s m_bool m_int m_isinstance
 have G_l:=f_l (P:=l.prog) (w:=w) (mg:=mg) (base:=base) U_l b_l G_s m_s m_all m_isinstance m_len m_tuple
 have A_x:=f_x (P:=l.prog) (w:=w) (mg:=mg) (base:=base) U_x b_x m_x m_len
 have G_x:=(A_x 12)
 have A_j:=f_j (P:=l.prog) (w:=w) (mg:=mg) (base:=base) U_j b_j m_j m_len
 have G_j:=(A_j 12)
 have A_f:=f_f (P:=l.prog) (w:=w) (mg:=mg) (base:=base) U_f b_f m_f U_d b_d m_d m_enumerate
 have G_f:=(A_f 12).1
 have G_d:=(A_f 12).2
 have G_z:=f_z (P:=l.prog) (w:=w) (mg:=mg) (base:=base) U_z b_z m_range m_tuple
 have G_E:=f_E (P:=l.prog) (w:=w) (mg:=mg) (base:=base) U_E b_E G_z m_z m_range m_tuple
 have G_K:=f_K (P:=l.prog) (w:=w) (mg:=mg) (base:=base) U_K b_K G_z m_z m_range m_tuple
 have G_m:=f_m (P:=l.prog) (w:=w) (mg:=mg) (base:=base) U_m b_m m_len m_range m_sum
 have G_on:=f_on (P:=l.prog) (w:=w) (mg:=mg) (base:=base) U_on b_on
 have G_p:=f_p (P:=l.prog) (w:=w) (mg:=mg) (base:=base) U_p b_p G_m m_m m_len G_on m_on m_range m_tuple
 have G_I:=f_I (P:=l.prog) (w:=w) (mg:=mg) (base:=base) U_I b_I G_p m_p m_tuple
 have G_B:=f_B (P:=l.prog) (w:=w) (mg:=mg) (base:=base) U_B b_B m_range G_I m_I
 have G_u:=f_u (P:=l.prog) (w:=w) (mg:=mg) (base:=base) U_u b_u m_enumerate
 have G_D:=f_D (P:=l.prog) (w:=w) (mg:=mg) (base:=base) U_D b_D G_K m_K G_B m_B m_len G_u m_u G_I m_I
 have G_y:=f_y (P:=l.prog) (w:=w) (mg:=mg) (base:=base) U_y b_y G_K m_K m_list m_tuple
 have A_w:=f_w (P:=l.prog) (w:=w) (mg:=mg) (base:=base) U_w b_w m_w U_b b_b m_b G_K m_K G_I m_I G_D m_D G_y m_y
 have G_w:=(A_w 12).1
 have G_b:=(A_w 12).2
 have G_F:=f_F (P:=l.prog) (w:=w) (mg:=mg) (base:=base) U_F b_F m_len G_on m_on m_range m_sum
 have G_A:=f_A (P:=l.prog) (w:=w) (mg:=mg) (base:=base) U_A b_A m_tuple G_F m_F
 have G_H:=f_H (P:=l.prog) (w:=w) (mg:=mg) (base:=base) U_H b_H m_NoNumber G_on m_on X_NoNumber
 have G_G:=f_G (P:=l.prog) (w:=w) (mg:=mg) (base:=base) U_G b_G G_on m_on m_tuple
 have G_h:=f_h (P:=l.prog) (w:=w) (mg:=mg) (base:=base) U_h b_h G_H m_H m_list G_G m_G m_tuple
 have G_k:=f_k (P:=l.prog) (w:=w) (mg:=mg) (base:=base) U_k b_k m_Lossy G_h m_h X_Lossy
 have A_C:=f_C (P:=l.prog) (w:=w) (mg:=mg) (base:=base) U_C b_C m_C U_e b_e m_e U_g b_g m_g m_reversed m_tuple G_k m_k
 have G_C:=(A_C 12).1
 have G_e:=(A_C 12).2.1
 have G_g:=(A_C 12).2.2
 have G_J:=f_J (P:=l.prog) (w:=w) (mg:=mg) (base:=base) U_J b_J G_x m_x G_j m_j G_f m_f G_E m_E G_w m_w G_A m_A G_C m_C
 have G_law:=x7t (P:=l.prog) (w:=w) (mg:=mg) (base:=base) U_law b_law G_q m_q G_t m_t G_a m_a G_c m_c G_n m_n G_r m_r G_l m_l G_s m_s m_all m_int m_isinstance m_len G_J m_J m_range G_w m_w m_tuple G_A m_A
 exact G_law.okN
end Row
open PySem PySem.W PyProof.Rows
set_option maxRecDepth 100000 in
set_option maxHeartbeats 0 in
theorem PySem.Challenge.cw_longrounds_k44_what_is_lost_holds : PySem.Challenge.rw_longrounds_k44_what_is_lost.Holds := by
 w_on;o_law;k_head;(case hw=>w_witness2)
 k_fill
 refine L3.walk_ofL (sp:=L3.spN L3.c_law) (l:=PySem.Challenge.rw_longrounds_k44_what_is_lost) (n:=63) (k:=19) (x:="script") (CX:=fun w=>L3.CXE PySem.Challenge.rw_longrounds_k44_what_is_lost.prog w) rfl (by decide) rfl ⟨rfl,by decide,by decide⟩ (fun w h Y=>PySem.W.kIn_of Y) ?F ?S ?C
 case F =>
  intro w mg fa h KX G hmg
  refine' Row.all_mk KX G hmg ?a1_q ?l1_q ?c1_q ?k1_q ?a1_t ?l1_t ?c1_t ?k1_t ?a1_a ?l1_a ?c1_a ?k1_a ?a1_c ?l1_c ?c1_c ?k1_c ?a1_o ?l1_o ?c1_o ?k1_o ?a1_i ?l1_i ?c1_i ?k1_i ?a1_v ?l1_v ?c1_v ?k1_v ?a1_n ?l1_n ?c1_n ?k1_n ?a1_r ?l1_r ?c1_r ?k1_r ?a1_s ?l1_s ?c1_s ?k1_s ?a1_l ?l1_l ?c1_l ?k1_l ?a1_x ?l1_x ?c1_x ?k1_x ?a1_j ?l1_j ?c1_j ?k1_j ?a1_f ?l1_f ?c1_f ?k1_f ?a1_d ?l1_d ?c1_d ?k1_d ?a1_z ?l1_z ?c1_z ?k1_z ?a1_E ?l1_E ?c1_E ?k1_E ?a1_K ?l1_K ?c1_K ?k1_K ?a1_m ?l1_m ?c1_m ?k1_m ?a1_on ?l1_on ?c1_on ?k1_on ?a1_p ?l1_p ?c1_p ?k1_p ?a1_I ?l1_I ?c1_I ?k1_I ?a1_B ?l1_B ?c1_B ?k1_B ?a1_u ?l1_u ?c1_u ?k1_u ?a1_D ?l1_D ?c1_D ?k1_D ?a1_y ?l1_y ?c1_y ?k1_y ?a1_w ?l1_w ?c1_w ?k1_w ?a1_b ?l1_b ?c1_b ?k1_b ?a1_F ?l1_F ?c1_F ?k1_F ?a1_A ?l1_A ?c1_A ?k1_A ?a1_H ?l1_H ?c1_H ?k1_H ?a1_G ?l1_G ?c1_G ?k1_G ?a1_h ?l1_h ?c1_h ?k1_h ?a1_k ?l1_k ?c1_k ?k1_k ?a1_C ?l1_C ?c1_C ?k1_C ?a1_e ?l1_e ?c1_e ?k1_e ?a1_g ?l1_g ?c1_g ?k1_g ?a1_J ?l1_J ?c1_J ?k1_J ?a1_law ?l1_law ?c1_law ?k1_law ?z_all ?z_any ?z_bool ?z_enumerate ?z_int ?z_isinstance ?z_len ?z_list ?z_max ?z_min ?z_range ?z_reversed ?z_sum ?z_tuple ?a1_NoNumber ?a1_Lossy ?a1_LongError ?xa_NoNumber ?xb_NoNumber ?xc_NoNumber ?xd_NoNumber ?xe_NoNumber ?xf_NoNumber ?xg_NoNumber ?xa_Lossy ?xb_Lossy ?xc_Lossy ?xd_Lossy ?xe_Lossy ?xf_Lossy ?xg_Lossy ?xa_LongError ?xb_LongError ?xc_LongError ?xd_LongError ?xe_LongError ?xf_LongError ?xg_LongError ?zg_NoPrime ?zg_NoProgram ?zg_TooLong ?zg_NoText ?ex_Lossy ?ex_NoNumber
  (case a1_q=>k_is)
  (case l1_q=>k_is)
  (case c1_q=>k_is)
  (case k1_q=>k_is)
  (case a1_t=>k_is)
  (case l1_t=>k_is)
  (case c1_t=>k_is)
  (case k1_t=>k_is)
  (case a1_a=>k_is)
  (case l1_a=>k_is)
  (case c1_a=>k_is)
  (case k1_a=>k_is)
  (case a1_c=>k_is)
  (case l1_c=>k_is)
  (case c1_c=>k_is)
  (case k1_c=>k_is)
  (case a1_o=>k_is)
  (case l1_o=>k_is)
  (case c1_o=>k_is)
  (case k1_o=>k_is)
  (case a1_i=>k_is)
  (case l1_i=>k_is)
  (case c1_i=>k_is)
  (case k1_i=>k_is)
  (case a1_v=>k_is)
  (case l1_v=>k_is)
  (case c1_v=>k_is)
  (case k1_v=>k_is)
  (case a1_n=>k_is)
  (case l1_n=>k_is)
  (case c1_n=>k_is)
  (case k1_n=>k_is)
  (case a1_r=>k_is)
  (case l1_r=>k_is)
  (case c1_r=>k_is)
  (case k1_r=>k_is)
  (case a1_s=>k_is)
  (case l1_s=>k_is)
  (case c1_s=>k_is)
  (case k1_s=>k_is)
  (case a1_l=>k_is)
  (case l1_l=>k_is)
  (case c1_l=>k_is)
  (case k1_l=>k_is)
  (case a1_x=>k_is)
  (case l1_x=>k_is)
  (case c1_x=>k_is)
  (case k1_x=>k_is)
  (case a1_j=>k_is)
  (case l1_j=>k_is)
  (case c1_j=>k_is)
  (case k1_j=>k_is)
  (case a1_f=>k_is)
  (case l1_f=>k_is)
  (case c1_f=>k_is)
  (case k1_f=>k_is)
  (case a1_d=>k_is)
  (case l1_d=>k_is)
  (case c1_d=>k_is)
  (case k1_d=>k_is)
  (case a1_z=>k_is)
  (case l1_z=>k_is)
  (case c1_z=>k_is)
  (case k1_z=>k_is)
  (case a1_E=>k_is)
  (case l1_E=>k_is)
  (case c1_E=>k_is)
  (case k1_E=>k_is)
  (case a1_K=>k_is)
  (case l1_K=>k_is)
  (case c1_K=>k_is)
  (case k1_K=>k_is)
  (case a1_m=>k_is)
  (case l1_m=>k_is)
  (case c1_m=>k_is)
  (case k1_m=>k_is)
  (case a1_on=>k_is)
  (case l1_on=>k_is)
  (case c1_on=>k_is)
  (case k1_on=>k_is)
  (case a1_p=>k_is)
  (case l1_p=>k_is)
  (case c1_p=>k_is)
  (case k1_p=>k_is)
  (case a1_I=>k_is)
  (case l1_I=>k_is)
  (case c1_I=>k_is)
  (case k1_I=>k_is)
  (case a1_B=>k_is)
  (case l1_B=>k_is)
  (case c1_B=>k_is)
  (case k1_B=>k_is)
  (case a1_u=>k_is)
  (case l1_u=>k_is)
  (case c1_u=>k_is)
  (case k1_u=>k_is)
  (case a1_D=>k_is)
  (case l1_D=>k_is)
  (case c1_D=>k_is)
  (case k1_D=>k_is)
  (case a1_y=>k_is)
  (case l1_y=>k_is)
  (case c1_y=>k_is)
  (case k1_y=>k_is)
  (case a1_w=>k_is)
  (case l1_w=>k_is)
  (case c1_w=>k_is)
  (case k1_w=>k_is)
  (case a1_b=>k_is)
  (case l1_b=>k_is)
  (case c1_b=>k_is)
  (case k1_b=>k_is)
  (case a1_F=>k_is)
  (case l1_F=>k_is)
  (case c1_F=>k_is)
  (case k1_F=>k_is)
  (case a1_A=>k_is)
  (case l1_A=>k_is)
  (case c1_A=>k_is)
  (case k1_A=>k_is)
  (case a1_H=>k_is)
  (case l1_H=>k_is)
  (case c1_H=>k_is)
  (case k1_H=>k_is)
  (case a1_G=>k_is)
  (case l1_G=>k_is)
  (case c1_G=>k_is)
  (case k1_G=>k_is)
  (case a1_h=>k_is)
  (case l1_h=>k_is)
  (case c1_h=>k_is)
  (case k1_h=>k_is)
  (case a1_k=>k_is)
  (case l1_k=>k_is)
  (case c1_k=>k_is)
  (case k1_k=>k_is)
  (case a1_C=>k_is)
  (case l1_C=>k_is)
  (case c1_C=>k_is)
  (case k1_C=>k_is)
  (case a1_e=>k_is)
  (case l1_e=>k_is)
  (case c1_e=>k_is)
  (case k1_e=>k_is)
  (case a1_g=>k_is)
  (case l1_g=>k_is)
  (case c1_g=>k_is)
  (case k1_g=>k_is)
  (case a1_J=>k_is)
  (case l1_J=>k_is)
  (case c1_J=>k_is)
  (case k1_J=>k_is)
  (case a1_law=>k_is)
  (case l1_law=>k_is)
  (case c1_law=>k_is)
  (case k1_law=>k_is)
  (case z_all=>k_is)
  (case z_any=>k_is)
  (case z_bool=>k_is)
  (case z_enumerate=>k_is)
  (case z_int=>k_is)
  (case z_isinstance=>k_is)
  (case z_len=>k_is)
  (case z_list=>k_is)
  (case z_max=>k_is)
  (case z_min=>k_is)
  (case z_range=>k_is)
  (case z_reversed=>k_is)
  (case z_sum=>k_is)
  (case z_tuple=>k_is)
  (case a1_NoNumber=>k_is)
  (case a1_Lossy=>k_is)
  (case a1_LongError=>k_is)
  (case xa_NoNumber=>k_is)
  (case xb_NoNumber=>k_is)
  (case xc_NoNumber=>k_is)
  (case xd_NoNumber=>k_is)
  (case xe_NoNumber=>k_is)
  (case xf_NoNumber=>k_is)
  (case xg_NoNumber=>k_is)
  (case xa_Lossy=>k_is)
  (case xb_Lossy=>k_is)
  (case xc_Lossy=>k_is)
  (case xd_Lossy=>k_is)
  (case xe_Lossy=>k_is)
  (case xf_Lossy=>k_is)
  (case xg_Lossy=>k_is)
  (case xa_LongError=>k_is)
  (case xb_LongError=>k_is)
  (case xc_LongError=>k_is)
  (case xd_LongError=>k_is)
  (case xe_LongError=>k_is)
  (case xf_LongError=>k_is)
  (case xg_LongError=>k_is)
  (case zg_NoPrime=>k_is)
  (case zg_NoProgram=>k_is)
  (case zg_TooLong=>k_is)
  (case zg_NoText=>k_is)
  (case ex_Lossy=>k_exc)
  (case ex_NoNumber=>k_exc)
 case S=>exact fun K H a ns hl hS=>L3.law_true L3.law_k44 hl hS
 case C=>exact fun w H s e s' h=>L3.cxe_false h


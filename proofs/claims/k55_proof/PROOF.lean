import PyProof.Rows.All
import Wide.All
import OpenK.AllK
import Wide.FinOn
import Lean
import PyProof.EqAt
import PyProof.EqKinds
import PyProof.TupleCall
import PySem.Challenge.RW_longrounds_k55_whole_shut_off_for_ever
set_option Elab.async false
set_option linter.all false
set_option maxRecDepth 100000
set_option genSizeOf false
set_option maxHeartbeats 4000000
noncomputable section
namespace L2
open PySem PySem.Spec PyProof.Rows
noncomputable abbrev Key:=Sum Int Str
noncomputable def x8t:Key->Value->Bool
 | .inl k,v=>Value.isInt k v
 | .inr x,v=>Value.isStrOf x v
noncomputable def keyH(w:World):Key->Int
 | .inl k=>hashInt k
 | .inr x=>hashStr w x
theorem z2o:∀{k:Key} {v:Value},x8t k v=true->(∃i t,k=Sum.inl i/\v=Value.int i t)∨(∃x t,k=Sum.inr x/\v=Value.str x t)
 | .inl i,v,h=>by
   obtain⟨t,e⟩:=Value.isInt_shape (k:=i) (v:=v) h
   exact .inl ⟨i,t,rfl,e⟩
 | .inr x,v,h=>by
   obtain⟨t,e⟩:=Value.isStrOf_shape (x:=x) (v:=v) h
   exact .inr ⟨x,t,rfl,e⟩
theorem x8s(a b:Int):decide ((Sum.inl a:Key)=Sum.inl b)=(a==b):=by
 by_cases e:a=b
 ·subst e;simp
 ·have h:¬(Sum.inl a:Key)=Sum.inl b:=fun q=>e (Sum.inl.inj q)
  rw[decide_eq_false h]
  exact(beq_eq_false_iff_ne.mpr e).symm
theorem x8p(a b:Str):decide ((Sum.inr a:Key)=Sum.inr b)=decide (a=b):=by
 by_cases e:a=b
 ·subst e;simp
 ·have h:¬(Sum.inr a:Key)=Sum.inr b:=fun q=>e (Sum.inr.inj q)
  rw[decide_eq_false h,decide_eq_false e]
theorem x8r(a:Int)(b:Str):decide ((Sum.inl a:Key)=Sum.inr b)=false:=decide_eq_false (fun q=>nomatch q)
theorem x8q(a:Str)(b:Int):decide ((Sum.inr a:Key)=Sum.inl b)=false:=decide_eq_false (fun q=>nomatch q)
noncomputable def x0w(prog:Program)(w:World):PySem.KeyKind prog w Key where
 is:=x8t
 hash:=keyH w
 inj:=fun v a b ha hb=>by
  rcases z2o ha with ⟨i,t,rfl,rfl⟩ | ⟨x,t,rfl,rfl⟩
  ·rcases z2o hb with ⟨j,u,rfl,e⟩ | ⟨y,u,rfl,e⟩
   ·injection e with e1 _;rw[e1]
   ·exact nomatch e
  ·rcases z2o hb with ⟨j,u,rfl,e⟩ | ⟨y,u,rfl,e⟩
   ·exact nomatch e
   ·injection e with e1 _;rw[e1]
 byValue:=fun k v h=>by
  rcases z2o h with ⟨i,t,rfl,rfl⟩ | ⟨x,t,rfl,rfl⟩<;>rfl
 pyHash:=fun hv h=>by
  rcases z2o hv with ⟨i,t,rfl,rfl⟩ | ⟨x,t,rfl,rfl⟩
  ·exact wpAny_pyHash_int h
  ·exact wpAny_pyHash_str h
 eqBool:=fun hu hv h=>by
  rcases z2o hu with ⟨i,t,rfl,rfl⟩ | ⟨x,t,rfl,rfl⟩
  ·rcases z2o hv with ⟨j,u,rfl,rfl⟩ | ⟨y,u,rfl,rfl⟩
   ·rw[x8s] at h;exact wpAny_eqBool_int h
   ·rw[x8r] at h;exact SeqAt.EqAt.int_str i t y u _ _ _ _ h
  ·rcases z2o hv with ⟨j,u,rfl,rfl⟩ | ⟨y,u,rfl,rfl⟩
   ·rw[x8q] at h;exact SeqAt.EqAt.str_int x t j u _ _ _ _ h
   ·rw[x8p] at h;exact wpAny_eqBool_str h
 «strs»:=fun k x t v h=>by
  rcases z2o h with ⟨i,u,rfl,e⟩ | ⟨y,u,rfl,e⟩
  ·exact nomatch e
  ·injection e with e1 _
   subst e1
   cases v<;>rfl
end L2
namespace L2
open PySem PySem.Spec PyProof.Rows
inductive V where
 | non | bl (b:Bool) | int (i:Int) | str (x:Str) | byt (b:Array UInt8) | flt (b:UInt64) | ref (a:Addr) | ty (n:String)
 deriving DecidableEq
noncomputable def RelV:V->Value->Prop
 | .non,u=>u=Value.none
 | .bl b,u=>u=Value.bool b
 | .int i,u=>∃t,u=Value.int i t
 | .str x,u=>∃t,u=Value.str x t
 | .byt b,u=>∃t,u=Value.bytes b t
 | .flt b,u=>∃t,u=Value.float b t
 | .ref a,u=>u=Value.ref a
 | .ty n,u=>u=Value.type n
noncomputable abbrev Vals:List V->List Value->Prop:=Paired RelV
theorem Vals.length{xs:List V}{us:List Value}(r:Vals xs us):xs.length=us.length:=Paired.length r
theorem Vals.get:∀{xs:List V} {us:List Value} {i:Nat} {x:V},Vals xs us->xs[i]? = some x->∃u,us[i]? = some u/\RelV x u
 | _,_,_,_,.nil,e=>by simp at e
 | _,_,0,_,.cons r _,e=>by simp at e;subst e;exact⟨_,rfl,r⟩
 | _,_,i+1,x,.cons _ t,e=>by
   obtain⟨u,h1,h2⟩:=Vals.get (i:=i) (x:=x) t (by simpa using e)
   exact⟨u,by simpa using h1,h2⟩
theorem Vals.set{x:V}{u:Value}(r:RelV x u):∀{xs:List V} {us:List Value} (i:Nat),Vals xs us->Vals (xs.set i x) (us.set i u)
 | _,_,_,.nil=>.nil
 | _,_,0,.cons _ t=>.cons r t
 | _,_,i+1,.cons q t=>.cons q (Vals.set r i t)
theorem Vals.append:∀{xs ys:List V} {us ws:List Value},Vals xs us->Vals ys ws->Vals (xs++ys) (us++ws)
 | _,_,_,_,.nil,s=>s
 | _,_,_,_,.cons r t,s=>.cons r (Vals.append t s)
theorem Vals.take:∀{xs:List V} {us:List Value} (n:Nat),Vals xs us->Vals (xs.take n) (us.take n)
 | _,_,0,_=>.nil
 | _,_,_+1,.nil=>.nil
 | _,_,n+1,.cons r t=>.cons r (Vals.take n t)
theorem Vals.drop:∀{xs:List V} {us:List Value} (n:Nat),Vals xs us->Vals (xs.drop n) (us.drop n)
 | _,_,0,r=>r
 | _,_,_+1,.nil=>.nil
 | _,_,n+1,.cons _ t=>Vals.drop n t
noncomputable def RelO:Option V->Option Value->Prop
 | some v,some u=>RelV v u
 | none,none=>True
 | _,_=>False
noncomputable def KV{κ:Type}:List (κ×V)->List (κ×Value)->Prop:=Paired fun(p:κ×V) (q:κ×Value)=>p.1=q.1/\RelV p.2 q.2
noncomputable def kV:Key->V
 | .inl i=>.int i
 | .inr x=>.str x
inductive HO where
 | lst (xs:List V)
 | tup (xs:List V)
 | dK (kvs:List (Key×V)) | dT (kvs:List (List Key×V))
 | set (S:Int->Bool) (n:Nat)
 | ins (C dx:Addr) (fs:List (Str×V))
 | own (x:Addr)
 | xd (fs:List (Str×V))
 | met (f x:Addr)
 | rng (lo hi:Int)
 | frz (o:Obj) (u:HO)
 | tbl (ps:Array Value)
 | ext (φ:Heap->Prop)
noncomputable abbrev Hp:=Addr->Option HO
noncomputable def upd(H:Hp)(a:Addr)(o:HO):Hp:=fun b=>if b=a then some o else H b
theorem z0v{H:Hp}{a:Addr}{o:HO}:upd H a o a=some o:=by unfold upd;rw[if_pos rfl]
theorem z0q{H:Hp}{a b:Addr}{o:HO}(h:b≠a):upd H a o b=H b:=by unfold upd;rw[if_neg h]
theorem z0p{H:Hp}{a b:Addr}{o:HO}(h:H a=some o)(h':H b=none):a≠b:=by
 intro e;subst e;rw[h] at h';cases h'
section
variable (P:Program)(w:World)
noncomputable def z7z(H:Hp)(h:Heap)(a:Addr):HO->Prop
 | .lst xs=>xs.length<=sizeLine/\∃(its:List Value) (n:Nat),Vals xs its/\h.get? a=some { cls:=.type "list",data:=.seq its.toArray n }
 | .tup xs=>xs.length<=sizeLine/\∃its:List Value,Vals xs its/\IsTup h a its.toArray
 | .dK kvs=>kvs.length<=sizeLine/\(a==sysModules)=false/\∃vs,KV kvs vs/\h.DictOf (x0w P w) a vs
 | .dT kvs=>kvs.length<=sizeLine/\(a==sysModules)=false/\∃xs:List (List Key×Addr×Value),
    Paired (fun(p:List Key×V) (q:List Key×Addr×Value)=>p.1=q.1/\H q.2.1=some (.tup (p.1.map kV))/\RelV p.2 q.2.2) kvs xs /\
    ∃o es ep,h.get? a=some o/\o.ExactDict/\o.data = .dict es ep/\es.toList=xs.map (entryOfKey (tupleKind (x0w P w)))/\(xs.map (·.1)).Nodup
 | .set S n=>h.SetOf (intKind P w) a S n
 | .ins C dx fs=>H dx=some (.own a)/\fs.length<=1000/\dx≠a/\h.get? a=some (PySem.W.instObj C dx) /\
    ∃mA,h.Ns1 dx mA/\(∀f,RelO (fs.lookup f) (mA f))/\PySem.Within mA (fs.map (·.1))
 | .own _=>∃o,h.get? a=some o
 | .xd fs=>∃mA,h.Ns1 a mA/\∀f,RelO (fs.lookup f) (mA f)
 | .rng lo hi=>∃t u v,h.get? a=some { cls:=.type "range",data:=.fields #[.int lo t,.int hi u,.int 1 v] }
 | .frz o u=>h.get? a=some o/\z7z H h a u
 | .tbl ps=>h.get? a=some { cls:=.none,data:=.fields ps }
 | .met f x=>h.get? a=some (PySem.W.methodObj (.ref f) (.ref x))
 | .ext φ=>φ h/\(∃o,h.get? a=some o)/\∀h1 h2:Heap,φ h1->(∀o,h1.get? a=some o->h2.get? a=some o)->φ h2
noncomputable def HOk(H:Hp)(h:Heap):Prop:=∀a o,H a=some o->z7z P w H h a o
end
section
variable {P:Program}{w:World}{H H':Hp}{h h':Heap}{a:Addr}{o:HO}
theorem z7z.lt(x:z7z P w H h a o):a<h.objs.size:=by
 cases o with
 | lst xs=>obtain⟨_,_,_,_,e⟩:=x;exact Heap.lt_size e
 | tup xs=>obtain⟨_,_,_,p⟩:=x;exact p.lt
 | dK kvs=>obtain⟨_,_,_,_,o,_,_,e,_⟩:=x;exact Heap.lt_size e
 | dT kvs=>obtain⟨_,_,_,_,o,_,_,e,_⟩:=x;exact Heap.lt_size e
 | set S n=>obtain⟨o,_,_,_,e,_⟩:=x;exact Heap.lt_size e
 | ins C dx fs=>obtain⟨_,_,_,e,_⟩:=x;exact Heap.lt_size e
 | own y=>obtain⟨_,e⟩:=x;exact Heap.lt_size e
 | xd fs=>obtain⟨_,⟨_,_,_,e,_⟩,_⟩:=x;exact Heap.lt_size e
 | rng lo hi=>obtain⟨_,_,_,e⟩:=x;exact Heap.lt_size e
 | frz ob u=>obtain⟨e,_⟩:=x;exact Heap.lt_size e
 | tbl ps=>exact Heap.lt_size (show h.get? a=some _ from x)
 | met f y=>exact Heap.lt_size (show h.get? a=some _ from x)
 | ext φ=>obtain⟨_,⟨_,e⟩,_⟩:=x;exact Heap.lt_size e
theorem Paired.mapP{α β:Type}{F G:α->β->Prop}:∀{l₁:List α} {l₂:List β},Paired F l₁ l₂->(∀a b,F a b->G a b)->Paired G l₁ l₂
 | _,_,.nil,_=>.nil
 | _,_,.cons r t,f=>.cons (f _ _ r) (Paired.mapP t f)
theorem z7z.stay(x:z7z P w H h a o)(k:∀b u,(b=a∨H b=some (.own a))->h.get? b=some u->h'.get? b=some u)
 (ho:∀b,H b=some (.own a)->H' b=some (.own a)) (ht:∀b xs,H b=some (.tup xs)->H' b=some (.tup xs)):z7z P w H' h' a o:=by
 induction o with
 | lst xs=>obtain⟨z,its,n,r,e⟩:=x;exact⟨z,its,n,r,k _ _ (.inl rfl) e⟩
 | tup xs=>obtain⟨z,its,r,ob,e,c⟩:=x;exact⟨z,its,r,ob,k _ _ (.inl rfl) e,c⟩
 | dK kvs=>obtain⟨z,y,vs,r,ob,es,ep,e,c⟩:=x;exact⟨z,y,vs,r,ob,es,ep,k _ _ (.inl rfl) e,c⟩
 | dT kvs =>
   obtain⟨z,y,xs,r,ob,es,ep,e,c⟩:=x
   exact⟨z,y,xs,Paired.mapP r fun p q z=>⟨z.1,ht _ _ z.2.1,z.2.2⟩,ob,es,ep,k _ _ (.inl rfl) e,c⟩
 | set S n=>obtain⟨ob,es,ep,t,e,c⟩:=x;exact⟨ob,es,ep,t,k _ _ (.inl rfl) e,c⟩
 | ins C dx fs =>
   obtain⟨d,z,ne,e,mA,⟨od,es,ep,e2,c⟩,r⟩:=x
   exact⟨ho _ d,z,ne,k _ _ (.inl rfl) e,mA,⟨od,es,ep,k _ _ (.inr d) e2,c⟩,r⟩
 | own y=>obtain⟨ob,e⟩:=x;exact⟨ob,k _ _ (.inl rfl) e⟩
 | xd fs=>obtain⟨mA,⟨od,es,ep,e,c⟩,r⟩:=x;exact⟨mA,⟨od,es,ep,k _ _ (.inl rfl) e,c⟩,r⟩
 | rng lo hi=>obtain⟨t,u,v,e⟩:=x;exact⟨t,u,v,k _ _ (.inl rfl) e⟩
 | frz ob u ih=>obtain⟨e,q⟩:=x;exact⟨k _ _ (.inl rfl) e,ih q⟩
 | tbl ps =>
   have e:h.get? a=some { cls:=.none,data:=.fields ps }:=x
   show h'.get? a=some { cls:=.none,data:=.fields ps }
   exact k a _ (.inl rfl) e
 | met f y =>
   have e:h.get? a=some (PySem.W.methodObj (.ref f) (.ref y)):=x
   show h'.get? a=some (PySem.W.methodObj (.ref f) (.ref y))
   exact k a _ (.inl rfl) e
 | ext φ=>obtain⟨p,⟨o,e⟩,st⟩:=x;exact⟨st _ _ p fun o q=>k _ _ (.inl rfl) q,⟨o,k _ _ (.inl rfl) e⟩,st⟩
theorem HOk.lt(x:HOk P w H h)(e:H a=some o):a<h.objs.size:=(x a o e).lt
theorem HOk.fresh(x:HOk P w H h)(e:h.objs.size<=a):H a=none:=by
 cases q:H a with
 | none=>rfl
 | some u=>exact absurd (Nat.lt_of_lt_of_le (x.lt q) e) (Nat.lt_irrefl _)
theorem HOk.kept(x:HOk P w H h)(k:∀b u,h.get? b=some u->h'.get? b=some u):HOk P w H h':=fun a o e =>
 (x a o e).stay (fun b u _ q=>k b u q) (fun _ q=>q) fun _ _ q=>q
theorem HOk.laid(x:HOk P w H h)(k:∀b u,h.get? b=some u->h'.get? b=some u)(hp:h.objs.size<=a)(new:z7z P w (upd H a o) h' a o):HOk P w (upd H a o) h':=fun b u e=>by
 have hn:=x.fresh hp
 by_cases hb:b=a
 ·subst hb;rw[z0v] at e;cases e;exact new
 ·rw[z0q hb] at e
  exact(x b u e).stay (fun c v _ q=>k c v q) (fun c q=>by rw[z0q (z0p q hn)];exact q) fun c xs q=>by rw[z0q (z0p q hn)];exact q
end
noncomputable def Rd(H:Hp)(a:Addr)(u:HO):Prop:=H a=some u∨∃o,H a=some (.frz o u)
theorem Rd.ok{P:Program}{w:World}{H:Hp}{h:Heap}{a:Addr}{u:HO}(r:Rd H a u)(x:HOk P w H h):z7z P w H h a u:=by
 rcases r with r | ⟨o,r⟩
 ·exact x a u r
 ·obtain⟨_,q⟩:=x a _ r
  exact q
noncomputable def Mut:Option HO->Prop
 | some (.lst _)=>True
 | some (.dK _)=>True
 | some (.dT _)=>True
 | some (.set _ _)=>True
 | some (.ins _ _ _)=>True
 | some (.ext _)=>True
 | _=>False
section
variable {P:Program}{w:World}{H:Hp}{h h':Heap}{x e:Addr}{o':HO}
theorem HOk.write(ok:HOk P w H h)(mu:Mut (H x))(he:e=x∨H e=some (.own x))(k:∀b u,b≠e->h.get? b=some u->h'.get? b=some u)(heo:∃u,h'.get? e=some u)
 (new:z7z P w (upd H x o') h' x o'):HOk P w (upd H x o') h':=fun b u q=>by
 have nown:∀c y,H c=some (.own y)->c≠x:=fun c y r z=>by subst z;rw[r] at mu;exact mu
 have ntup:∀c xs,H c=some (.tup xs)->c≠x:=fun c xs r z=>by subst z;rw[r] at mu;exact mu
 by_cases hb:b=x
 ·subst hb;rw[z0v] at q;cases q;exact new
 ·rw[z0q hb] at q
  by_cases hbe:b=e
  ·have q':H b=some (.own x):=by
    rcases he with z | z
    ·exact absurd (hbe.trans z) hb
    ·rw[hbe];exact z
   rw[q] at q';cases q'
   obtain⟨v,hv⟩:=heo
   exact⟨v,by rw[hbe];exact hv⟩
  ·refine(ok b u q).stay (fun c v hc r=>k c v ?_ r) (fun c r=>by rw[z0q (nown c b r)];exact r) fun c xs r=>by rw[z0q (ntup c xs r)];exact r
   rcases hc with rfl | hc
   ·exact hbe
   ·rintro rfl
    rcases he with z | z
    ·exact nown c b hc z
    ·rw[hc] at z;cases z;exact hb rfl
end
structure Un (fs ex:List Addr) (H H':Hp) (h h':Heap):Prop where
 keep:∀b o,h.get? b=some o->H b=none->b ∉ fs->b ∉ ex->h'.get? b=some o
 slot:∀b o,h.get? b=some o->H b=none->b∈fs->b ∉ ex->∃sl,h'.get? b=some { o with slots:=sl }
 free:∀b o,h.get? b=some o->H b=none->b ∉ ex->H' b=none
 there:∀b o,h.get? b=some o->b ∉ ex->∃o',h'.get? b=some o'
 tups:∀b xs,H b=some (.tup xs)->H' b=some (.tup xs)
 frzs:∀b o u,H b=some (.frz o u)->H' b=some (.frz o u)
 tbls:∀b ps,H b=some (.tbl ps)->∃more,H' b=some (.tbl (ps++more))
section
variable {fs fs' ex ex':List Addr}{H H1 H2:Hp}{h h1 h2 h':Heap}{a x e:Addr}{o:HO}
theorem Un.any(u:Un fs ex H H1 h h1){b:Addr}{ob:Obj}(q:h.get? b=some ob)(n:H b=none)(hx:b ∉ ex):∃sl,h1.get? b=some { ob with slots:=sl }:=by
 by_cases hb:b∈fs
 ·exact u.slot b ob q n hb hx
 ·exact⟨ob.slots,u.keep b ob q n hb hx⟩
theorem Un.kept(k:∀b u,h.get? b=some u->h'.get? b=some u):Un fs ex H H h h' :=
 ⟨fun b ob q _ _ _=>k b ob q,fun b ob q _ _ _=>⟨ob.slots,k b ob q⟩,fun _ _ _ n _=>n,fun b ob q _=>⟨ob,k b ob q⟩,fun _ _ q=>q,fun _ _ _ q=>q,fun _ ps q=>⟨#[],by rw[q];simp⟩⟩
theorem Un.refl:Un fs ex H H h h:=Un.kept fun _ _ q=>q
theorem Un.laid(k:∀b u,h.get? b=some u->h'.get? b=some u)(hp:h.objs.size<=a)(hn:H a=none):Un fs ex H (upd H a o) h h' where
 keep:=fun b u q _ _ _=>k b u q
 slot:=fun b u q _ _ _=>⟨u.slots,k b u q⟩
 free:=fun b u q n _=>by rw[z0q (Nat.ne_of_lt (Nat.lt_of_lt_of_le (Heap.lt_size q) hp))];exact n
 there:=fun b u q _=>⟨u,k b u q⟩
 tups:=fun b xs q=>by rw[z0q (z0p q hn)];exact q
 frzs:=fun b u xs q=>by rw[z0q (z0p q hn)];exact q
 tbls:=fun b ps q=>⟨#[],by rw[z0q (z0p q hn),q];simp⟩
theorem Un.write(mu:Mut (H x))(he:e=x∨H e=some (.own x))(k:∀b u,b≠e->h.get? b=some u->h'.get? b=some u)(heo:∃u,h'.get? e=some u):Un fs ex H (upd H x o) h h':=by
 have hx:∀b,H b=none->b≠x:=fun b n z=>by subst z;rw[n] at mu;exact mu
 have hb:∀b,H b=none->b≠e:=fun b n z=>by
  subst z
  rcases he with r | r
  ·exact hx b n r
  ·rw[n] at r;cases r
 have hm:∀b u,H b=some u->¬Mut (some u)->b≠x:=fun b u q nm z=>by subst z;rw[q] at mu;exact nm mu
 refine⟨fun b u q n _ _=>k b u (hb b n) q,fun b u q n _ _=>⟨u.slots,k b u (hb b n) q⟩,fun b u q n _=>by rw[z0q (hx b n)];exact n,fun b u q _=>?_,
  fun b xs q=>by rw[z0q (hm b _ q fun z=>z)];exact q,fun b u xs q=>by rw[z0q (hm b _ q fun z=>z)];exact q,fun b ps q=>⟨#[],by rw[z0q (hm b _ q fun z=>z),q];simp⟩⟩
 by_cases hbe:b=e
 ·subst hbe;exact heo
 ·exact⟨u,k b u hbe q⟩
end
noncomputable def trk(h:Heap)(H:Hp):List Addr:=(List.range h.objs.size).filter fun a=>(H a).isSome
noncomputable def hidT(h:Heap)(H:Hp):Heap:=PySem.W.hideAll h (trk h H)
theorem x1o(h:Heap)(H:Hp):(hidT h H).objs.size=h.objs.size:=PySem.W.hideAll_size _ _
theorem y3n{h:Heap}{H:Hp}{b:Addr}{o:Obj}(e:h.get? b=some o)(n:H b=none):(hidT h H).get? b=some o :=
 PySem.W.hideAll_get _ e fun hm=>by
  have q:(H b).isSome=true:=(List.mem_filter.mp hm).2
  rw[n] at q;simp at q
theorem y6a{h:Heap}{H:Hp}{b:Addr}{o:Obj}(e:(hidT h H).get? b=some o):h.get? b=some o/\H b=none:=by
 have e':h.get? b=some o:=PySem.W.of_hideAll (trk h H) e
 refine⟨e',?_⟩
 cases q:H b with
 | none=>rfl
 | some x =>
   have hm:b∈trk h H:=List.mem_filter.mpr ⟨List.mem_range.mpr (Heap.lt_size e'),by simp[q]⟩
   have z:(hidT h H).get? b=none:=PySem.W.hideAll_none (trk h H) hm
   rw[z] at e;cases e
noncomputable def x7d(g h:Heap)(L:Addr):List (Addr×Obj):=(List.range h.objs.size).filterMap fun a=>if a=L∨(g.get? a).isSome=true then none else (h.get? a).map fun o=>(a,o)
noncomputable def rest(g h:Heap)(L d:Addr):List (Addr×Obj):=(x7d g h L).filter fun p=>decide (p.1≠d)
end L2
namespace L2
open PySem PySem.Spec PyProof.Rows
structure Mod (K:PySem.W.Frag) (mg:Str->Option Value) (base:Heap):Prop where
 kin:K.In base
 glob:base.Ns mainGlobals mg
 blt:∃mb,base.Ns builtinsNs mb/\∀x:Str,x≠"__name__"->mb x=bootBuiltins x
 nolimit:base.NoLimit
structure Cx where
 prog:Program
 w:World
 K:PySem.W.Frag
 mg:Str->Option Value
 base:Heap
 A:Around
 N:List Str
 s₀:Shared
 H₀:Hp
 env:Env
 outer:List Env
 stack:List Env
 ex:List Addr
 fn:Str->Bool
 calm:Bool
 pn:List (Addr×Obj)
 xe:Value->Shared->Prop
noncomputable def frs(l:List Env):List Addr:=l.filterMap (·.frame)
noncomputable abbrev Cx.fs (X:Cx):List Addr:=frs X.outer
noncomputable def Vis(sc:Scope)(x:Str):Prop:=sc.names.lookup x=some .local∨sc.names.lookup x=some .cell∨sc.names.lookup x=some .free
noncomputable def Loc(sc:Scope)(x:Str):Prop:=sc.names.lookup x=some .local∨sc.names.lookup x=some .cell
noncomputable def Look(env:Env)(h:Heap)(m:Str->Option Value)(x:Str)(u:Value):Prop :=
 (env.kindOf x=some .local/\m x=some u)∨((env.kindOf x=some .cell∨env.kindOf x=some .free)/\∃c,env.cells.lookup x=some c/\h.IsCell c (some u))
structure Cx.Ok (X:Cx):Prop where
 mod:Mod X.K X.mg X.base
 kind:X.env.scope.kind = .function
 glob:X.env.globals=mainGlobals
 blt:X.env.builtins=builtinsNs
 above:X.s₀.heap.objs.size<=X.env.locals
 inj:∀x y c,X.env.cells.lookup x=some c->X.env.cells.lookup y=some c->x=y
 has:∀x,(X.env.kindOf x=some .cell∨X.env.kindOf x=some .free)->∃c,X.env.cells.lookup x=some c
 cab:∀x c,X.fn x=true->X.env.cells.lookup x=some c->X.s₀.heap.objs.size<=c
 hd:X.calm=true->X.A.handled=none
 frames:X.A.frames=some X.stack
 stk:X.stack=X.outer∨(X.stack=X.env::X.outer/\X.env.frame=some X.env.locals)
 exf:∀b∈X.ex,b≠X.env.locals/\∀x c,X.env.cells.lookup x=some c->c≠b
 bs:∀b o,X.base.get? b=some o->X.s₀.heap.get? b=some o/\X.H₀ b=none
 bsz:X.base.objs.size<=X.s₀.heap.objs.size
 noex:∀b o,X.base.get? b=some o->b ∉ X.ex
 exfs:∀b∈X.ex,b ∉ X.fs
 funs:X.s₀.heap.FunFrames X.base X.outer
 frf:∀b∈X.fs,X.H₀ b=none
structure Inv (X:Cx) (pins:List (Addr×Obj)) (σ:List (Option V)) (H:Hp) (s:Shared):Prop where
 ok:X.Ok
 os:s.os=X.s₀.os
 bare:AllBare s.gens
 base:Un X.fs X.ex X.H₀ H X.s₀.heap s.heap
 loc:∃m,s.heap.Ns X.env.locals m/\∀(i:Nat) (x:Str) (v:V),X.N[i]? = some x->σ[i]? = some (some v)->Vis X.env.scope x->∃u,RelV v u/\Look X.env s.heap m x u
 cell:∀x c,X.env.cells.lookup x=some c->∃v,s.heap.IsCell c v
 free:H X.env.locals=none
 freeC:∀x c,X.env.cells.lookup x=some c->H c=none
 pin:∀p∈X.pn++pins,s.heap.get? p.1=some p.2/\H p.1=none/\p.1≠X.env.locals/\p.1 ∉ X.fs/\∀v,p.2.data ≠ .cell v
 hok:HOk X.prog X.w H s.heap
 len:σ.length=X.N.length
section
variable {X:Cx}{pins:List (Addr×Obj)}{σ:List (Option V)}{H H':Hp}{s:Shared}{h':Heap}
theorem Cx.Ok.nofr(ok:X.Ok){b:Addr}{o:Obj}(e:X.base.get? b=some o):b ∉ X.fs:=fun hb=>by
 have:=(ok.funs.mem hb).1
 rw[e] at this;cases this
theorem Inv.bs(I:Inv X pins σ H s):∀b o,X.base.get? b=some o->s.heap.get? b=some o/\H b=none:=fun b o e =>
 ⟨I.base.keep b o (I.ok.bs b o e).1 (I.ok.bs b o e).2 (I.ok.nofr e) (I.ok.noex b o e),I.base.free b o (I.ok.bs b o e).1 (I.ok.bs b o e).2 (I.ok.noex b o e)⟩
theorem Inv.bk(I:Inv X pins σ H s):∀b o,X.base.get? b=some o->s.heap.get? b=some o:=fun b o e=>(I.bs b o e).1
theorem Inv.mod(I:Inv X pins σ H s):Mod X.K X.mg X.base:=I.ok.mod
theorem Inv.kIn(I:Inv X pins σ H s):X.K.In s.heap:=I.ok.mod.kin.keeps I.bk
theorem Inv.lt(I:Inv X pins σ H s):X.env.locals<s.heap.objs.size:=let ⟨_,hn,_⟩:=I.loc;hn.lt
theorem Inv.sz(I:Inv X pins σ H s):X.s₀.heap.objs.size<=s.heap.objs.size:=Nat.le_trans I.ok.above (Nat.le_of_lt I.lt)
theorem Inv.nofs(I:Inv X pins σ H s){a:Addr}(h:s.heap.objs.size<=a):a ∉ X.fs:=fun hb=>by
 obtain⟨_,o,ho,_⟩:=I.ok.funs.mem hb
 exact absurd (Nat.lt_of_lt_of_le (Heap.lt_size ho) (Nat.le_trans I.sz h)) (Nat.lt_irrefl _)
theorem Inv.cne(I:Inv X pins σ H s):∀x c,X.env.cells.lookup x=some c->c≠X.env.locals:=fun x c e z=>by
 obtain⟨v,o,ho,hd⟩:=I.cell x c e
 obtain⟨m,⟨o',es,ep,ho',hd',_⟩,_⟩:=I.loc
 rw[z,ho'] at ho;cases ho;rw[hd'] at hd;cases hd
theorem Inv.funs(I:Inv X pins σ H s):s.heap.FunFrames X.base X.outer:=by
 have all:∀(l:List Env),(∀b∈frs l,b∈X.fs)->X.s₀.heap.FunFrames X.base l->s.heap.FunFrames X.base l:=by
  intro l
  induction l with
  | nil=>intro _ _;trivial
  | cons env r ih =>
    intro hs hl
    obtain⟨hk,⟨L,o,hf,hn,ho,hd⟩,hr⟩:=hl
    have hL:L∈X.fs:=hs L (by unfold frs;rw[List.filterMap_cons,hf];exact List.mem_cons_self)
    obtain⟨sl,e⟩:=I.base.slot L o ho (I.ok.frf L hL) hL fun z=>I.ok.exfs L z hL
    exact⟨hk,⟨L,_,hf,hn,e,hd⟩,ih (fun b hb=>hs b (by unfold frs;rw[List.filterMap_cons,hf];exact List.mem_cons_of_mem _ hb)) hr⟩
 exact all X.outer (fun _ hb=>hb) I.ok.funs
theorem Inv.stack(I:Inv X pins σ H s):s.heap.FunFrames X.base X.stack:=by
 rcases I.ok.stk with e | ⟨e,hf⟩
 ·rw[e];exact I.funs
 ·rw[e]
  obtain⟨m,hn,_⟩:=I.loc
  refine .cons (by rw[I.ok.kind];decide) hf hn ?_ I.funs
  exact Heap.get?_none_of_le (Nat.le_trans I.ok.bsz I.ok.above)
theorem Inv.stkSub(I:Inv X pins σ H s):∀b∈frs X.stack,b∈X.env.locals::X.fs:=fun b hb=>by
 rcases I.ok.stk with e | ⟨e,hf⟩
 ·rw[e] at hb;exact List.mem_cons_of_mem _ hb
 ·rw[e] at hb
  unfold frs at hb
  rw[List.filterMap_cons,hf] at hb
  exact hb
theorem Inv.stkFree(I:Inv X pins σ H s):∀b∈frs X.stack,H b=none:=fun b hb=>by
 rcases List.mem_cons.mp (I.stkSub b hb) with e | hb
 ·rw[e];exact I.free
 ·obtain⟨_,o,ho,_⟩:=I.ok.funs.mem hb
  exact I.base.free b o ho (I.ok.frf b hb) fun z=>I.ok.exfs b z hb
theorem Inv.step{g':Array GenState}{t':Nat}{d':Drawn}{ch:List Addr}(I:Inv X pins σ H s)
 (hch:∀b∈ch,(b∈X.ex∨X.s₀.heap.get? b=none)/\b≠X.env.locals/\(∀x c,X.env.cells.lookup x=some c->c≠b)/\∀p∈X.pn++pins,p.1≠b)
 (keep:∀b o,b≠X.env.locals->b ∉ X.fs->b ∉ ch->s.heap.get? b=some o->H b=none->h'.get? b=some o)
 (slot:∀b o,b≠X.env.locals->b∈X.fs->b ∉ ch->s.heap.get? b=some o->H b=none->∃sl,h'.get? b=some { o with slots:=sl }) (free:∀b o,b ∉ ch->s.heap.get? b=some o->H b=none->H' b=none)
 (there:∀b o,b ∉ ch->s.heap.get? b=some o->∃o',h'.get? b=some o')
 (tups:∀b xs,H b=some (.tup xs)->H' b=some (.tup xs)) (frzs:∀b o u,H b=some (.frz o u)->H' b=some (.frz o u)) (tbls:∀b ps,H b=some (.tbl ps)->∃more,H' b=some (.tbl (ps++more)))
 (ns:∀m,s.heap.Ns X.env.locals m->h'.Ns X.env.locals m) (hok:HOk X.prog X.w H' h') (hg:AllBare g') :
 Inv X pins σ H' { s with heap:=h',gens:=g',drawn:=d',toks:=t' }:=by
 have neL:∀b o,X.s₀.heap.get? b=some o->b≠X.env.locals:=fun b o e=>Nat.ne_of_lt (Nat.lt_of_lt_of_le (Heap.lt_size e) I.ok.above)
 have neC:∀b o,X.s₀.heap.get? b=some o->b ∉ X.ex->b ∉ ch:=fun b o e hx hb=>by
  rcases(hch b hb).1 with z | z
  ·exact hx z
  ·rw[e] at z;cases z
 have cellK:∀x c,X.env.cells.lookup x=some c->∀v,s.heap.IsCell c v->h'.IsCell c v:=fun x c e v ⟨o,ho,hd⟩=>by
  have nch:c ∉ ch:=fun z=>(hch c z).2.2.1 x c e rfl
  by_cases hc:c∈X.fs
  ·obtain⟨sl,q⟩:=slot c o (I.cne x c e) hc nch ho (I.freeC x c e)
   exact⟨_,q,hd⟩
  ·exact⟨o,keep c o (I.cne x c e) hc nch ho (I.freeC x c e),hd⟩
 refine⟨I.ok,I.os,hg,⟨fun b o e n hb hx=>?_,fun b o e n hb hx=>?_,fun b o e n hx=>?_,fun b o e hx=>?_,fun b xs e=>tups b xs (I.base.tups b xs e),fun b o xs e=>frzs b o xs (I.base.frzs b o xs e),fun b ps e=>?_⟩,?_,fun x c e=>?_,?_,fun x c e=>?_,fun p hp=>?_,hok,I.len⟩
 ·exact keep b o (neL b o e) hb (neC b o e hx) (I.base.keep b o e n hb hx) (I.base.free b o e n hx)
 ·obtain⟨sl,e1⟩:=I.base.slot b o e n hb hx
  obtain⟨sl',e2⟩:=slot b _ (neL b o e) hb (neC b o e hx) e1 (I.base.free b o e n hx)
  exact⟨sl',e2⟩
 ·obtain⟨o',e1⟩:=I.base.there b o e hx
  exact free b o' (neC b o e hx) e1 (I.base.free b o e n hx)
 ·obtain⟨o',e1⟩:=I.base.there b o e hx
  exact there b o' (neC b o e hx) e1
 ·obtain⟨m1,e1⟩:=I.base.tbls b ps e
  obtain⟨m2,e2⟩:=tbls b _ e1
  exact⟨m1++m2,by rw[e2,Array.append_assoc]⟩
 ·obtain⟨m,hn,hl⟩:=I.loc
  refine⟨m,ns m hn,fun i x v e1 e2 e3=>?_⟩
  obtain⟨u,r,l⟩:=hl i x v e1 e2 e3
  refine⟨u,r,?_⟩
  rcases l with l | ⟨k,c,e,z⟩
  ·exact .inl l
  ·exact .inr ⟨k,c,e,cellK x c e _ z⟩
 ·obtain⟨v,z⟩:=I.cell x c e
  exact⟨v,cellK x c e v z⟩
 ·obtain⟨m,⟨o,_,_,ho,_⟩,_⟩:=I.loc
  exact free _ o (fun z=>(hch _ z).2.1 rfl) ho I.free
 ·obtain⟨v,o,ho,hd⟩:=I.cell x c e
  exact free c o (fun z=>(hch c z).2.2.1 x c e rfl) ho (I.freeC x c e)
 ·obtain⟨e,n,ne,nf,d⟩:=I.pin p hp
  have nch:p.1 ∉ ch:=fun z=>(hch p.1 z).2.2.2 p hp rfl
  exact⟨keep p.1 p.2 ne nf nch e n,free p.1 p.2 nch e n,ne,nf,d⟩
theorem Inv.un{t':Nat}(I:Inv X pins σ H s)(u:Un X.fs [] H H' s.heap h')(hok:HOk X.prog X.w H' h'):Inv X pins σ H' { s with heap:=h',toks:=t' }:=by
 obtain⟨m,⟨o,es,ep,ho,r⟩,_⟩:=id I.loc
 obtain⟨sl,hL⟩:=u.any ho I.free (by simp)
 exact I.step (g':=s.gens) (d':=s.drawn) (ch:=[]) (fun _ z=>nomatch z) (fun b o _ hb _ e n=>u.keep b o e n hb (by simp)) (fun b o _ hb _ e n=>u.slot b o e n hb (by simp)) (fun b o _ e n=>u.free b o e n (by simp)) (fun b o _ e=>u.there b o e (by simp)) u.tups u.frzs u.tbls (fun m' hm=>by
  obtain⟨o',es',ep',ho',r'⟩:=hm
  rw[ho] at ho';cases ho'
  exact⟨_,es',ep',hL,r'⟩) hok I.bare
theorem Inv.call{g':Array GenState}{t':Nat}{d':Drawn}{ch:List Addr}(I:Inv X pins σ H s)(u:Un (frs X.stack) ch H H' s.heap h')(hok:HOk X.prog X.w H' h')(hg:AllBare g')
 (hch:∀b∈ch,(b∈X.ex∨X.s₀.heap.get? b=none)/\b≠X.env.locals/\(∀x c,X.env.cells.lookup x=some c->c≠b)/\∀p∈X.pn++pins,p.1≠b) :
 Inv X pins σ H' { s with heap:=h',gens:=g',drawn:=d',toks:=t' }:=by
 obtain⟨m,⟨o,es,ep,ho,r⟩,_⟩:=id I.loc
 obtain⟨sl,hL⟩:=u.any ho I.free fun z=>(hch _ z).2.1 rfl
 exact I.step (ch:=ch) hch (fun b o hL hb hc e n=>u.keep b o e n (fun z=>(List.mem_cons.mp (I.stkSub b z)).elim hL hb) hc) (fun b o _ _ hc e n=>u.any e n hc) (fun b o hc e n=>u.free b o e n hc) (fun b o hc e=>u.there b o e hc) u.tups u.frzs u.tbls (fun m' hm=>by
  obtain⟨o',es',ep',ho',r'⟩:=hm
  rw[ho] at ho';cases ho'
  exact⟨_,es',ep',hL,r'⟩) hok hg
theorem Inv.turned{t':Nat}{it:Addr}(I:Inv X pins σ H s)(k:∀b o,b≠it->s.heap.get? b=some o->h'.get? b=some o)(hn:H it=none)(hL:it≠X.env.locals)
 (h1:it∈X.ex∨X.s₀.heap.objs.size<=it) (h2:∀x c,X.env.cells.lookup x=some c->c≠it) (h3:∀p∈X.pn++pins,p.1≠it):Inv X pins σ H { s with heap:=h',toks:=t' }:=by
 have nit:∀b u,H b=some u->b≠it:=fun b u e z=>by rw[z,hn] at e;cases e
 refine I.step (g':=s.gens) (d':=s.drawn) (ch:=[it]) (fun b hb=>?_) (fun b o _ _ hc e _=>k b o (fun z=>hc (by simp[z])) e) (fun b o _ _ hc e _=>⟨o.slots,k b o (fun z=>hc (by simp[z])) e⟩) (fun _ _ _ _ n=>n)
  (fun b o hc e=>⟨o,k b o (fun z=>hc (by simp[z])) e⟩) (fun _ _ e=>e) (fun _ _ _ e=>e) (fun b ps e=>⟨#[],by rw[e];simp⟩) (fun m hm=>?_) (fun b u e=>?_) I.bare
 ·have e:b=it:=by simpa using hb
  subst e
  exact⟨h1.imp_right fun z=>Heap.get?_none_of_le z,hL,h2,h3⟩
 ·obtain⟨o,es,ep,ho,r⟩:=hm
  exact⟨o,es,ep,k _ o (Ne.symm hL) ho,r⟩
 ·refine(I.hok b u e).stay (fun c v hc q=>k c v ?_ q) (fun _ q=>q) fun _ _ q=>q
  rcases hc with z | z
  ·rw[z];exact nit b u e
  ·exact nit c _ z
theorem Inv.tok(I:Inv X pins σ H s)(t:Nat):Inv X pins σ H { s with toks:=t }:=I.un (h':=s.heap) (t':=t) Un.refl I.hok
theorem Inv.kept{t':Nat}(I:Inv X pins σ H s)(k:∀b u,s.heap.get? b=some u->h'.get? b=some u):Inv X pins σ H { s with heap:=h',toks:=t' }:=I.un (Un.kept k) (I.hok.kept k)
theorem Inv.laid{a:Addr}{o:HO}{t':Nat}(I:Inv X pins σ H s)(k:∀b u,s.heap.get? b=some u->h'.get? b=some u)(hp:s.heap.objs.size<=a)(new:z7z X.prog X.w (upd H a o) h' a o) :
 Inv X pins σ (upd H a o) { s with heap:=h',toks:=t' }:=I.un (Un.laid k hp (I.hok.fresh hp)) (I.hok.laid k hp new)
theorem Inv.write{x e:Addr}{o:HO}{t':Nat}(I:Inv X pins σ H s)(mu:Mut (H x))(he:e=x∨H e=some (.own x))(k:∀b u,b≠e->s.heap.get? b=some u->h'.get? b=some u)(heo:∃u,h'.get? e=some u)
 (new:z7z X.prog X.w (upd H x o) h' x o):Inv X pins σ (upd H x o) { s with heap:=h',toks:=t' }:=I.un (Un.write mu he k heo) (I.hok.write mu he k heo new)
theorem Inv.pins_of{pins':List (Addr×Obj)}(I:Inv X pins σ H s)(h:∀p∈pins',s.heap.get? p.1=some p.2/\H p.1=none/\p.1≠X.env.locals/\p.1 ∉ X.fs/\∀v,p.2.data ≠ .cell v):Inv X pins' σ H s :=
 ⟨I.ok,I.os,I.bare,I.base,I.loc,I.cell,I.free,I.freeC,fun p hp=>(List.mem_append.mp hp).elim (fun z=>I.pin p (List.mem_append_left _ z)) (h p),I.hok,I.len⟩
theorem y7i{N:List Str}(hN:N.Nodup){i j:Nat}{x:Str}(a:N[i]? = some x)(b:N[j]? = some x):i=j:=by
 obtain⟨h1,e1⟩:=List.getElem?_eq_some_iff.mp a
 obtain⟨h2,e2⟩:=List.getElem?_eq_some_iff.mp b
 exact(List.getElem_inj hN).mp (e1.trans e2.symm)
theorem z8l{M:Model}{A:Around}{E:Value->Shared->Prop}{i:Nat}{x:Str}{v:V}{u:Value}{Q:Unit->Shared->Prop}(I:Inv X pins σ H s)(hN:X.N.Nodup)(hi:X.N[i]? = some x)(hx:Loc X.env.scope x)(r:RelV v u)
 (h:∀s',Inv X pins (σ.set i (some v)) H s'->(∃a,Heap.SameBut a s.heap s'.heap/\(a=X.env.locals∨X.env.cells.lookup x=some a))->Q () s') (hf:X.fn x=true∨X.env.scope.names.lookup x=some .local:=by first | exact .inl rfl | exact .inr rfl | assumption):wpAny M A (storeName X.env x u) Q E s:=by
 obtain⟨m,hn,hl⟩:=id I.loc
 have hcls:(X.env.scope.kind == .class||(X.env.scope.kind == .module&&X.env.locals != X.env.globals))=false:=by rw[I.ok.kind];rfl
 have hiσ:i<σ.length:=by rw[I.len];exact(List.getElem?_eq_some_iff.mp hi).1
 have cne:=I.cne
 have tracked:∀{a:Addr} {h':Heap},(∃o,s.heap.get? a=some o/\H a=none)->Heap.SameBut a s.heap h'->HOk X.prog X.w H h':=fun {a h'} ha hs b ob e=>by
  obtain⟨_,_,hfree⟩:=ha
  refine(I.hok b ob e).stay (fun c w' hc q=>(hs.2 c ?_).trans q) (fun _ q=>q) fun _ _ q=>q
  rintro rfl
  rcases hc with rfl | hc
  ·rw[hfree] at e;cases e
  ·rw[hfree] at hc;cases hc
 rcases hx with hk | hk
 ·refine wpAny_storeName_local hk hn (fun h' hn' hs=>?_) hcls
  obtain⟨oL,_,_,hoL,_⟩:=id hn
  refine h _ ⟨I.ok,I.os,I.bare,⟨fun b o e n hb hx=>?_,fun b o e n hb hx=>?_,I.base.free,fun b o e hx=>?_,I.base.tups,I.base.frzs,I.base.tbls⟩,⟨_,hn',fun j y v' e1 e2 e3=>?_⟩,fun y c e=>?_,I.free,I.freeC,fun p hp=>?_,tracked ⟨oL,hoL,I.free⟩ hs,by simpa using I.len⟩ ⟨_,hs,.inl rfl⟩
  ·exact(hs.2 b (Nat.ne_of_lt (Nat.lt_of_lt_of_le (Heap.lt_size e) I.ok.above))).trans (I.base.keep b o e n hb hx)
  ·obtain⟨sl,e1⟩:=I.base.slot b o e n hb hx
   exact⟨sl,(hs.2 b (Nat.ne_of_lt (Nat.lt_of_lt_of_le (Heap.lt_size e) I.ok.above))).trans e1⟩
  ·obtain⟨o',e1⟩:=I.base.there b o e hx
   exact⟨o',(hs.2 b (Nat.ne_of_lt (Nat.lt_of_lt_of_le (Heap.lt_size e) I.ok.above))).trans e1⟩
  ·by_cases hj:j=i
   ·subst hj
    rw[hi] at e1;cases e1
    rw[List.getElem?_set_self hiσ] at e2
    cases e2
    exact⟨u,r,.inl ⟨hk,by simp⟩⟩
   ·rw[List.getElem?_set_ne (Ne.symm hj)] at e2
    obtain⟨u',r',q⟩:=hl j y v' e1 e2 e3
    refine⟨u',r',?_⟩
    rcases q with ⟨k,e⟩ | ⟨k,c,e,z⟩
    ·refine .inl ⟨k,?_⟩
     have:y≠x:=fun e=>hj (y7i hN e1 (e ▸ hi))
     simp[this,e]
    ·exact .inr ⟨k,c,e,z.sameBut hs (cne y c e)⟩
  ·obtain⟨w',z⟩:=I.cell y c e
   exact⟨w',z.sameBut hs (cne y c e)⟩
  ·obtain⟨e,n,ne,nf,d⟩:=I.pin p hp
   exact⟨(hs.2 p.1 ne).trans e,n,ne,nf,d⟩
 ·have hfn:X.fn x=true:=by
   rcases hf with z | z
   ·exact z
   ·rw[z] at hk;cases hk
  obtain⟨c,hc⟩:=I.ok.has x (.inl hk)
  obtain⟨w',z⟩:=I.cell x c hc
  refine wpAny_storeName_cell I.ok.kind hk hc z (fun h' hc' hs=>?_)
  obtain⟨oc,hoc,hocd⟩:=id z
  refine h { s with heap:=h' } ⟨I.ok,I.os,I.bare,⟨fun b o e n hb hx=>?_,fun b o e n hb hx=>?_,I.base.free,fun b o e hx=>?_,I.base.tups,I.base.frzs,I.base.tbls⟩,⟨m,hn.sameBut hs (Ne.symm (cne x c hc)),fun j y v' e1 e2 e3=>?_⟩,fun y c' e=>?_,I.free,I.freeC,fun p hp=>?_,tracked ⟨oc,hoc,I.freeC x c hc⟩ hs,by simpa using I.len⟩ ⟨c,hs,.inr hc⟩
  ·exact(hs.2 b (Nat.ne_of_lt (Nat.lt_of_lt_of_le (Heap.lt_size e) (I.ok.cab x c hfn hc)))).trans (I.base.keep b o e n hb hx)
  ·obtain⟨sl,e1⟩:=I.base.slot b o e n hb hx
   exact⟨sl,(hs.2 b (Nat.ne_of_lt (Nat.lt_of_lt_of_le (Heap.lt_size e) (I.ok.cab x c hfn hc)))).trans e1⟩
  ·obtain⟨o',e1⟩:=I.base.there b o e hx
   exact⟨o',(hs.2 b (Nat.ne_of_lt (Nat.lt_of_lt_of_le (Heap.lt_size e) (I.ok.cab x c hfn hc)))).trans e1⟩
  ·by_cases hj:j=i
   ·subst hj
    rw[hi] at e1;cases e1
    rw[List.getElem?_set_self hiσ] at e2
    cases e2
    exact⟨u,r,.inr ⟨.inl hk,c,hc,hc'⟩⟩
   ·rw[List.getElem?_set_ne (Ne.symm hj)] at e2
    obtain⟨u',r',q⟩:=hl j y v' e1 e2 e3
    refine⟨u',r',?_⟩
    rcases q with q | ⟨k,c',e,z'⟩
    ·exact .inl q
    ·refine .inr ⟨k,c',e,z'.sameBut hs ?_⟩
     rintro rfl
     exact hj (y7i hN e1 (I.ok.inj _ _ _ e hc ▸ hi))
  ·by_cases hcc:c'=c
   ·subst hcc;exact⟨_,hc'⟩
   ·obtain⟨w2,z2⟩:=I.cell y c' e
    exact⟨w2,z2.sameBut hs hcc⟩
  ·obtain⟨e,n,ne,nf,d⟩:=I.pin p hp
   refine⟨(hs.2 p.1 ?_).trans e,n,ne,nf,d⟩
   intro q
   rw[q,hoc] at e
   have q':oc=p.2:=Option.some.inj e
   exact d w' (by rw[<-q'];exact hocd)
theorem y2q{M:Model}{A:Around}{E:Value->Shared->Prop}{i:Nat}{x:Str}{v:V}{u:Value}{Q:Unit->Shared->Prop}(I:Inv X pins σ H s)(hN:X.N.Nodup)(hi:X.N[i]? = some x)(hx:Loc X.env.scope x)(r:RelV v u)
 (h:∀s',Inv X pins (σ.set i (some v)) H s'->Q () s') (hf:X.fn x=true∨X.env.scope.names.lookup x=some .local:=by first | exact .inl rfl | exact .inr rfl | assumption):wpAny M A (storeName X.env x u) Q E s :=
 z8l I hN hi hx r (fun s' I' _=>h s' I') hf
theorem Inv.call'{s':Shared}{ch:List Addr}(I:Inv X pins σ H s)(ho:s'.os=s.os)(u:Un (frs X.stack) ch H H' s.heap s'.heap)(hok:HOk X.prog X.w H' s'.heap)(hg:AllBare s'.gens)
 (hch:∀b∈ch,(b∈X.ex∨X.s₀.heap.get? b=none)/\b≠X.env.locals/\(∀x c,X.env.cells.lookup x=some c->c≠b)/\∀p∈X.pn++pins,p.1≠b):Inv X pins σ H' s':=by
 obtain⟨h',g',d',t',o'⟩:=s'
 have e:o'=s.os:=ho
 subst e
 exact I.call (g':=g') (t':=t') (d':=d') u hok hg hch
end
noncomputable abbrev XK:=Value->Option Addr->Hp->Prop
noncomputable abbrev St:=List (Option V)
noncomputable abbrev VK:=V->Hp->Prop
noncomputable abbrev TE:=St->Hp->VK->Prop
noncomputable abbrev TT:=St->Hp->(Bool->Hp->Prop)->Prop
noncomputable abbrev TA:=St->Hp->(List V->Hp->Prop)->Prop
structure Ends where
 nx:St->Hp->Prop
 rt:VK
 bk:St->Hp->Prop:=fun _ _=>False
 ct:St->Hp->Prop:=fun _ _=>False
noncomputable abbrev TS:=Ends->St->Hp->Prop
noncomputable def EP(X:Cx)(pins:List (Addr×Obj))(σ:St)(Q:VK)(u:Value)(s':Shared):Prop:=∃v H',Inv X pins σ H' s'/\RelV v u/\Q v H'
noncomputable def SP(X:Cx)(pins:List (Addr×Obj))(D:Ends)(f:Flow)(s':Shared):Prop :=
 match f with
 | .next=>∃σ' H',Inv X pins σ' H' s'/\D.nx σ' H'
 | .brk=>∃σ' H',Inv X pins σ' H' s'/\D.bk σ' H'
 | .cont=>∃σ' H',Inv X pins σ' H' s'/\D.ct σ' H'
 | .ret u=>∃v σ' H',Inv X pins σ' H' s'/\RelV v u/\D.rt v H'
noncomputable def PE(X:Cx)(e:Expr)(t:TE):Prop :=
 ∀(pins:List (Addr×Obj)) (s:Shared) (σ:St) (H:Hp) (Q:VK),Inv X pins σ H s->t σ H Q->wpAny (model X.prog X.w) X.A (eval e X.env) (EP X pins σ Q) X.xe s
noncomputable def PSs(X:Cx)(st:List Stmt)(t:TS):Prop :=
 ∀(pins:List (Addr×Obj)) (s:Shared) (σ:St) (H:Hp) (D:Ends),Inv X pins σ H s->t D σ H->wpAny (model X.prog X.w) X.A (execs st X.env) (SP X pins D) X.xe s
theorem thn{α:Type}{t:Sem α}{Q Q':α->Shared->Prop}{M:Model}{A:Around}{E:Value->Shared->Prop}{s:Shared}(h:wpAny M A t Q E s)(hQ:∀a s,Q a s->Q' a s):wpAny M A t Q' E s:=wpAny_mono h hQ fun _ _ x=>x
end L2
namespace L2
open PySem PySem.Spec PyProof.Rows
section
variable {X:Cx}
noncomputable def tVar(i:Nat):TE:=fun σ H Q=>∃v,σ[i]? = some (some v)/\Q v H
noncomputable def tC(v:V):TE:=fun _ H Q=>Q v H
theorem y4m{i:Nat}{x:Str}{pos:Pos}(hN:X.N[i]? = some x)(hv:Vis X.env.scope x)(hd:(x==("__debug__":Str))=false:=by decide)(hcd:(x==("__classdict__":Str))=false:=by decide):PE X (.Name x pos) (tVar i):=by
 intro pins s σ H Q I h
 obtain⟨v,e,h⟩:=h
 obtain⟨m,hn,hl⟩:=I.loc
 obtain⟨u,r,l⟩:=hl i x v hN e hv
 have fin:EP X pins σ Q u s:=⟨v,H,I,r,h⟩
 rcases l with ⟨hk,hm⟩ | ⟨hk,c,hc,hcell⟩
 ·exact wpAny_Name (wpAny_loadName_local I.ok.kind hk hn hm fin) hd
 ·rcases hk with hk | hk
  ·exact wpAny_Name (wpAny_loadName_cell I.ok.kind hk hc hcell fin) hd
  ·exact wpAny_Name (wpAny_loadName_free I.ok.kind hk hc hcell fin hcd) hd
theorem x7z{i j pos}:PE X (.Constant (.int i) j pos) (tC (.int i)):=fun _ _ _ H _ I h=>wpAny_Constant_int ⟨.int i,H,I.tok _,⟨_,rfl⟩,h⟩
theorem x9o{b j pos}:PE X (.Constant (.bool b) j pos) (tC (.bl b)):=fun _ _ _ H _ I h=>Constant_bool ⟨.bl b,H,I,rfl,h⟩
theorem x7y{j pos}:PE X (.Constant .none j pos) (tC .non):=fun _ _ _ H _ I h=>Constant_none ⟨.non,H,I,rfl,h⟩
theorem x7x{x j pos}:PE X (.Constant (.str x) j pos) (tC (.str x)):=fun _ _ _ H _ I h=>Calls.Constant_str ⟨.str x,H,I.tok _,⟨_,rfl⟩,h⟩
noncomputable def Gl(X:Cx)(x:Str):Prop:=X.env.kindOf x=some .globalImplicit
theorem y0z{E:Value->Shared->Prop}{pins:List (Addr×Obj)}{s:Shared}{σ:St}{H:Hp}{x:Str}{u:Value}{pos:Pos}{Q:Value->Shared->Prop}(I:Inv X pins σ H s)(hg:Gl X x)(hm:X.mg x=some u)(h:Q u s)
 (hd:(x==("__debug__":Str))=false:=by decide):wpAny (model X.prog X.w) X.A (eval (.Name x pos) X.env) Q E s :=
 Calls.Name_function_global I.ok.kind hg (Calls.loadGlobal_global (by rw[I.ok.glob];exact I.mod.glob.keeps I.bk) hm h) hd
theorem z6f{E:Value->Shared->Prop}{pins:List (Addr×Obj)}{s:Shared}{σ:St}{H:Hp}{x:Str}{u:Value}{pos:Pos}{Q:Value->Shared->Prop}(I:Inv X pins σ H s)(hg:Gl X x)(hm:X.mg x=none)(hv:bootBuiltins x=some u)(h:Q u s)
 (hn:x≠"__name__":=by decide) (hd:(x==("__debug__":Str))=false:=by decide):wpAny (model X.prog X.w) X.A (eval (.Name x pos) X.env) Q E s:=by
 obtain⟨mb,h1,h2⟩:=I.mod.blt
 exact Calls.Name_function_global I.ok.kind hg (Calls.loadGlobal_builtin (by rw[I.ok.glob];exact I.mod.glob.keeps I.bk) hm (by rw[I.ok.blt];exact h1.keeps I.bk) ((h2 x hn).trans hv) h) hd
variable {a b:Expr}{ta tb:TE}{pos:Pos}
variable {tA tB':TT}{rest:List Expr}
end
end L2
namespace L2
open PySem PySem.Spec PyProof.Rows
noncomputable def SqL(K:PySem.W.Frag)(H:Hp)(a:Addr)(xs:List V):Prop :=
 Rd H a (.lst xs) ∨
  ∃(o:Obj) (its:Array Value) (n:Nat),K.lookup a=some o/\o.cls = .type "list"/\o.dict=none/\o.data = .seq its n/\its.size<=sizeLine/\Vals xs its.toList
noncomputable def SqT(K:PySem.W.Frag)(H:Hp)(a:Addr)(xs:List V):Prop :=
 Rd H a (.tup xs) ∨
  ∃(o:Obj) (its:Array Value) (n:Nat),K.lookup a=some o/\o.cls = .type "tuple"/\o.data = .seq its n/\its.size<=sizeLine/\Vals xs its.toList
noncomputable def absV:Value->Option V
 | .none=>some .non
 | .bool b=>some (.bl b)
 | .int i _=>some (.int i)
 | .str x _=>some (.str x)
 | .bytes b _=>some (.byt b)
 | .float b _=>some (.flt b)
 | .ref a=>some (.ref a)
 | .type n=>some (.ty n)
 | _=>none
theorem RelV.abs{x:V}{u:Value}(r:RelV x u):absV u=some x:=by
 cases x with
 | non=>cases r;rfl
 | bl _=>cases r;rfl
 | int _=>obtain⟨t,rfl⟩:=r;rfl
 | str _=>obtain⟨t,rfl⟩:=r;rfl
 | byt _=>obtain⟨t,rfl⟩:=r;rfl
 | flt _=>obtain⟨t,rfl⟩:=r;rfl
 | ref _=>cases r;rfl
 | ty _=>cases r;rfl
theorem RelV.inj{x y:V}{u:Value}(r:RelV x u)(q:RelV y u):x=y:=Option.some.inj (r.abs.symm.trans q.abs)
theorem Vals.inj:∀{xs ys:List V} {us:List Value},Vals xs us->Vals ys us->xs=ys
 | _,_,_,.nil,.nil=>rfl
 | _,_,_,.cons r t,.cons r' t'=>by rw[r.inj r',Vals.inj t t']
section
variable {X:Cx}{pins:List (Addr×Obj)}{σ:St}{H:Hp}{s:Shared}{a:Addr}{xs ys:List V}
theorem SqL.of{K:PySem.W.Frag}(h:H a=some (.lst xs)):SqL K H a xs:=.inl (.inl h)
theorem SqT.of{K:PySem.W.Frag}(h:H a=some (.tup xs)):SqT K H a xs:=.inl (.inl h)
theorem Inv.list(I:Inv X pins σ H s)(h:SqL X.K H a xs):∃its:List Value,Vals xs its/\PlainL s.heap a its.toArray/\xs.length<=sizeLine:=by
 rcases h with h | ⟨o,its,n,hk,hc,hd,hs,hz,r⟩
 ·obtain⟨z,its,n,r,e⟩:=h.ok I.hok
  exact⟨its,r,⟨_,n,e,rfl,rfl,rfl⟩,z⟩
 ·refine⟨its.toList,r,⟨o,n,I.kIn a o hk,hc,hd,by simpa using hs⟩,?_⟩
  have e:=r.length
  simp only[Array.length_toList] at e
  lia
theorem Inv.tuple(I:Inv X pins σ H s)(h:SqT X.K H a xs):∃its:List Value,Vals xs its/\IsTup s.heap a its.toArray/\xs.length<=sizeLine:=by
 rcases h with h | ⟨o,its,n,hk,hc,hs,hz,r⟩
 ·obtain⟨z,its,r,p⟩:=h.ok I.hok
  exact⟨its,r,p,z⟩
 ·refine⟨its.toList,r,⟨o,I.kIn a o hk,hc,n,by simpa using hs⟩,?_⟩
  have e:=r.length
  simp only[Array.length_toList] at e
  lia
theorem Inv.list_inj(I:Inv X pins σ H s)(h:SqL X.K H a xs)(h':SqL X.K H a ys):xs=ys:=by
 obtain⟨its,r,⟨o,n,e,_,_,d⟩,_⟩:=I.list h
 obtain⟨its',r',⟨o',n',e',_,_,d'⟩,_⟩:=I.list h'
 rw[e] at e';cases e'
 rw[d] at d'
 injection d' with d1 _
 have:its=its':=by simpa using congrArg Array.toList d1
 subst this
 exact r.inj r'
theorem Inv.tuple_inj(I:Inv X pins σ H s)(h:SqT X.K H a xs)(h':SqT X.K H a ys):xs=ys:=by
 obtain⟨its,r,⟨o,e,_,n,d⟩,_⟩:=I.tuple h
 obtain⟨its',r',⟨o',e',_,n',d'⟩,_⟩:=I.tuple h'
 rw[e] at e';cases e'
 rw[d] at d'
 injection d' with d1 _
 have:its=its':=by simpa using congrArg Array.toList d1
 subst this
 exact r.inj r'
end
noncomputable abbrev Cx.wish (X:Cx) (E:Value->Shared->Prop):Cx:={ X with xe:=E }
noncomputable abbrev Cx.nox (X:Cx):Cx:=X.wish fun _ _=>False
theorem Cx.Ok.wish{X:Cx}(ok:X.Ok)(E:Value->Shared->Prop):(X.wish E).Ok :=
 ⟨ok.mod,ok.kind,ok.glob,ok.blt,ok.above,ok.inj,ok.has,ok.cab,ok.hd,ok.frames,ok.stk,ok.exf,ok.bs,ok.bsz,ok.noex,ok.exfs,ok.funs,ok.frf⟩
theorem Cx.Ok.unwish{X:Cx}{E:Value->Shared->Prop}(ok:(X.wish E).Ok):X.Ok :=
 ⟨ok.mod,ok.kind,ok.glob,ok.blt,ok.above,ok.inj,ok.has,ok.cab,ok.hd,ok.frames,ok.stk,ok.exf,ok.bs,ok.bsz,ok.noex,ok.exfs,ok.funs,ok.frf⟩
section
variable {X:Cx}{pins:List (Addr×Obj)}{σ:St}{H:Hp}{s:Shared}{E:Value->Shared->Prop}
theorem Inv.wish(I:Inv X pins σ H s)(E:Value->Shared->Prop):Inv (X.wish E) pins σ H s:=⟨I.ok.wish E,I.os,I.bare,I.base,I.loc,I.cell,I.free,I.freeC,I.pin,I.hok,I.len⟩
theorem Inv.unwish(I:Inv (X.wish E) pins σ H s):Inv X pins σ H s:=⟨I.ok.unwish,I.os,I.bare,I.base,I.loc,I.cell,I.free,I.freeC,I.pin,I.hok,I.len⟩
end
section
variable {X:Cx}{st:Stmt}{rest:List Stmt}{t u:TS}{e:Expr}{te:TE}{pos:Pos}
theorem Inv.quiet{pins:List (Addr×Obj)}{σ:St}{H:Hp}{s:Shared}(I:Inv X pins σ H s):interactive X.env=false:=by simp[interactive,I.ok.kind]
end
noncomputable abbrev TG:=V->St->Hp->(St->Hp->Prop)->Prop
noncomputable abbrev TGs:=List V->St->Hp->(St->Hp->Prop)->Prop
noncomputable def PG(X:Cx)(target:Expr)(t:TG):Prop :=
 ∀(pins:List (Addr×Obj)) (s:Shared) (σ:St) (H:Hp) (v:V) (u:Value) (Q:St->Hp->Prop),Inv X pins σ H s->RelV v u->t v σ H Q ->
  wpAny (model X.prog X.w) X.A (assign target X.env u) (fun _ s'=>∃σ' H',Inv X pins σ' H' s'/\Q σ' H') X.xe s
noncomputable def PGs(X:Cx)(ts:List Expr)(t:TGs):Prop :=
 ∀(pins:List (Addr×Obj)) (s:Shared) (σ:St) (H:Hp) (vs:List V) (us:List Value) (Q:St->Hp->Prop),Inv X pins σ H s->Vals vs us->t vs σ H Q ->
  wpAny (model X.prog X.w) X.A (assignInOrder ((assignEach ts X.env).map (·.2)) us) (fun _ s'=>∃σ' H',Inv X pins σ' H' s'/\Q σ' H') X.xe s
noncomputable abbrev TSet:=V->V->V->Hp->(Hp->Prop)->Prop
noncomputable def PSet(X:Cx)(t:TSet):Prop :=
 ∀(pins:List (Addr×Obj)) (s:Shared) (σ:St) (H:Hp) (o i v:V) (ov iv u:Value) (Q:Hp->Prop),Inv X pins σ H s->RelV o ov->RelV i iv->RelV v u->t o i v H Q ->
  wpAny (model X.prog X.w) X.A (setItem ov iv u) (fun _ s'=>∃H',Inv X pins σ H' s'/\Q H') X.xe s
section
variable {X:Cx}{pos:Pos}
noncomputable def y8w(i:Nat):TG:=fun v σ H Q=>Q (σ.set i (some v)) H
theorem y0o{i:Nat}{x:Str}(hN:X.N.Nodup)(hi:X.N[i]? = some x)(hx:Loc X.env.scope x)(hf:X.fn x=true∨X.env.scope.names.lookup x=some .local:=by first | exact .inl rfl | exact .inr rfl | assumption):PG X (.Name x pos) (y8w i):=by
 intro pins s σ H v u Q I r h
 exact wpAny_assign_Name (y2q I hN hi hx r (fun s' I'=>⟨_,H,I',h⟩) hf)
noncomputable def gNil:TGs:=fun vs σ H Q=>vs=[]/\Q σ H
noncomputable def gCons(t:TG)(u:TGs):TGs:=fun vs σ H Q=>∃v r,vs=v::r/\t v σ H fun σ' H'=>u r σ' H' Q
theorem x5x:PGs X [] gNil:=by
 intro pins s σ H vs us Q I r h
 obtain⟨e,h⟩:=h
 subst e
 cases r
 exact assignInOrder_nil ⟨σ,H,I,h⟩
theorem y7e{e:Expr}{es:List Expr}{t:TG}{u:TGs}(h1:PG X e t)(h2:PGs X es u)
 (hs:(assignEach (e::es) X.env).map (·.2)=assign e X.env::(assignEach es X.env).map (·.2):=by rfl):PGs X (e::es) (gCons t u):=by
 intro pins s σ H vs us Q I r h
 obtain⟨v,vr,e1,h⟩:=h
 subst e1
 cases r with
 | cons r rr =>
   rw[hs]
   refine assignInOrder_cons (thn (h1 pins s σ H _ _ _ I r h) fun _ s1 ⟨σ1,H1,I1,q1⟩=>?_)
   exact h2 pins s1 σ1 H1 _ _ Q I1 rr q1
noncomputable def gTup(K:PySem.W.Frag)(n:Nat)(t:TGs):TG:=fun v σ H Q=>∃a xs,v = .ref a/\SqT K H a xs/\xs.length=n/\t xs σ H Q
theorem x7v{es:List Expr}{k:Nat}{t:TGs}{n:Nat}(hc:X.calm=true)(h:PGs X es t)
 (hn:(assignEach es X.env).length=n:=by rfl) (hst:(assignEach es X.env).findIdx? (·.1)=none:=by rfl):PG X (.Tuple es k pos) (gTup X.K n t):=by
 intro pins s σ H v u Q I r hw
 obtain⟨a,xs,e1,hq,hl,hw⟩:=hw
 subst e1
 cases r
 obtain⟨its,rv,ht,hz⟩:=I.tuple hq
 refine assign_Tuple_tuple (I.ok.hd hc) ht (by simp[hn,<-hl,rv.length]) hst fun h' hx=>?_
 have I1:Inv X pins σ H { s with heap:=h' }:=I.kept (t':=s.toks) fun b o e=>hx b o (Nat.ne_of_lt (Heap.lt_size e)) e
 exact h pins _ σ H xs _ Q I1 (by simpa using rv) hw
end
section
variable {X:Cx}{pos:Pos}
end
structure It where
 go:Nat->Hp->Prop
 yld:Nat->Hp->V->Hp->Prop
 stop:Nat->Hp->Prop
noncomputable def FpOk(X:Cx)(pins:List (Addr×Obj))(H:Hp)(b:Addr):Prop :=
 H b=none/\b≠X.env.locals/\b ∉ X.fs/\(b∈X.ex∨X.s₀.heap.objs.size<=b)/\(∀x c,X.env.cells.lookup x=some c->c≠b)/\∀p∈X.pn++pins,p.1≠b
theorem Inv.fpOk{X:Cx}{pins:List (Addr×Obj)}{σ:St}{H H':Hp}{s:Shared}{b:Addr}(I:Inv X pins σ H s)(hb:s.heap.objs.size<=b)(hn:H' b=none):FpOk X pins H' b:=by
 refine⟨hn,Nat.ne_of_gt (Nat.lt_of_lt_of_le I.lt hb),I.nofs hb,.inr (Nat.le_trans I.sz hb),fun x c e z=>?_,fun p hp z=>?_⟩
 ·obtain⟨v,q⟩:=I.cell x c e
  exact absurd (Nat.lt_of_lt_of_le q.lt (by rw[z];exact hb)) (Nat.lt_irrefl _)
 ·exact absurd (Nat.lt_of_lt_of_le (Heap.lt_size (I.pin p hp).1) (by rw[z];exact hb)) (Nat.lt_irrefl _)
structure Turn (P:Program) (w:World) (K:PySem.W.Frag) (tg:Expr) (J:It) (fp:List Addr) (it:Addr) (tn:Nat->Heap->Prop):Prop where
 mem:it∈fp
 obj:∀i h,tn i h->∀b∈fp,∃o,h.get? b=some o/\∀v,o.data ≠ .cell v
 keep:∀i h h',tn i h->(∀b∈fp,∀o,h.get? b=some o->h'.get? b=some o)->tn i h'
 item:∀(X:Cx),X.prog=P->X.w=w->X.K=K->X.calm=true->∀(i:Nat) (pins:List (Addr×Obj)) (s:Shared) (σ:St) (H:Hp) (E:Value->Shared->Prop),Inv X pins σ H s->(∀b∈fp,FpOk X pins H b)->tn i s.heap->J.go i H ->
  wpAny (model P w) X.A (pyNext (.ref it)) (fun r s1=>∃u,r=some u /\
   wpAny (model P w) X.A (letOwnedTupleGo tg (.ref it) u) (fun _ s2=>∃x H',Inv X pins σ H' s2/\RelV x u/\J.yld i H x H'/\tn (i+1) s2.heap/\∀b∈fp,H' b=none) E s1) E s
 done:∀(X:Cx),X.prog=P->X.w=w->X.K=K->X.calm=true->∀(i:Nat) (pins:List (Addr×Obj)) (s:Shared) (σ:St) (H:Hp) (E:Value->Shared->Prop),Inv X pins σ H s->(∀b∈fp,FpOk X pins H b)->tn i s.heap->J.stop i H ->
  wpAny (model P w) X.A (pyNext (.ref it)) (fun r s1=>r=none/\Inv X pins σ H s1) E s
 self:∀(A:Around) (i:Nat) (s:Shared) (Q:Value->Shared->Prop) (E:Value->Shared->Prop),tn i s.heap->Q (.ref it) s->wpAny (model P w) A (pyIter (.ref it)) Q E s
noncomputable abbrev TI:=St->Hp->(It->Hp->Prop)->Prop
noncomputable def PIE(X:Cx)(pins:List (Addr×Obj))(σ:St)(tg:Expr)(R:It->Hp->Prop)(itv:Value)(s2:Shared):Prop :=
 ∃(it:Addr) (fp:List Addr) (tn:Nat->Heap->Prop) (J:It) (H':Hp),itv = .ref it/\Inv X pins σ H' s2/\Turn X.prog X.w X.K tg J fp it tn/\tn 0 s2.heap/\(∀b∈fp,FpOk X pins H' b)/\R J H'
theorem x4b{M:Model}{A:Around}{E:Value->Shared->Prop}{s:Shared}{tg:Expr}{it:Addr}{u:Value}{o:Obj}{n:String}{vs:Array Value}{Q:Unit->Shared->Prop}(ho:s.heap.get? it=some o)(hc:o.cls = .type n)(hd:o.data = .fields vs)
 (hn:["enumerate","zip","dict_itemiterator","dict_reverseitemiterator","odict_iterator","itertools.zip_longest","itertools.pairwise"].contains n=false) (hQ:Q () s):wpAny M A (letOwnedTupleGo tg (.ref it) u) Q E s:=by
 unfold letOwnedTupleGo
 cases tg<;>first
  | exact wpAny_pure hQ
  | (cases u<;>first
      | exact wpAny_pure hQ
      | (refine wpAny_bind (wpAny_load ho ?_)
         rw[hc,hd]
         show wpAny M A (if (["enumerate","zip","dict_itemiterator","dict_reverseitemiterator","odict_iterator","itertools.zip_longest","itertools.pairwise"].contains n&&vs[0]? == some (rawInt _))=true then _ else _) Q E s
         rw[if_neg (by intro h;rw[hn,Bool.false_and] at h;cases h)]
         exact wpAny_pure hQ))
noncomputable def Itl(K:PySem.W.Frag)(a:Addr):It :=
 ⟨fun i H=>∃xs x,SqL K H a xs/\xs[i]? = some x,fun i H x H'=>H'=H/\∀xs,SqL K H a xs->xs[i]? = some x,fun i H=>∃xs,SqL K H a xs/\xs.length<=i⟩
noncomputable def Itt(K:PySem.W.Frag)(a:Addr):It :=
 ⟨fun i H=>∃xs x,SqT K H a xs/\xs[i]? = some x,fun i H x H'=>H'=H/\∀xs,SqT K H a xs->xs[i]? = some x,fun i H=>∃xs,SqT K H a xs/\xs.length<=i⟩
noncomputable def Itr(lo:Int)(n:Nat):It:=⟨fun i _=>i<n,fun i H x H'=>H'=H/\x = .int (lo+i),fun i _=>n<=i⟩
theorem y9o{P:Program}{w:World}{K:PySem.W.Frag}{tg:Expr}(a it:Addr):Turn P w K tg (Itl K a) [it] it (fun i h=>h.IsListIter it a i) where
 mem:=by simp
 obj:=fun i h st b hb=>by
  have e:b=it:=by simpa using hb
  subst e
  obtain⟨o,e,c,d⟩:=st
  exact⟨o,e,fun v z=>by rw[d] at z;cases z⟩
 keep:=fun i h h' st k=>st.at fun o e=>k it (by simp) o e
 item:=by
  intro X hP hw hK hc i pins s σ H E I hf st hg
  subst hP hw hK
  obtain⟨xs,x,hq,hx⟩:=hg
  obtain⟨its,rv,p,hz⟩:=I.list hq
  obtain⟨u,hu,ru⟩:=rv.get hx
  obtain⟨f0,f1,f2,f3,f4,f5⟩:=hf it (by simp)
  refine wpAny_pyNext_list_item st p.isList (x:=u) (by simpa using hu) fun h' st' sb=>?_
  have I1:Inv X pins σ H { s with heap:=h' }:=I.turned (t':=s.toks) (fun b o hb e=>(sb.2 b hb).trans e) f0 f1 f3 f4 f5
  obtain⟨o,e,c,d⟩:=id st'
  exact⟨u,rfl,x4b (s:={ s with heap:=h' }) e c d (by decide) ⟨x,H,I1,ru,⟨rfl,fun ys hy=>by rw[I.list_inj hy hq];exact hx⟩,st',fun b hb=>(hf b hb).1⟩⟩
 done:=by
  intro X hP hw hK hc i pins s σ H E I hf st hg
  subst hP hw hK
  obtain⟨xs,hq,hx⟩:=hg
  obtain⟨its,rv,p,hz⟩:=I.list hq
  obtain⟨f0,f1,f2,f3,f4,f5⟩:=hf it (by simp)
  have hl:=rv.length
  exact wpAny_pyNext_list_end (I.ok.hd hc) st p.isList (by simp;lia) fun h' eb=>⟨rfl,I.turned (t':=s.toks) (fun b o hb e=>eb b o hb e) f0 f1 f3 f4 f5⟩
 self:=fun _ _ _ _ _ st h=>wpAny_pyIter_listiter st h
theorem y7z{P:Program}{w:World}{K:PySem.W.Frag}{tg:Expr}(a it:Addr):Turn P w K tg (Itt K a) [it] it (fun i h=>h.IsTupleIter it a i) where
 mem:=by simp
 obj:=fun i h st b hb=>by
  have e:b=it:=by simpa using hb
  subst e
  obtain⟨o,e,c,d⟩:=st
  exact⟨o,e,fun v z=>by rw[d] at z;cases z⟩
 keep:=fun i h h' st k=>st.at fun o e=>k it (by simp) o e
 item:=by
  intro X hP hw hK hc i pins s σ H E I hf st hg
  subst hP hw hK
  obtain⟨xs,x,hq,hx⟩:=hg
  obtain⟨its,rv,p,hz⟩:=I.tuple hq
  obtain⟨u,hu,ru⟩:=rv.get hx
  obtain⟨f0,f1,f2,f3,f4,f5⟩:=hf it (by simp)
  refine wpAny_pyNext_tuple_item st (show s.heap.IsTuple a its.toArray from p) (x:=u) (by simpa using hu) fun h' st' sb=>?_
  have I1:Inv X pins σ H { s with heap:=h' }:=I.turned (t':=s.toks) (fun b o hb e=>(sb.2 b hb).trans e) f0 f1 f3 f4 f5
  obtain⟨o,e,c,d⟩:=id st'
  exact⟨u,rfl,x4b (s:={ s with heap:=h' }) e c d (by decide) ⟨x,H,I1,ru,⟨rfl,fun ys hy=>by rw[I.tuple_inj hy hq];exact hx⟩,st',fun b hb=>(hf b hb).1⟩⟩
 done:=by
  intro X hP hw hK hc i pins s σ H E I hf st hg
  subst hP hw hK
  obtain⟨xs,hq,hx⟩:=hg
  obtain⟨its,rv,p,hz⟩:=I.tuple hq
  obtain⟨f0,f1,f2,f3,f4,f5⟩:=hf it (by simp)
  have hl:=rv.length
  exact wpAny_pyNext_tuple_end (I.ok.hd hc) st (show s.heap.IsTuple a its.toArray from p) (by simp;lia) fun h' eb=>⟨rfl,I.turned (t':=s.toks) (fun b o hb e=>eb b o hb e) f0 f1 f3 f4 f5⟩
 self:=fun _ _ _ _ _ st h=>wpAny_pyIter_tupleiter st h
theorem y8a{P:Program}{w:World}{K:PySem.W.Frag}{tg:Expr}(it:Addr)(lo:Int)(n:Nat):Turn P w K tg (Itr lo n) [it] it (fun i h=>IsRangeIter h it (lo+(i:Nat)*1) ((n:Int)-(i:Nat)) 1) where
 mem:=by simp
 obj:=fun i h st b hb=>by
  have e:b=it:=by simpa using hb
  subst e
  exact⟨_,st,fun v z=>by
   have z':Data.fields _=Data.cell v:=z
   cases z'⟩
 keep:=fun i h h' st k=>k it (by simp) _ st
 item:=by
  intro X hP hw hK hc i pins s σ H E I hf st hg
  subst hP hw hK
  obtain⟨f0,f1,f2,f3,f4,f5⟩:=hf it (by simp)
  have W:=Walks.range (prog:=X.prog) (w:=X.w) (I.ok.hd hc) it lo 1 n
  refine W.item i s _ _ hg st fun v h' tk hv st' kk=>?_
  obtain⟨t,rfl⟩:=hv
  have I1:Inv X pins σ H { s with heap:=h',toks:=tk }:=I.turned (fun b o hb e=>kk b o (by simpa using hb) e) f0 f1 f3 f4 f5
  refine⟨_,rfl,x4b (s:={ s with heap:=h',toks:=tk }) (n:="range_iterator") st' rfl rfl (by decide) ⟨.int (lo+i),H,I1,⟨t,?_⟩,⟨rfl,rfl⟩,st',fun b hb=>(hf b hb).1⟩⟩
  rw[Int.mul_one]
 done:=by
  intro X hP hw hK hc i pins s σ H E I hf st hg
  subst hP hw hK
  obtain⟨f0,f1,f2,f3,f4,f5⟩:=hf it (by simp)
  exact wpAny_pyNext_range_end (I.ok.hd hc) st (by have:n<=i:=hg;lia) fun h' eb=>⟨rfl,I.turned (t':=s.toks) (fun b o hb e=>eb b o hb e) f0 f1 f3 f4 f5⟩
 self:=fun _ _ _ _ _ st h=>wpAny_pyIter_rangeiter st h
end L2
namespace L2
open PySem PySem.Spec PyProof.Rows
section
variable {X:Cx}{tg:Expr}
theorem y7c{pins:List (Addr×Obj)}{σ:St}{H:Hp}{s:Shared}{R:It->Hp->Prop}{E:Value->Shared->Prop}{lo hi:Int}{t u v:Tok}{tk:Nat}(I:Inv X pins σ H s)(h1:-(2^62)<=lo)(h2:lo<2^62)(h3:-(2^62)<=hi)(h4:hi<2^62)
 (q:R (Itr lo (hi-lo).toNat) H):wpAny (model X.prog X.w) X.A (pyIter (.ref s.heap.objs.size)) (PIE X pins σ tg R) E { s with heap:=s.heap.push { cls:=.type "range",data:=.fields #[.int lo t,.int hi u,.int 1 v] },toks:=tk }:=by
 refine wpAny_pyIter_range (IsRange.new ..) (small_one h1 h2 h3 h4) ?_
 have I1:Inv X pins σ H { s with heap:=s.heap.push { cls:=.type "range",data:=.fields #[.int lo t,.int hi u,.int 1 v] },toks:=tk }:=I.kept fun b o e=>Heap.get?_push_of_some _ e
 refine⟨(s.heap.push { cls:=.type "range",data:=.fields #[.int lo t,.int hi u,.int 1 v] }).objs.size,[(s.heap.push { cls:=.type "range",data:=.fields #[.int lo t,.int hi u,.int 1 v] }).objs.size],_,_,H,rfl,
  I1.kept (t':=tk) fun b o e=>Heap.get?_push_of_some _ e,y8a _ lo (hi-lo).toNat,?_,fun b hb=>?_,q⟩
 ·have e1:lo+((0:Nat):Int)*1=lo:=by simp
  have e2:(((hi-lo).toNat:Nat):Int)-((0:Nat):Int)=Builtin.Range.rangeSize lo hi 1:=by rw[rangeSize_one];split<;>lia
  show IsRangeIter _ _ (lo+((0:Nat):Int)*1) ((((hi-lo).toNat:Nat):Int)-((0:Nat):Int)) 1
  rw[e1,e2]
  exact Heap.get?_push_size _ rfl
 ·have e:b=(s.heap.push { cls:=.type "range",data:=.fields #[.int lo t,.int hi u,.int 1 v] }).objs.size:=by simpa using hb
  subst e
  exact I1.fpOk (Nat.le_refl _) (I1.hok.fresh (Nat.le_refl _))
noncomputable def y0m(fp:List Addr)(h:Heap):List (Addr×Obj):=fp.filterMap fun b=>(h.get? b).map fun o=>(b,o)
theorem z3v{fp:List Addr}{h:Heap}{b:Addr}{o:Obj}(hb:b∈fp)(e:h.get? b=some o):(b,o)∈y0m fp h:=List.mem_filterMap.mpr ⟨b,hb,by rw[e];rfl⟩
theorem x0r{fp:List Addr}{h:Heap}{p:Addr×Obj}(hp:p∈y0m fp h):p.1∈fp/\h.get? p.1=some p.2:=by
 obtain⟨b,hb,e⟩:=List.mem_filterMap.mp hp
 cases q:h.get? b with
 | none=>rw[q] at e;cases e
 | some o =>
   rw[q] at e
   have e':(b,o)=p:=Option.some.inj e
   subst e'
   exact⟨hb,q⟩
theorem Inv.pinned{pins:List (Addr×Obj)}{σ:St}{H:Hp}{s:Shared}{fp:List Addr}(I:Inv X pins σ H s)(hf:∀b∈fp,FpOk X pins H b)(ho:∀b∈fp,∃o,s.heap.get? b=some o/\∀v,o.data ≠ .cell v):Inv X (pins++y0m fp s.heap) σ H s :=
 I.pins_of fun p hp=>(List.mem_append.mp hp).elim (fun z=>I.pin p (List.mem_append_right _ z)) fun z=>by
  obtain⟨hb,e⟩:=x0r z
  obtain⟨f0,f1,f2,_⟩:=hf p.1 hb
  obtain⟨o,e',d⟩:=ho p.1 hb
  rw[e] at e';cases e'
  exact⟨e,f0,f1,f2,d⟩
theorem Inv.unpinned{pins pl:List (Addr×Obj)}{σ:St}{H:Hp}{s:Shared}(I:Inv X (pins++pl) σ H s):Inv X pins σ H s:=I.pins_of fun p hp=>I.pin p (List.mem_append_right _ (List.mem_append_left _ hp))
end
end L2
namespace L2
open PySem PySem.Spec PyProof.Rows
noncomputable abbrev R2:=V->V->Hp->VK->Prop
noncomputable def OpR(X:Cx)(f:Value->Value->Sem Value)(r:R2):Prop :=
 ∀(pins:List (Addr×Obj)) (s:Shared) (σ:St) (H:Hp) (x y:V) (v u:Value) (Q:VK),Inv X pins σ H s->RelV x v->RelV y u->r x y H Q ->
  wpAny (model X.prog X.w) X.A (f v u) (EP X pins σ Q) X.xe s
noncomputable def z8a(X:Cx)(f:Value)(r:List V->Hp->VK->Prop):Prop :=
 ∀(pins:List (Addr×Obj)) (s:Shared) (σ:St) (H:Hp) (xs:List V) (us:List Value) (Q:VK),Inv X pins σ H s->Vals xs us->r xs H Q ->
  wpAny (model X.prog X.w) X.A (call f us) (EP X pins σ Q) X.xe s
noncomputable def rI(C:Int->Int->Prop)(g:Int->Int->V):R2:=fun x y H Q=>∃i j,x = .int i/\y = .int j/\C i j/\Q (g i j) H
noncomputable def rI0(g:Int->Int->V):R2:=fun x y H Q=>∃i j,x = .int i/\y = .int j/\Q (g i j) H
section
variable {X:Cx}{a b c:Expr}{ta tb tc:TE}{pos:Pos}
theorem opI{f:Value->Value->Sem Value}{C:Int->Int->Prop}{g:Int->Int->Int}
 (rule:∀(i j:Int) (t u:Tok) (s:Shared) (Q:Value->Shared->Prop) (E:Value->Shared->Prop),C i j->Q (.int (g i j) s.toks) { s with toks:=s.toks+1 }->wpAny (model X.prog X.w) X.A (f (.int i t) (.int j u)) Q E s) :
 OpR X f (rI C fun i j=>.int (g i j)):=by
 intro pins s σ H x y v u Q I rx ry h
 obtain⟨i,j,rfl,rfl,hc,q⟩:=h
 obtain⟨t,rfl⟩:=rx
 obtain⟨t',rfl⟩:=ry
 exact rule i j t t' s _ _ hc ⟨.int (g i j),H,I.tok _,⟨_,rfl⟩,q⟩
theorem opI0{f:Value->Value->Sem Value}{g:Int->Int->Int}
 (rule:∀(i j:Int) (t u:Tok) (s:Shared) (Q:Value->Shared->Prop) (E:Value->Shared->Prop),Q (.int (g i j) s.toks) { s with toks:=s.toks+1 }->wpAny (model X.prog X.w) X.A (f (.int i t) (.int j u)) Q E s) :
 OpR X f (rI0 fun i j=>.int (g i j)):=by
 intro pins s σ H x y v u Q I rx ry h
 obtain⟨i,j,rfl,rfl,q⟩:=h
 obtain⟨t,rfl⟩:=rx
 obtain⟨t',rfl⟩:=ry
 exact rule i j t t' s _ _ ⟨.int (g i j),H,I.tok _,⟨_,rfl⟩,q⟩
theorem opB0{f:Value->Value->Sem Value}{g:Int->Int->Bool}
 (rule:∀(i j:Int) (t u:Tok) (s:Shared) (Q:Value->Shared->Prop) (E:Value->Shared->Prop),Q (.bool (g i j)) s->wpAny (model X.prog X.w) X.A (f (.int i t) (.int j u)) Q E s) :
 OpR X f (rI0 fun i j=>.bl (g i j)):=by
 intro pins s σ H x y v u Q I rx ry h
 obtain⟨i,j,rfl,rfl,q⟩:=h
 obtain⟨t,rfl⟩:=rx
 obtain⟨t',rfl⟩:=ry
 exact rule i j t t' s _ _ ⟨.bl (g i j),H,I,rfl,q⟩
noncomputable def CDiv(i j:Int):Prop:=0<j/\j<1073741824
noncomputable def CPow(i j:Int):Prop:=0<=j/\j<=1000000/\i.natAbs<2^64
noncomputable def CMul(i j:Int):Prop:=(-(2^64)<i/\i<2^64)∨(-(2^64)<j/\j<2^64)
theorem CMul.ok{i j:Int}(h:CMul i j):IntMulOk i j:=by
 rcases h with ⟨h1,h2⟩ | ⟨h1,h2⟩
 ·exact .of_left (intBits_le_64 h1 h2)
 ·exact .of_right (intBits_le_64 h1 h2)
theorem x8h:OpR X (binaryOp .Add) (rI0 fun i j=>.int (i+j)):=opI0 fun _ _ _ _ _ _ _ q=>add_int q
theorem x8c:OpR X (binaryOp .Sub) (rI0 fun i j=>.int (i-j)):=opI0 fun _ _ _ _ _ _ _ q=>sub_int q
theorem x8e:OpR X (binaryOp .Mult) (rI CMul fun i j=>.int (i*j)):=opI fun _ _ _ _ _ _ _ hc q=>mul_int q hc.ok
theorem x6c:OpR X (binaryOp .FloorDiv) (rI CDiv fun i j=>.int (i/j)):=opI fun i j _ _ _ _ _ hc q=>by
 have h1:(0:Int)<j:=hc.1
 have h2:j<1073741824:=hc.2
 exact floordiv_int (by lia) (by rw[Int.fdiv_eq_ediv_of_nonneg i (by lia)];exact q) (.inl (PyProof.noPylong_small (by lia)))
theorem x8f:OpR X (binaryOp .Mod) (rI (fun _ j=>0<j) fun i j=>.int (i%j)):=opI fun i j _ _ _ _ _ hc q=>by
 have h1:(0:Int)<j:=hc
 exact mod_int' (by lia) (by rw[Int.fmod_eq_emod_of_nonneg i (by lia)];exact q)
theorem x8d:OpR X (binaryOp .Pow) (rI CPow fun i j=>.int (i^j.toNat)):=opI fun _ _ _ _ _ _ _ hc q=>pow_int_small hc.1 hc.2.1 hc.2.2 q
end
section
variable {X:Cx}{a b c:Expr}{ta tb tc:TE}{pos:Pos}
theorem x8x{pins:List (Addr×Obj)}{σ:St}{H:Hp}{s:Shared}{Q:VK}{k k':Bool}(I:Inv X pins σ H s)(q:Q (.bl k) H)(e:k=k'):EP X pins σ Q (.bool k') s:=by
 subst e
 exact⟨.bl k,H,I,rfl,q⟩
theorem x9q:OpR X (compareOp .Lt) (rI0 fun i j=>.bl (decide (i<j))):=opB0 fun _ _ _ _ _ _ _ q=>lt_int q
theorem x9r:OpR X (compareOp .LtE) (rI0 fun i j=>.bl (decide (i<=j))):=opB0 fun _ _ _ _ _ _ _ q=>le_int q
theorem x9s:OpR X (compareOp .Gt) (rI0 fun i j=>.bl (decide (j<i))):=opB0 fun _ _ _ _ _ _ _ q=>gt_int q
theorem x6b:OpR X (compareOp .IsNot) (fun x y H Q=>y = .non/\Q (.bl (!decide (x = .non))) H):=by
 intro pins s σ H x y v u Q I rx ry h
 obtain⟨rfl,q⟩:=h
 cases ry
 refine isnot_none_gen (x8x I q ?_)
 cases x<;>first
  | (cases rx;rfl)
  | (obtain⟨t,rfl⟩:=rx;rfl)
theorem OpR.or{f:Value->Value->Sem Value}{r r':R2}(h:OpR X f r)(h':OpR X f r'):OpR X f (fun x y H Q=>r x y H Q∨r' x y H Q):=by
 intro pins s σ H x y v u Q I rx ry q
 rcases q with q | q
 ·exact h pins s σ H x y v u Q I rx ry q
 ·exact h' pins s σ H x y v u Q I rx ry q
theorem z1u(b:Expr){op:CmpOp}(h:op ≠ .In:=by decide)(h2:op ≠ .NotIn:=by decide):behindInMarks op b=false:=by
 have e1:(op==CmpOp.In)=false:=by cases op<;>first | rfl | exact absurd rfl h
 have e2:(op==CmpOp.NotIn)=false:=by cases op<;>first | rfl | exact absurd rfl h2
 cases b<;>simp[behindInMarks,e1,e2]
theorem y7m:(sizeLine:Nat)<2^63:=by rw[sizeLine_eq];decide
theorem y3v{x:V}{us:List Value}(r:Vals [x] us):∃u,us=[u]/\RelV x u:=by
 cases r with
 | cons r1 r2=>cases r2;exact⟨_,rfl,r1⟩
theorem x7f{x y:V}{us:List Value}(r:Vals [x,y] us):∃u w',us=[u,w']/\RelV x u/\RelV y w':=by
 cases r with
 | cons r1 r2 =>
   cases r2 with
   | cons r3 r4=>cases r4;exact⟨_,_,rfl,r1,r3⟩
theorem x2g(hc:X.calm=true):z8a X (.builtin "max") (fun xs H Q=>∃i j,xs=[.int i,.int j]/\Q (.int (if j>i then j else i)) H):=by
 intro pins s σ H xs us Q I r h
 obtain⟨i,j,rfl,q⟩:=h
 obtain⟨u,w',rfl,⟨t,rfl⟩,⟨t',rfl⟩⟩:=x7f r
 refine max_two_ints (I.ok.hd hc) fun h' tk k=>⟨_,H,I.kept k,?_,q⟩
 by_cases hj:j>i
 ·rw[if_pos hj,if_pos hj];exact⟨_,rfl⟩
 ·rw[if_neg hj,if_neg hj];exact⟨_,rfl⟩
theorem x2f(hc:X.calm=true):z8a X (.builtin "min") (fun xs H Q=>∃i j,xs=[.int i,.int j]/\Q (.int (if j<i then j else i)) H):=by
 intro pins s σ H xs us Q I r h
 obtain⟨i,j,rfl,q⟩:=h
 obtain⟨u,w',rfl,⟨t,rfl⟩,⟨t',rfl⟩⟩:=x7f r
 refine min_two_ints (I.ok.hd hc) fun h' tk k=>⟨_,H,I.kept k,?_,q⟩
 by_cases hj:j<i
 ·rw[if_pos hj,if_pos hj];exact⟨_,rfl⟩
 ·rw[if_neg hj,if_neg hj];exact⟨_,rfl⟩
end
end L2
namespace L2
open PySem PySem.Spec PyProof.Rows
structure ObjM (h:Heap) (x dx C:Addr) (mA:Str->Option Value):Prop where
 obj:h.get? x=some (PySem.W.instObj C dx)
 ns:h.Ns1 dx mA
 ne:dx≠x
section
variable {prog:Program}{w:World}{A:Around}{E:Value->Shared->Prop}{s:Shared}{K:PySem.W.Frag}{x dx C f:Addr}{mA:Str->Option Value}{name:Str}{v:Value}
end
section
variable {P:Program}{w:World}{H H':Hp}{h h':Heap}{a C dx:Addr}{fs fs':List (Str×V)}
end
structure Cls (K:PySem.W.Frag) (C:Addr):Prop where
 pg:PySem.W.plainGet K C Str.empty=true
 hd:PySem.W.hasDictIn K C=true
 po:PySem.W.plainOver K C=true
 sa:PySem.W.findIn K (.ref C) "__setattr__"=some (some (.builtin "object.__setattr__"))
structure Con (K:PySem.W.Frag) (C:Addr) (f:Str) (v:V) (u:Value):Prop where
 at_:PySem.W.findIn K (.ref C) f=some (some u)
 rel:RelV v u
 get:PySem.W.specialIn K u "__get__"=some none
 cp:PySem.W.copiedNames.contains f=false
structure Meth (K:PySem.W.Frag) (C:Addr) (m:Str) (f:Addr):Prop where
 at_:PySem.W.findIn K (.ref C) m=some (some (.ref f))
 fn:PySem.W.isFn K (.ref f)=true
 kp:PySem.W.keepIn K (.ref f)=true
section
variable {X:Cx}{pins:List (Addr×Obj)}{σ:St}{H:Hp}{s:Shared}{a C dx:Addr}{fs:List (Str×V)}{f:Str}{v:V}{A:Around}{E:Value->Shared->Prop}
end
section
variable {X:Cx}{o e value:Expr}{f:Str}{pos pos' tpos:Pos}{ta tv:TE}
end
section
variable {X:Cx}{pins:List (Addr×Obj)}{σ:St}{H:Hp}{s:Shared}{A:Around}{E:Value->Shared->Prop}{Q:Value->Shared->Prop}{c:Value}{b:Bool}
inductive TyOf (K:PySem.W.Frag) (H:Hp):V->Value->Prop where
 | non:TyOf K H .non (.type "NoneType")
 | bl (x:Bool):TyOf K H (.bl x) (.type "bool")
 | int (i:Int):TyOf K H (.int i) (.type "int")
 | str (x:Str):TyOf K H (.str x) (.type "str")
 | flt (x:UInt64):TyOf K H (.flt x) (.type "float")
 | lst {a:Addr} {xs:List V} (e:H a=some (.lst xs)):TyOf K H (.ref a) (.type "list")
 | frz {a:Addr} {o:Obj} {xs:List V} (e:H a=some (.frz o (.lst xs))):TyOf K H (.ref a) (.type "list")
 | tup {a:Addr} {xs:List V} (e:H a=some (.tup xs)):TyOf K H (.ref a) (.type "tuple")
 | dK {a:Addr} {kvs:List (Key×V)} (e:H a=some (.dK kvs)):TyOf K H (.ref a) (.type "dict")
 | dT {a:Addr} {kvs:List (List Key×V)} (e:H a=some (.dT kvs)):TyOf K H (.ref a) (.type "dict")
 | ins {a C dx:Addr} {fs:List (Str×V)} (e:H a=some (.ins C dx fs)) (cl:Cls K C) (ha:PySem.W.findIn K (.ref C) "__class__"=some (some (.builtin "object.__class__")))
    (hn:PySem.W.specialIn K (.builtin "object.__class__") "__get__"=some (some (.builtin "getset_descriptor.__get__"))) (htk:PySem.W.takesIn K (.builtin "object.__class__")=some true)
    (hm:PySem.W.mroIn K C (.type "object")=some true):TyOf K H (.ref a) (.ref C)
end
end L2
namespace L2
open PySem PySem.Spec PyProof.Rows
structure Room (k:Nat) (A:Around):Prop where
 hd:A.handled=none
 dp:A.depth+3*k+5<recursionLimit
 un:A.units+16*k+200<cLine
theorem Room.mono{j k:Nat}{A:Around}(r:Room k A)(h:j<=k):Room j A:=⟨r.hd,by have:=r.dp;lia,by have:=r.un;lia⟩
theorem Room.deeper{k:Nat}{A:Around}(r:Room (k+1) A)(env:Env):Room k (A.deeper env) :=
 ⟨r.hd,by have:=r.dp;show A.depth+1+3*k+5<_;lia,by have:=r.un;show A.units+3+16*k+200<_;lia⟩
theorem Room.depth{k:Nat}{A:Around}(r:Room k A):A.depth<recursionLimit:=by have:=r.dp;lia
theorem Room.units{k:Nat}{A:Around}(r:Room k A):A.units+64<cLine:=by have:=r.un;lia
section
variable {X:Cx}{e:Expr}{es:List Expr}{te:TE}{t:TA}{pos:Pos}
end
noncomputable abbrev Sp:=List V->Hp->VK->XK->Prop
noncomputable abbrev CXT:=List Env->Hp->Shared->XK->Value->Shared->Prop
structure Env0 (P:Program) (w:World) (K:PySem.W.Frag) (mg:Str->Option Value) (base:Heap) (A:Around) (outer:List Env) (s:Shared) (H:Hp):Prop where
 frames:A.frames=some outer
 mod:Mod K mg base
 bs:∀b o,base.get? b=some o->s.heap.get? b=some o/\H b=none
 bsz:base.objs.size<=s.heap.objs.size
 funs:s.heap.FunFrames base outer
 frf:∀b∈frs outer,H b=none
 hok:HOk P w H s.heap
 bare:AllBare s.gens
noncomputable def CE(outer:List Env)(P:Program)(w:World)(H:Hp)(s:Shared)(Q:VK)(u:Value)(s':Shared):Prop :=
 ∃v H',s'.os=s.os/\AllBare s'.gens/\Un (frs outer) [] H H' s.heap s'.heap/\HOk P w H' s'.heap/\RelV v u/\Q v H'
noncomputable def CR(CX:CXT)(outer:List Env)(P:Program)(w:World)(H:Hp)(s:Shared)(Q:VK)(E:XK)(r:Result)(s':Shared):Prop :=
 match r with
 | .ok (.ret u)=>CE outer P w H s Q u s'
 | .ok _=>False
 | .error e=>CX outer H s E e s'
structure FnOk (P:Program) (w:World) (K:PySem.W.Frag) (mg:Str->Option Value) (base:Heap) (CX:CXT) (k:Nat) (f:Addr) (fd:FuncData) (ps:List Str) (sp:Sp):Prop where
 len:∀vs H Q E,sp vs H Q E->vs.length=ps.length
 run:∀(A:Around) (outer:List Env) (s:Shared) (H:Hp) (args:Args) (us:List Value) (vs:List V) (Q:VK) (E:XK),Room k A->Env0 P w K mg base A outer s H->BindsTo s fd args (ps.zip us)->Vals vs us->sp vs H Q E ->
  codeAny (model P w) A (.call (.ref f) args) (CR CX outer P w H s Q E) s
theorem FnOk.mono{P:Program}{w:World}{K:PySem.W.Frag}{mg:Str->Option Value}{base:Heap}{CX:CXT}{j k:Nat}{f:Addr}{fd:FuncData}{ps:List Str}{sp:Sp}(F:FnOk P w K mg base CX j f fd ps sp)(h:j<=k) :
 FnOk P w K mg base CX k f fd ps sp:=⟨F.len,fun A outer s H args us vs Q E hr=>F.run A outer s H args us vs Q E (hr.mono h)⟩
theorem FnOk.imp{P:Program}{w:World}{K:PySem.W.Frag}{mg:Str->Option Value}{base:Heap}{CX:CXT}{k:Nat}{f:Addr}{fd:FuncData}{ps:List Str}{sp sp':Sp}(F:FnOk P w K mg base CX k f fd ps sp)
 (h:∀vs H Q E,sp' vs H Q E->sp vs H Q E):FnOk P w K mg base CX k f fd ps sp' :=
 ⟨fun vs H Q E q=>F.len vs H Q E (h _ _ _ _ q),fun A outer s H args us vs Q E hr he hb hv hs=>F.run A outer s H args us vs Q E hr he hb hv (h _ _ _ _ hs)⟩
section
variable {X:Cx}{pins:List (Addr×Obj)}{σ:St}{H:Hp}{s s':Shared}
theorem Inv.env0(I:Inv X pins σ H s):Env0 X.prog X.w X.K X.mg X.base X.A X.stack s H :=
 ⟨I.ok.frames,I.ok.mod,I.bs,Nat.le_trans I.ok.bsz I.sz,I.stack,I.stkFree,I.hok,I.bare⟩
theorem Inv.after{Q:VK}{u:Value}(I:Inv X pins σ H s)(h:CE X.stack X.prog X.w H s Q u s'):EP X pins σ Q u s':=by
 obtain⟨v,H',os,bare,un,hok,r,q⟩:=h
 obtain⟨hh,g,d,t,os'⟩:=s'
 obtain rfl:os'=s.os:=os
 exact⟨v,H',I.call (h':=hh) (g':=g) (d':=d) (t':=t) (ch:=[]) un hok bare (fun b z=>absurd z (by simp)),r,q⟩
end
noncomputable def z1s(K:PySem.W.Frag)(fd:FuncData)(ps:List Str)(ds:List Value):Prop :=
 ∀(s:Shared) (us:List Value),K.In s.heap->(us++ds).length=ps.length->BindsTo s fd ⟨us,[]⟩ (ps.zip (us++ds))
theorem z1s.all{K:PySem.W.Frag}{fd:FuncData}{ps:List Str}(h:∀us:List Value,us.length=ps.length->bindArgs fd ⟨us,[]⟩=pure (ps.zip us)):z1s K fd ps []:=fun s us _ hl=>by
 rw[List.append_nil] at hl ⊢
 exact .of_eq (h us hl)
section
variable {X:Cx}{CX:CXT}{k:Nat}{f C:Addr}{fd:FuncData}{ps:List Str}{sp:Sp}{dvs:List V}{ds:List Value}{E:XK}{x m:Str}{p pos apos:Pos}{e o:Expr}{es:List Expr}{ta:TE}{t:TA}
structure Mk (K:PySem.W.Frag) (C f:Addr):Prop where
 makes:PySem.W.makesIn K C=true
 init:PySem.W.findIn K (.ref C) "__init__"=some (some (.ref f))
 fn:PySem.W.isFn K (.ref f)=true
 kp:PySem.W.keepIn K (.ref C)=true
end
section
variable {X:Cx}{CX:CXT}{k:Nat}{f C:Addr}{fd:FuncData}{ps ks:List Str}{sp:Sp}{E:XK}{x m:Str}{p pos apos kpos:Pos}{e o:Expr}{es:List Expr}{kws:List Keyword}{te ta:TE}{t tk:TA}{nm:Option Str}
structure KBinds (K:PySem.W.Frag) (fd:FuncData) (ps ks:List Str) (g:List Value->List Value->List Value) (gV:List V->List V->List V):Prop where
 to:∀(s:Shared) (us ws:List Value),K.In s.heap->(g us ws).length=ps.length->BindsTo s fd ⟨us,ks.zip ws⟩ (ps.zip (g us ws))
 rel:∀{vs:List V} {us:List Value} {zs:List V} {ws:List Value},Vals vs us->Vals zs ws->Vals (gV vs zs) (g us ws)
variable {g:List Value->List Value->List Value}{gV:List V->List V->List V}
end
structure FnScope (N P:List Str) (sc:Scope):Prop where
 kind:sc.kind = .function
 co:sc.isCoroutine=false
 gen:sc.isGenerator=false
 nd:N.Nodup
 pre:N.take P.length=P
 par:∀x∈P,sc.names.lookup x=some .local∨sc.names.lookup x=some .cell
 nofree:∀y∈sc.names,y.2 ≠ .free
theorem y5k{kindOf:Str->Option NameKind}{x:Str}:∀{binds:List (Str×Value)} {m:Str->Option Value},(∀v,(x,v) ∉ binds)->bindL kindOf binds m x=m x
 | [],_,_=>rfl
 | (n,v)::r,m,h=>by
   unfold bindL
   rw[y5k fun w hw=>h w (List.mem_cons_of_mem _ hw)]
   split
   ·have:x≠n:=by rintro rfl;exact h v List.mem_cons_self
    simp[this]
   ·rfl
theorem y5m{kindOf:Str->Option NameKind}{x:Str}:∀{binds:List (Str×Value)} {m:Str->Option Value},(∀v,(x,v) ∉ binds)->bindC kindOf binds m x=m x
 | [],_,_=>rfl
 | (n,v)::r,m,h=>by
   unfold bindC
   rw[y5m fun w hw=>h w (List.mem_cons_of_mem _ hw)]
   split
   ·rfl
   ·have:x≠n:=by rintro rfl;exact h v List.mem_cons_self
    simp[this]
theorem y5l{kindOf:Str->Option NameKind}{x:Str}{v:Value}:∀{P:List Str} {vs:List Value} {i:Nat} {m:Str->Option Value},P.Nodup->P[i]? = some x->vs[i]? = some v->kindOf x=some .local ->
 bindL kindOf (P.zip vs) m x=some v
 | [],_,_,_,_,h,_,_=>by simp at h
 | _::_,[],_,_,_,_,h,_=>by simp at h
 | p::P,w::vs,0,m,nd,h1,h2,hk=>by
   simp at h1 h2;subst h1;subst h2
   show bindL kindOf ((p,w)::P.zip vs) m p=_
   unfold bindL
   rw[y5k fun v hv=>(List.nodup_cons.mp nd).1 (List.of_mem_zip hv).1,if_pos hk]
   simp
 | p::P,w::vs,i+1,m,nd,h1,h2,hk=>by
   show bindL kindOf ((p,w)::P.zip vs) m x=_
   unfold bindL
   exact y5l (i:=i) (List.nodup_cons.mp nd).2 (by simpa using h1) (by simpa using h2) hk
theorem y5n{kindOf:Str->Option NameKind}{x:Str}{v:Value}:∀{P:List Str} {vs:List Value} {i:Nat} {m:Str->Option Value},P.Nodup->P[i]? = some x->vs[i]? = some v->kindOf x≠some .local ->
 bindC kindOf (P.zip vs) m x=some v
 | [],_,_,_,_,h,_,_=>by simp at h
 | _::_,[],_,_,_,_,h,_=>by simp at h
 | p::P,w::vs,0,m,nd,h1,h2,hk=>by
   simp at h1 h2;subst h1;subst h2
   show bindC kindOf ((p,w)::P.zip vs) m p=_
   unfold bindC
   rw[y5m fun v hv=>(List.nodup_cons.mp nd).1 (List.of_mem_zip hv).1,if_neg hk]
   simp
 | p::P,w::vs,i+1,m,nd,h1,h2,hk=>by
   show bindC kindOf ((p,w)::P.zip vs) m x=_
   unfold bindC
   exact y5n (i:=i) (List.nodup_cons.mp nd).2 (by simpa using h1) (by simpa using h2) hk
noncomputable def start(N:List Str)(vs:List V):St:=vs.map some++List.replicate (N.length-vs.length) none
noncomputable def cxOf(CX:CXT)(P:Program)(w:World)(K:PySem.W.Frag)(mg:Str->Option Value)(base:Heap)(N:List Str)(qual:Str)(scope:Scope)(f:Addr)(cd:Value)(A:Around)(outer:List Env)(s:Shared)(H:Hp)(E:XK):Cx where
 prog:=P
 w:=w
 K:=K
 mg:=mg
 base:=base
 A:=A.deeper (envOfC qual scope s.heap.objs.size f cd)
 N:=N
 s₀:=s
 H₀:=H
 env:=envOfC qual scope s.heap.objs.size f cd
 outer:=outer
 stack:=envOfC qual scope s.heap.objs.size f cd::outer
 ex:=[]
 calm:=true
 fn:=fun _=>true
 pn:=[]
 xe:=fun e s'=>wpAny (model P w) (A.deeper (envOfC qual scope s.heap.objs.size f cd)) (leaving (envOfC qual scope s.heap.objs.size f cd) e) (fun _ s''=>CX outer H s E e s'') (fun e' s''=>CX outer H s E e' s'') s'
theorem y7v{sc:Scope}{n:Nat}{x:Str}(h:sc.names.lookup x=some .cell):∃c,(cellsFrom n sc.names []).lookup x=some c:=by
 have q:=PySem.W.cellsFrom_some sc.names n [] (.inl h)
 exact Option.isSome_iff_exists.mp q
theorem x1m{CX:CXT}{P:Program}{w:World}{K:PySem.W.Frag}{mg:Str->Option Value}{base:Heap}{N ps:List Str}{qual:Str}{scope:Scope}{f:Addr}{cd:Value}{A:Around}{outer:List Env}{s s1:Shared}{H:Hp}{E:XK}{us:List Value}{vs:List V}
 (S:FnScope N ps scope) (hd:A.handled=none) (e0:Env0 P w K mg base A outer s H) (hl:vs.length=ps.length) (r:Vals vs us)
 (x:InCallC s s.heap.objs.size (bindL (envOfC qual scope s.heap.objs.size f cd).kindOf (ps.zip us) fun _=>none) (cellsFrom (s.heap.objs.size+1) scope.names []) (bindC (envOfC qual scope s.heap.objs.size f cd).kindOf (ps.zip us) fun _=>none) s1) :
 Inv (cxOf CX P w K mg base N qual scope f cd A outer s H E) [] (start N vs) H s1:=by
 have hpl:ps.length<=N.length:=by have:=congrArg List.length S.pre;rw[List.length_take] at this;lia
 obtain⟨h1,tk,rfl,hk⟩:=x.done
 have noA:∀b:Addr,b ∉ (cxOf CX P w K mg base N qual scope f cd A outer s H E).ex:=fun b z=>absurd (show b∈([]:List Addr) from z) (by simp)
 refine⟨⟨e0.mod,S.kind,rfl,rfl,Nat.le_refl _,fun y z c h1 h2=>?_,fun y hy=>?_,fun y c _ h=>?_,fun _=>hd,Around.frames_deeper e0.frames,.inr ⟨rfl,rfl⟩,fun b z=>absurd z (noA b),e0.bs,e0.bsz,fun b _ _=>noA b,fun b z=>absurd z (noA b),e0.funs,e0.frf⟩,
  rfl,e0.bare,Un.kept hk,⟨_,x.toInCall.ns,fun i y v h1 h2 h3=>?_⟩,fun y c h=>⟨_,x.cell y c h⟩,e0.hok.fresh (Nat.le_refl _),fun y c h=>?_,fun p hp=>absurd (show p∈([]:List (Addr×Obj)) from hp) (by simp),e0.hok.kept hk,?_⟩
 ·exact name_of_addr x.apart (PySem.mem_of_lookup h1) (PySem.mem_of_lookup h2)
 ·have hy:scope.names.lookup y=some .cell∨scope.names.lookup y=some .free:=hy
  rcases hy with hy | hy
  ·exact y7v hy
  ·exact absurd rfl (S.nofree _ (PySem.mem_of_lookup hy))
 ·exact Nat.le_of_lt (x.above y c (PySem.mem_of_lookup h))
 ·have hi:i<vs.length:=by
   unfold start at h2
   by_cases hi:i<vs.length
   ·exact hi
   ·rw[List.getElem?_append_right (by simpa using hi)] at h2
    rw[List.getElem?_replicate] at h2
    split at h2<;>cases h2
  have ha:vs[i]? = some v:=by
   unfold start at h2
   rw[List.getElem?_append_left (by simpa using hi),List.getElem?_map] at h2
   cases e:vs[i]? with
   | none=>rw[e] at h2;cases h2
   | some a=>rw[e] at h2;cases h2;rfl
  obtain⟨u,hu,rv⟩:=r.get ha
  have hp:ps[i]? = some y:=by
   rw[<-S.pre,List.getElem?_take_of_lt (by lia)];exact h1
  have ndP:ps.Nodup:=by rw[<-S.pre];exact S.nd.sublist (List.take_sublist _ _)
  refine⟨u,rv,?_⟩
  rcases S.par y (List.mem_of_getElem? hp) with k | k
  ·exact .inl ⟨k,y5l ndP hp hu k⟩
  ·obtain⟨c,e⟩:=y7v (n:=s.heap.objs.size+1) k
   refine .inr ⟨.inl k,c,e,?_⟩
   have q:=x.cell y c e
   rw[y5n ndP hp hu (by show scope.names.lookup y≠_;rw[k];decide)] at q
   exact q
 ·exact e0.hok.fresh (Nat.le_of_lt (x.above y c (PySem.mem_of_lookup h)))
 ·unfold start
  show _=N.length
  rw[List.length_append,List.length_map,List.length_replicate]
  lia
theorem x4d{CX:CXT}{P:Program}{w:World}{K:PySem.W.Frag}{mg:Str->Option Value}{base:Heap}{k:Nat}{f:Addr}{name qual:Str}{params:Arguments}{body:List Stmt}{scope:Scope}{dV kV doc pm cdv ct oc:Value}{an od:Option Addr}
 {osl:Array (Option Value)} {N ps:List Str} {sp:Sp} (lk:K.lookup f=some ⟨oc,od,.func (PySem.W.fnOf name qual params body scope dV kV doc pm an cdv ct),osl⟩) (hcd:PySem.W.codeIn K cdv qual=true) (S:FnScope N ps scope)
 (len:∀vs H Q E,sp vs H Q E->vs.length=ps.length)
 (hbody:∀(A:Around) (outer:List Env) (s:Shared) (H:Hp) (vs:List V) (Q:VK) (E:XK),Room k (A.deeper (envOfC qual scope s.heap.objs.size f cdv))->sp vs H Q E ->
   ∃t,PSs (cxOf CX P w K mg base N qual scope f cdv A outer s H E) body t/\t { nx:=fun _ H'=>Q .non H',rt:=Q } (start N vs) H) :
 FnOk P w K mg base CX (k+1) f (PySem.W.fnOf name qual params body scope dV kV doc pm an cdv ct) ps sp:=by
 refine⟨len,fun A outer s H args us vs Q E hr e0 hb r hsp=>?_⟩
 have hl:=len _ _ _ _ hsp
 have KX:K.In s.heap:=e0.mod.kin.keeps fun b o e=>(e0.bs b o e).1
 have lim:s.heap.NoLimit:=e0.mod.nolimit.keeps fun b o e=>(e0.bs b o e).1
 have hkind:∀y∈ps.zip us,scope.names.lookup y.1=some .local∨(scope.names.lookup y.1=some .cell/\((cellsFrom (s.heap.objs.size+1) scope.names []).lookup y.1).isSome=true):=fun⟨n,v⟩ hy=>by
  rcases S.par n (List.of_mem_zip hy).1 with q | q
  ·exact .inl q
  ·exact .inr ⟨q,PySem.W.cellsFrom_some _ _ _ (.inl q)⟩
 refine codeAny_call_function hr.depth (KX _ _ lk) rfl S.co S.gen rfl (PySem.W.codeRec_of KX hcd) (hb _ _ _ _ ?_)
 refine wpAny_newFunctionEnv_cells S.kind hkind fun env he s1 x=>?_
 subst he
 refine⟨lim.keeps x.toInCall.keep,codeAny_func ?_⟩
 obtain⟨t,ht,hq⟩:=hbody A outer s H vs Q E (hr.deeper _) hsp
 have I:Inv (cxOf CX P w K mg base N qual scope f cdv A outer s H E) [] (start N vs) H s1:=x1m S hr.hd e0 hl r x
 refine wpAny_mono (ht [] s1 (start N vs) H _ I hq) (fun fl s' hs=>?_) fun e s' hs=>hs
 have fin:∀{σ':St} {H':Hp} {v:V} {u:Value},Inv (cxOf CX P w K mg base N qual scope f cdv A outer s H E) [] σ' H' s'->RelV v u->Q v H'->CE outer P w H s Q u s' :=
  fun {σ' H' v u} J rv q=>⟨v,H',J.os,J.bare,J.base,J.hok,rv,q⟩
 cases fl with
 | ret u =>
   obtain⟨v,σ',H',J,rv,q⟩:=hs
   exact fin J rv q
 | next =>
   obtain⟨σ',H',J,q⟩:=hs
   exact fin (v:=V.non) (u:=Value.none) J rfl q
 | brk =>
   obtain⟨_,_,_,q⟩:=hs
   exact False.elim q
 | cont =>
   obtain⟨_,_,_,q⟩:=hs
   exact False.elim q
end L2
namespace L2
open PySem PySem.Spec PyProof.Rows
section
variable {X:Cx}{x:Str}{p pos:Pos}{e:Expr}{es:List Expr}{t:TA}{id T:String}{r:List V->Hp->VK->Prop}
end
end L2
namespace HT
open PySem PyProof.Rows
section
open PySem.SeqAt
open PySem.AutoSeq1 (wpAny_loadPart')
open PySem.MeetsSeq PySem.MeetsSeq2 PySem.MeetsSeq3
end
section
variable {prog:Program}{w:World}{A:Around}{E:Value->Shared->Prop}{s:Shared}
theorem cat_tup{t b:Addr}{vs ws:List Value}{Q:Value->Shared->Prop}(ht:IsTup s.heap t vs.toArray)(hb:IsTup s.heap b ws.toArray)(hv:vs≠[])
 (h1:ws=[]->Q (.ref t) s) (h2:ws≠[]->Q (.ref s.heap.objs.size) { s with heap:=s.heap.push { cls:=.type "tuple",data:=.seq (vs++ws).toArray } })
 (hsz:vs.length+ws.length<=sizeLine):wpAny (model prog w) A (binaryOp .Add (.ref t) (.ref b)) Q E s:=by
 obtain⟨⟨cls,dd,data,sl⟩,ho,hc,n,hd⟩:=id ht
 obtain⟨⟨cls2,dd2,data2,sl2⟩,ho2,hc2,n2,hd2⟩:=id hb
 simp only at hc hd hc2 hd2
 subst hc hd hc2 hd2
 have e:vs.toArray++ws.toArray=(vs++ws).toArray:=by simp
 by_cases hw:ws=[]
 ·exact concat_meets ⟨_,ho,rfl⟩ ⟨_,ho2,rfl⟩ noFill_tuple_add seq_tuple_add PySem.F.slot_tuple_add PySem.F.entry_tuple_add (PySem.F.args_tuple_add_2 _ _)
   (tuple_addW1 t b vs.toArray ws.toArray n n2 dd dd2 sl sl2 (by simpa using hv) (by simp[hw])) ⟨ho,ho2,h1 hw⟩
 ·refine concat_meets ⟨_,ho,rfl⟩ ⟨_,ho2,rfl⟩ noFill_tuple_add seq_tuple_add PySem.F.slot_tuple_add PySem.F.entry_tuple_add (PySem.F.args_tuple_add_2 _ _)
   (tuple_addW2 t b vs.toArray ws.toArray n n2 dd dd2 sl sl2 (by simpa using hv) (by simpa using hw) (by rw[List.size_toArray,List.size_toArray];exact hsz)) ⟨ho,ho2,?_⟩
  rw[e]
  exact h2 hw
noncomputable def sIx(n d:Nat):Option Int->Nat
 | none=>d
 | some v=>if v<0 then (v+(n:Int)).toNat else min v.toNat n
theorem x7r(n d:Nat)(hd:d<=n)(o:Option Int):sIx n d o<=n:=by
 cases o with
 | none=>exact hd
 | some v =>
   show(if v<0 then (v+(n:Int)).toNat else min v.toNat n)<=n
   by_cases hv:v<0
   ·rw[if_pos hv];lia
   ·rw[if_neg hv];exact Nat.min_le_right _ _
theorem x2e(v:Int)(n d:Nat):(if v<0 then max (v+(n:Int)) 0 else min v (n:Int))=((sIx n d (some v):Nat):Int):=by
 show(if v<0 then max (v+(n:Int)) 0 else min v (n:Int))=(((if v<0 then (v+(n:Int)).toNat else min v.toNat n):Nat):Int)
 by_cases hv:v<0
 ·simp only[if_pos hv];lia
 ·simp only[if_neg hv];lia
theorem y9j(lo hi:Option Int)(n:Nat):Builtin.Slice.sliceAdjust lo hi 1 (n:Int)=(((sIx n 0 lo:Nat):Int),((sIx n n hi:Nat):Int)):=by
 have h1:¬((1:Int)<0):=by lia
 unfold Builtin.Slice.sliceAdjust
 simp only[h1,if_false]
 refine Prod.ext ?_ ?_
 ·cases lo with
  | none=>rfl
  | some v=>exact x2e v n 0
 ·cases hi with
  | none=>rfl
  | some v=>exact x2e v n n
theorem y8o(i j:Nat):Builtin.Slice.slicePlaces (i:Int) (j:Int) 1=j-i:=by
 unfold Builtin.Slice.slicePlaces
 have h1:(1:Int)>0:=by lia
 simp only[h1,if_true,Int.ediv_one]
 split<;>lia
theorem y2b{v:Value}{o:Option Int}{Q:Option Int->Shared->Prop}(p:IsPart v o)(h:Q o s):wpAny (model prog w) A (Builtin.Slice.slicePartIndex v) Q E s:=by
 cases p with
 | none=>exact slicePart_none h
 | int i t=>exact slicePart_int h
theorem z7b{sl:Addr}{vl vu:Value}{lo hi:Option Int}{n:Nat}{Q:Int×Int×Nat->Shared->Prop}(hs:s.heap.IsSliceOf sl vl vu .none)(pl:IsPart vl lo)(pu:IsPart vu hi)
 (h:Q (((sIx n 0 lo:Nat):Int),1,sIx n n hi-sIx n 0 lo) s):wpAny (model prog w) A (Builtin.Slice.sliceApplied (.ref sl) (pure (n:Int))) Q E s:=by
 obtain⟨os,hos,hcs,hds⟩:=id hs
 unfold Builtin.Slice.sliceApplied Builtin.Slice.sliceFields
 refine wpAny_bind (wpAny_bind (wpAny_field hos hds (x:=vl) rfl (wpAny_bind (wpAny_field hos hds (x:=vu) rfl (wpAny_bind (wpAny_field hos hds (x:=.none) rfl (wpAny_pure ?_)))))))
 refine wpAny_bind (slicePart_none ?_)
 show wpAny _ _ (if ((1:Int)==0)=true then _ else _) _ _ s
 rw[if_neg (by decide)]
 refine wpAny_bind (y2b pl (wpAny_bind (y2b pu (wpAny_bind (wpAny_pure ?_)))))
 show wpAny _ _ (match Builtin.Slice.sliceAdjust lo hi 1 (n:Int) with | (lo,hi)=>pure (lo,(1:Int),Builtin.Slice.slicePlaces lo hi 1)) _ _ s
 rw[y9j lo hi n]
 show wpAny _ _ (pure (((sIx n 0 lo:Nat):Int),(1:Int),Builtin.Slice.slicePlaces ((sIx n 0 lo:Nat):Int) ((sIx n n hi:Nat):Int) 1)) _ _ s
 rw[y8o]
 exact wpAny_pure h
theorem x3j(xs:Array Value)(i k:Nat):((List.range k).filterMap fun(m:Nat)=>xs[((i:Int)+(m:Int)*1).toNat]?).toArray=((xs.toList.drop i).take k).toArray:=by
 have e:(fun(m:Nat)=>xs[((i:Int)+(m:Int)*1).toNat]?)=fun m=>xs[i+m]?:=by
  funext m
  have:((i:Int)+(m:Int)*1).toNat=i+m:=by lia
  rw[this]
 rw[e]
 have:=pick_run xs i k
 rw[List.filterMap_map] at this
 have e2:((fun x=>xs[x]?) ∘ fun x=>i+x)=fun m=>xs[i+m]?:=rfl
 rw[e2] at this
 rw[this]
theorem getItem_tuple_cut{t sl:Addr}{items:Array Value}{vl vu:Value}{lo hi:Option Int}{Q:Value->Shared->Prop}(ht:IsTup s.heap t items)(hs:s.heap.IsSliceOf sl vl vu .none)(pl:IsPart vl lo)(pu:IsPart vu hi)
 (hw:¬(sIx items.size 0 lo=0/\sIx items.size items.size hi=items.size))
 (h:Q (.ref s.heap.objs.size) { s with heap:=s.heap.push { cls:=.type "tuple",data:=.seq ((items.toList.drop (sIx items.size 0 lo)).take (sIx items.size items.size hi-sIx items.size 0 lo)).toArray } })
 (hsz:items.size<=sizeLine):wpAny (model prog w) A (getItem (.ref t) (.ref sl)) Q E s:=by
 have htake:sizeOk (.seq ((items.toList.drop (sIx items.size 0 lo)).take (sIx items.size items.size hi-sIx items.size 0 lo)).toArray):=by
  show((items.toList.drop (sIx items.size 0 lo)).take (sIx items.size items.size hi-sIx items.size 0 lo)).toArray.size<=sizeLine
  rw[List.size_toArray,List.length_take,List.length_drop,Array.length_toList]
  lia
 have hj:sIx items.size items.size hi<=items.size:=x7r _ _ (Nat.le_refl _) hi
 obtain⟨os,hos,hcs,hds⟩:=id hs
 have hTs:s.TypeIs (.ref sl) "slice":=⟨os,hos,hcs⟩
 unfold getItem
 try with_reducible refine wpAny_holding ?_
 first | refine wpAny_bind (wpAny_pure ?_) | skip
 refine wpAny_bind (wpAny_sequenceKey ht.typeIs (by decide) ?_)
 refine wpAny_bind (wpAny_callSpecial?_slot (name:=Str.ofString "__getitem__") ht.typeIs PyProof.Rows.slot_tuple_getitem
  (wpAny_call_entry PyProof.Rows.slot_tuple_getitem ht.typeIs entry_tuple_getitem ?_ (args_tuple_getitem _ _)))
 show wpAny _ _ (Builtin.Tuple.tupleItemsOf (.ref t)>>=_) _ _ s
 refine wpAny_bind (tupleItemsOf_ ht ?_)
 refine wpAny_bind (wpAny_typeOf hTs ?_)
 rw[if_pos (by decide)]
 refine wpAny_bind (z7b hs pl pu ?_)
 have hno:¬((((sIx items.size 0 lo:Nat):Int)==0&&(1:Int)==1&&(sIx items.size items.size hi-sIx items.size 0 lo)==items.size)=true):=by
  intro q
  rw[Bool.and_eq_true,Bool.and_eq_true] at q
  have q1:((sIx items.size 0 lo:Nat):Int)=0:=eq_of_beq q.1.1
  have q2:sIx items.size items.size hi-sIx items.size 0 lo=items.size:=eq_of_beq q.2
  exact hw ⟨by lia,by lia⟩
 show wpAny _ _ (if (((sIx items.size 0 lo:Nat):Int)==0&&(1:Int)==1&&(sIx items.size items.size hi-sIx items.size 0 lo)==items.size)=true then _ else _) _ _ s
 rw[if_neg hno,x3j]
 first
  | exact wpAny_bind (m:=Builtin.Tuple.tupleExact _) (wpAny_newObj_type (wpAny_pure ⟨_,rfl,wpAny_pure h⟩) htake)
  | exact wpAny_bind (m:=Builtin.Tuple.tupleExact _) (wpAny_newObj_type (wpAny_bind (wpAny_pure (wpAny_pure ⟨_,rfl,wpAny_pure h⟩))) htake)
  | exact wpAny_bind (wpAny_bind (m:=Builtin.Tuple.tupleExact _) (wpAny_newObj_type (wpAny_pure (wpAny_pure ⟨_,rfl,wpAny_pure h⟩)) htake))
  | exact wpAny_bind (wpAny_bind (m:=Builtin.Tuple.tupleExact _) (wpAny_newObj_type (wpAny_pure ⟨_,rfl,wpAny_pure h⟩) htake))
end
end HT
namespace L2
open PySem PySem.Spec PyProof.Rows
noncomputable abbrev TO:=St->Hp->(Option Int->Hp->Prop)->Prop
theorem y2e{ns:List Int}:∀{us:List Value},Vals (ns.map V.int) us->IntsAre us ns:=by
 induction ns with
 | nil=>intro us r;rw[List.map_nil] at r;cases r;exact .nil
 | cons n ns ih =>
   intro us r
   rw[List.map_cons] at r
   cases r with
   | cons r1 r2 =>
     obtain⟨t,e⟩:=r1
     subst e
     exact .cons n t (ih r2)
section
variable {X:Cx}{e:Expr}{te:TE}{lo hi:Option Expr}{tl th:TO}{pos p2:Pos}
noncomputable def SlR(X:Cx)(r:V->Option Int->Option Int->Hp->VK->Prop):Prop :=
 ∀(pins:List (Addr×Obj)) (s:Shared) (σ:St) (H:Hp) (x:V) (v vl vu:Value) (lo hi:Option Int) (sl:Addr) (Q:VK),Inv X pins σ H s->RelV x v->s.heap.IsSliceOf sl vl vu .none->IsPart vl lo->IsPart vu hi->r x lo hi H Q ->
  ∃T id,typeLookup (.type T) "__getitem__"=pure (some (.builtin id))/\s.TypeIs v T/\wpAny (model X.prog X.w) X.A (getItem v (.ref sl)) (EP X pins σ Q) X.xe s
theorem SlR.or{r r':V->Option Int->Option Int->Hp->VK->Prop}(h:SlR X r)(h':SlR X r'):SlR X (fun x lo hi H Q=>r x lo hi H Q∨r' x lo hi H Q):=by
 intro pins s σ H x v vl vu lo hi sl Q I rx hs pl pu q
 rcases q with q | q
 ·exact h pins s σ H x v vl vu lo hi sl Q I rx hs pl pu q
 ·exact h' pins s σ H x v vl vu lo hi sl Q I rx hs pl pu q
noncomputable def cutV(xs:List V)(lo hi:Option Int):List V:=(xs.drop (HT.sIx xs.length 0 lo)).take (HT.sIx xs.length xs.length hi-HT.sIx xs.length 0 lo)
theorem y1j(xs:List V)(lo hi:Option Int):(cutV xs lo hi).length<=xs.length:=by
 unfold cutV
 rw[List.length_take,List.length_drop]
 lia
noncomputable def rSlT(K:PySem.W.Frag):V->Option Int->Option Int->Hp->VK->Prop:=fun x lo hi H Q=>∃a xs,x = .ref a/\SqT K H a xs /\
 ¬(HT.sIx xs.length 0 lo=0/\HT.sIx xs.length xs.length hi=xs.length)/\∀p,H p=none->Q (.ref p) (upd H p (.tup (cutV xs lo hi)))
theorem x7o:SlR X (rSlT X.K):=by
 intro pins s σ H x v vl vu lo hi sl Q I rx hs pl pu h
 obtain⟨a,xs,rfl,hx,hw,q⟩:=h
 cases rx
 obtain⟨its,r,ht,hz⟩:=I.tuple hx
 have hlen:its.toArray.size=xs.length:=by rw[List.size_toArray];exact r.length.symm
 refine⟨"tuple",_,PyProof.Rows.slot_tuple_getitem.lookup,ht.typeIs,?_⟩
 refine HT.getItem_tuple_cut ht hs pl pu (by rw[hlen];exact hw) ?_ (by rw[hlen];exact hz)
 rw[hlen]
 refine⟨.ref s.heap.objs.size,_,I.laid (t':=s.toks) (o:=.tup (cutV xs lo hi)) (fun b ob q=>Heap.get?_push_of_some _ q) (Nat.le_refl _) ?_,rfl,q _ (I.hok.fresh (Nat.le_refl _))⟩
 exact⟨Nat.le_trans (y1j xs lo hi) hz,_,(r.drop (HT.sIx xs.length 0 lo)).take (HT.sIx xs.length xs.length hi-HT.sIx xs.length 0 lo),IsTup.new _ _⟩
noncomputable def x9j(K:PySem.W.Frag):R2:=fun x y H Q=>∃a b xs ys,x = .ref a/\y = .ref b/\SqT K H a xs/\SqT K H b ys/\xs≠[]/\xs.length+ys.length<=sizeLine /\
 (ys=[]->Q (.ref a) H)/\(ys≠[]->∀p,H p=none->Q (.ref p) (upd H p (.tup (xs++ys))))
theorem Vals.nil_iff{xs:List V}{us:List Value}(r:Vals xs us):us=[]↔xs=[]:=by
 cases r with
 | nil=>simp
 | cons _ _=>simp
theorem x6d:OpR X (binaryOp .Add) (x9j X.K):=by
 intro pins s σ H x y v u Q I rx ry h
 obtain⟨a,b,xs,ys,rfl,rfl,ha,hb,hx,hz,q1,q2⟩:=h
 cases rx
 cases ry
 obtain⟨its,r1,p1,_⟩:=I.tuple ha
 obtain⟨its2,r2,p2,_⟩:=I.tuple hb
 refine HT.cat_tup p1 p2 (fun z=>hx (r1.nil_iff.mp z)) (fun z=>⟨.ref a,H,I,rfl,q1 (r2.nil_iff.mp z)⟩) (fun z=>?_) (by rw[<-r1.length,<-r2.length];exact hz)
 refine⟨.ref s.heap.objs.size,_,I.laid (t':=s.toks) (o:=.tup (xs++ys)) (fun b ob q=>Heap.get?_push_of_some _ q) (Nat.le_refl _) ?_,rfl,q2 (fun w=>z (r2.nil_iff.mpr w)) _ (I.hok.fresh (Nat.le_refl _))⟩
 exact⟨by rw[List.length_append];exact hz,_,r1.append r2,IsTup.new _ _⟩
end
end L2
namespace L2
open PySem PySem.Spec PyProof.Rows
noncomputable def ixN(n:Nat)(i:Int):Option Nat:=if 0<=i then (if i<n then some i.toNat else none) else if -(n:Int)<=i then some (i+n).toNat else none
noncomputable def atI{α:Type}(xs:List α)(i:Int):Option α:=(ixN xs.length i).bind fun j=>xs[j]?
theorem x1k{n:Nat}{i:Int}{j:Nat}(h:ixN n i=some j):seqIndex? i n=some j/\j<n /\ -(n:Int)<=i/\i<n:=by
 unfold ixN at h
 by_cases h0:0<=i
 ·rw[if_pos h0] at h
  by_cases h1:i<n
  ·rw[if_pos h1] at h
   have e:i.toNat=j:=Option.some.inj h
   exact⟨by rw[seqIndex_of h0 h1,e],by lia,by lia,h1⟩
  ·rw[if_neg h1] at h;cases h
 ·rw[if_neg h0] at h
  by_cases h1:-(n:Int)<=i
  ·rw[if_pos h1] at h
   have e:(i+n).toNat=j:=Option.some.inj h
   exact⟨by rw[seqIndex_neg (by lia) h1,e],by lia,h1,by lia⟩
  ·rw[if_neg h1] at h;cases h
theorem x2o{α:Type}{xs:List α}{i:Int}{v:α}(h:atI xs i=some v):∃j,seqIndex? i xs.length=some j/\xs[j]? = some v/\j<xs.length /\ -(xs.length:Int)<=i/\i<xs.length:=by
 unfold atI at h
 cases e:ixN xs.length i with
 | none=>rw[e] at h;cases h
 | some j =>
   rw[e] at h
   obtain⟨h1,h2,h3,h4⟩:=x1k e
   exact⟨j,h1,h,h2,h3,h4⟩
noncomputable def x2r(b:Expr):Prop:=∀o i,subscripted b false o i=operate [o,i] (getItem o i)
noncomputable def IxR(X:Cx)(r:R2):Prop :=
 ∀(value slice:Expr) (pins:List (Addr×Obj)) (s:Shared) (σ:St) (H:Hp) (x y:V) (v u:Value) (Q:VK),Inv X pins σ H s->RelV x v->RelV y u->r x y H Q ->
  subscripted slice false v u=operate [v,u] (getItem v u)->wpAny (model X.prog X.w) X.A (subscriptTail value slice v u) (EP X pins σ Q) X.xe s
section
variable {X:Cx}{a b:Expr}{ta tb:TE}{pos:Pos}
noncomputable def rIxL(K:PySem.W.Frag):R2:=fun x y H Q=>∃p xs i v,x = .ref p/\y = .int i/\SqL K H p xs/\atI xs i=some v/\Q v H
noncomputable def rIxT(K:PySem.W.Frag):R2:=fun x y H Q=>∃p xs i v,x = .ref p/\y = .int i/\SqT K H p xs/\atI xs i=some v/\Q v H
theorem x1j:IxR X (rIxL X.K):=by
 intro value slice pins s σ H x y v u Q I rx ry h hs
 obtain⟨p,xs,i,z,rfl,rfl,hq,he,q⟩:=h
 cases rx
 obtain⟨t,rfl⟩:=ry
 obtain⟨its,r,pl,hz⟩:=I.list hq
 obtain⟨j,h1,h2,h3,h4,h5⟩:=x2o he
 obtain⟨w,ew,rw'⟩:=r.get h2
 have hl:=r.length
 have hn:=y7m
 have fin:EP X pins σ Q w s:=⟨z,H,I,rw',q⟩
 by_cases h0:0<=i
 ·have hj:i.toNat=j:=by
   rw[seqIndex_of h0 h5] at h1
   exact Option.some.inj h1
  exact item_listR pl.isList h0 (by lia) (by rw[hj];simpa using ew) fin hs
 ·have hj:(i+(its.toArray.size:Int)).toNat=j:=by
   rw[seqIndex_neg (by lia) h4] at h1
   rw[List.size_toArray,<-hl]
   exact Option.some.inj h1
  exact subscriptTail_builtinR (x:=w) pl.isList.typeIs slot_list_getitem.lookup
   (wpAny_getItem_list_neg (Q:=fun r s'=>r=w/\EP X pins σ Q r s') pl.isList (by lia) (by rw[List.size_toArray]<;>lia) (by lia) (by rw[hj];simpa using ew) ⟨rfl,fin⟩) hs
theorem x4y:IxR X (rIxT X.K):=by
 intro value slice pins s σ H x y v u Q I rx ry h hs
 obtain⟨p,xs,i,z,rfl,rfl,hq,he,q⟩:=h
 cases rx
 obtain⟨t,rfl⟩:=ry
 obtain⟨its,r,pl,hz⟩:=I.tuple hq
 obtain⟨j,h1,h2,h3,h4,h5⟩:=x2o he
 obtain⟨w,ew,rw'⟩:=r.get h2
 have hl:=r.length
 have hn:=y7m
 have fin:EP X pins σ Q w s:=⟨z,H,I,rw',q⟩
 exact subscriptTail_builtinR (x:=w) pl.typeIs slot_tuple_getitem.lookup
  (getItem_tuple (j:=j) (Q:=fun r s'=>r=w/\EP X pins σ Q r s') pl (by lia) (by lia) (by rw[List.size_toArray,<-hl];exact h1) (by simpa using ew) ⟨rfl,fin⟩) hs
theorem y8s(its:List Value)(n j:Nat)(u:Value):Obj.mapSeq (·.setIfInBounds j u) { cls:=.type "list",data:=.seq its.toArray n }={ cls:=.type "list",data:=.seq (its.set j u).toArray n }:=by
 simp[Obj.mapSeq]
theorem Inv.lst{pins:List (Addr×Obj)}{σ:St}{H:Hp}{s:Shared}{p:Addr}{xs:List V}(I:Inv X pins σ H s)(h:H p=some (.lst xs)) :
 ∃(its:List Value) (n:Nat),Vals xs its/\s.heap.get? p=some { cls:=.type "list",data:=.seq its.toArray n }/\xs.length<=sizeLine:=by
 obtain⟨z,its,n,r,e⟩:=I.hok p _ h
 exact⟨its,n,r,e,z⟩
theorem Inv.lstUpd{pins:List (Addr×Obj)}{σ:St}{H:Hp}{s:Shared}{p:Addr}{xs ys:List V}{its its':List Value}{n n':Nat}{f:Obj->Obj}(I:Inv X pins σ H s)(h:H p=some (.lst xs))
 (ho:s.heap.get? p=some { cls:=.type "list",data:=.seq its.toArray n }) (hf:f { cls:=.type "list",data:=.seq its.toArray n }={ cls:=.type "list",data:=.seq its'.toArray n' }) (r:Vals ys its') (hz:ys.length<=sizeLine) (t:Nat) :
 Inv X pins σ (upd H p (.lst ys)) { s with heap:=s.heap.update p f,toks:=t }:=by
 have e:(s.heap.update p f).get? p=some { cls:=.type "list",data:=.seq its'.toArray n' }:=by
  rw[Heap.get?_update_self f ho (by rw[hf]<;>rfl),hf]
 refine I.write (x:=p) (e:=p) (by rw[h];trivial) (.inl rfl) (fun b u hb q=>(Heap.get?_update_other _ _ (Ne.symm hb)).trans q) ⟨_,e⟩ ?_
 exact⟨hz,its',n',r,e⟩
noncomputable def x9h:V->V->V->Hp->(Hp->Prop)->Prop:=fun o i v H Q=>∃p xs k j,o = .ref p/\i = .int k/\H p=some (.lst xs)/\ixN xs.length k=some j/\Q (upd H p (.lst (xs.set j v)))
theorem x3e:PSet X x9h:=by
 intro pins s σ H o i v ov iv u Q I ro ri rv h
 obtain⟨p,xs,k,j,rfl,rfl,hp,hj,q⟩:=h
 cases ro
 obtain⟨t,rfl⟩:=ri
 obtain⟨its,n,r,ho,hz⟩:=I.lst hp
 obtain⟨h1,h2,h3,h4⟩:=x1k hj
 have hl:=r.length
 have hn:=y7m
 have I':Inv X pins σ (upd H p (.lst (xs.set j v))) { s with heap:=s.heap.update p (Obj.mapSeq (·.setIfInBounds j u)) } :=
  I.lstUpd hp ho (y8s its n j u) (r.set rv j) (by rw[List.length_set];exact hz) s.toks
 by_cases h0:0<=k
 ·have hk:k.toNat=j:=by
   rw[seqIndex_of h0 h4] at h1
   exact Option.some.inj h1
  exact PySem.W.ki_setAt ho h0 (by lia) (by rw[List.size_toArray,<-hl];exact h4) (by rw[hk];exact⟨_,I',q⟩)
 ·have hk:(k+(its.toArray.size:Int)).toNat=j:=by
   rw[seqIndex_neg (by lia) h3] at h1
   rw[List.size_toArray,<-hl]
   exact Option.some.inj h1
  exact PySem.W.ki_setBack ho (by lia) (by rw[List.size_toArray,<-hl];exact h3) (by lia) (by rw[hk];exact⟨_,I',q⟩)
theorem y4i(lo hi:Option Int)(n:Nat):(sliceBounds lo hi none n).1=((HT.sIx n 0 lo:Nat):Int)/\(sliceBounds lo hi none n).2.1=((HT.sIx n n hi:Nat):Int)/\(sliceBounds lo hi none n).2.2=1:=by
 refine⟨?_,?_,rfl⟩
 ·cases lo with
  | none=>simp[sliceBounds,HT.sIx]
  | some i =>
    simp only[sliceBounds,HT.sIx,Option.getD_none,show(1:Int)>0 by decide,if_true]
    by_cases h:i<0
    ·simp only[h,if_true]<;>lia
    ·simp only[h,if_false]<;>lia
 ·cases hi with
  | none=>simp[sliceBounds,HT.sIx]
  | some i =>
    simp only[sliceBounds,HT.sIx,Option.getD_none,show(1:Int)>0 by decide,if_true]
    by_cases h:i<0
    ·simp only[h,if_true]<;>lia
    ·simp only[h,if_false]<;>lia
theorem y2r(its:List Value)(lo hi:Option Int):slicePick its.toArray lo hi none=((its.drop (HT.sIx its.length 0 lo)).take (HT.sIx its.length its.length hi-HT.sIx its.length 0 lo)).toArray:=by
 obtain⟨h1,h2,h3⟩:=y4i lo hi its.toArray.size
 unfold slicePick
 rw[h1,h2,h3]
 simp only[sliceRange_one,pick_run,List.size_toArray]<;>rfl
noncomputable def rSlL(K:PySem.W.Frag):V->Option Int->Option Int->Hp->VK->Prop:=fun x lo hi H Q=>∃a xs,x = .ref a/\SqL K H a xs/\∀p,H p=none->Q (.ref p) (upd H p (.lst (cutV xs lo hi)))
theorem x5p:SlR X (rSlL X.K):=by
 intro pins s σ H x v vl vu lo hi sl Q I rx hs pl pu h
 obtain⟨a,xs,rfl,hx,q⟩:=h
 cases rx
 obtain⟨its,r,ht,hz⟩:=I.list hx
 have hlen:=r.length
 refine⟨"list",_,slot_list_getitem.lookup,ht.isList.typeIs,?_⟩
 refine wpAny_getItem_list_slice ht.isList hs pl pu .none (by simp) ?_ (by rw[List.size_toArray]<;>lia)
 rw[y2r,<-hlen]
 refine⟨.ref s.heap.objs.size,_,I.laid (t':=s.toks) (o:=.lst (cutV xs lo hi)) (fun b ob q=>Heap.get?_push_of_some _ q) (Nat.le_refl _) ?_,rfl,q _ (I.hok.fresh (Nat.le_refl _))⟩
 exact⟨Nat.le_trans (y1j xs lo hi) hz,_,0,(r.drop (HT.sIx xs.length 0 lo)).take (HT.sIx xs.length xs.length hi-HT.sIx xs.length 0 lo),Heap.get?_push_size _ rfl⟩
theorem y5i:z8a X (.builtin "len") (fun xs H Q=>∃p ys,xs=[.ref p]/\(SqL X.K H p ys∨SqT X.K H p ys)/\Q (.int ys.length) H):=by
 intro pins s σ H xs us Q I r h
 obtain⟨p,ys,rfl,hq,q⟩:=h
 obtain⟨u,rfl,rx⟩:=y3v r
 cases rx
 have hn:=y7m
 rcases hq with hq | hq
 ·obtain⟨its,r',pl,hz⟩:=I.list hq
  have hlen:=r'.length
  exact Calls.call_len_list pl.isList (by simp only[List.size_toArray]<;>lia) ⟨.int ys.length,H,I.tok _,⟨s.toks+1,by rw[List.size_toArray,hlen]⟩,q⟩
 ·obtain⟨its,r',pl,hz⟩:=I.tuple hq
  have hlen:=r'.length
  exact len_tuple pl (by simp only[List.size_toArray]<;>lia) ⟨.int ys.length,H,I.tok _,⟨s.toks+1,by rw[List.size_toArray,hlen]⟩,q⟩
theorem z8a.or{f:Value}{r r':List V->Hp->VK->Prop}(h:z8a X f r)(h':z8a X f r'):z8a X f (fun xs H Q=>r xs H Q∨r' xs H Q):=by
 intro pins s σ H xs us Q I rs q
 rcases q with q | q
 ·exact h pins s σ H xs us Q I rs q
 ·exact h' pins s σ H xs us Q I rs q
theorem y5h:z8a X (.type "list") (fun xs H Q=>∃p ys,xs=[.ref p]/\(SqL X.K H p ys∨SqT X.K H p ys)/\∀l,H l=none->Q (.ref l) (upd H l (.lst ys))):=by
 intro pins s σ H xs us Q I r h
 obtain⟨p,ys,rfl,hq,q⟩:=h
 obtain⟨u,rfl,rx⟩:=y3v r
 cases rx
 have fin:∀(its:List Value),Vals ys its->ys.length<=sizeLine->∀(h':Heap) (c':Nat),(∀b o',s.heap.get? b=some o'->h'.get? b=some o') ->
  h'.get? s.heap.objs.size=some { cls:=.type "list",dict:=none,data:=.seq its.toArray c',slots:=#[] }->EP X pins σ Q (.ref s.heap.objs.size) { s with heap:=h' }:=fun its r' hz h' c' kp e =>
  ⟨.ref s.heap.objs.size,_,I.laid (t':=s.toks) kp (Nat.le_refl _) (show z7z X.prog X.w _ h' _ (.lst ys) from⟨hz,its,c',r',e⟩),rfl,q _ (I.hok.fresh (Nat.le_refl _))⟩
 rcases hq with hq | hq
 ·obtain⟨its,r',pl,hz⟩:=I.list hq
  have hlen:=r'.length
  obtain⟨o,ho,hc,n,hd⟩:=pl.isList
  exact call_list_seq p (.inl rfl) ho hc hd (fun h' c' kp e=>fin its r' hz h' c' kp e) (by simp only[List.size_toArray]<;>lia)
 ·obtain⟨its,r',pl,hz⟩:=I.tuple hq
  have hlen:=r'.length
  obtain⟨o,ho,hc,n,hd⟩:=pl
  exact call_list_seq p (.inr rfl) ho hc hd (fun h' c' kp e=>fin its r' hz h' c' kp e) (by simp only[List.size_toArray]<;>lia)
theorem y3t:z8a X (.type "tuple") (fun xs H Q=>∃p ys,xs=[.ref p]/\((SqL X.K H p ys/\∀l,H l=none->Q (.ref l) (upd H l (.tup ys)))∨(SqT X.K H p ys/\Q (.ref p) H))):=by
 intro pins s σ H xs us Q I r h
 obtain⟨p,ys,rfl,h⟩:=h
 obtain⟨u,rfl,rx⟩:=y3v r
 cases rx
 rcases h with ⟨hq,q⟩ | ⟨hq,q⟩
 ·obtain⟨its,r',pl,hz⟩:=I.list hq
  have hlen:=r'.length
  refine call_tuple_list pl.isList (fun h' kp=>?_) (by simp only[List.size_toArray]<;>lia)
  have I1:Inv X pins σ H { s with heap:=h' }:=I.kept (t':=s.toks) kp
  have I2:Inv X pins σ (upd H h'.objs.size (.tup ys)) { s with heap:=h'.push { cls:=.type "tuple",data:=.seq its.toArray } } :=
   I1.laid (t':=s.toks) (fun b o e=>Heap.get?_push_of_some _ e) (Nat.le_refl _) (show z7z X.prog X.w _ _ _ (.tup ys) from⟨hz,its,r',IsTup.new _ _⟩)
  exact⟨.ref h'.objs.size,_,I2,rfl,q _ (I1.hok.fresh (Nat.le_refl _))⟩
 ·obtain⟨its,r',pl,hz⟩:=I.tuple hq
  exact call_tuple_same pl ⟨.ref p,H,I,rfl,q⟩
noncomputable def tyV(K:PySem.W.Frag)(T:String)(x:V)(H:Hp):Prop:=match x with
 | .str _=>T="str"
 | .int _=>T="int"
 | .ref p=>(T="list"/\∃xs,SqL K H p xs)∨(T="tuple"/\∃o,K.lookup p=some o/\o.cls = .type "tuple"/\o.dict=none) ∨
    (T="dict"/\((∃kvs,H p=some (.dK kvs))∨∃kvs,H p=some (.dT kvs)))∨(T="set"/\∃S n,H p=some (.set S n))
 | _=>False
theorem x7g{pins:List (Addr×Obj)}{σ:St}{H:Hp}{s:Shared}{T:String}{x:V}{v:Value}(I:Inv X pins σ H s)(r:RelV x v)(ty:tyV X.K T x H) :
 s.TypeIs v T/\∀a,v = .ref a->∃ob,s.heap.get? a=some ob/\ob.dict=none:=by
 cases x with
 | str z =>
   obtain⟨t,rfl⟩:=r
   cases (show T="str" from ty)
   exact⟨typeIs_str s z t,fun _ e=>nomatch e⟩
 | int i =>
   obtain⟨t,rfl⟩:=r
   cases (show T="int" from ty)
   exact⟨typeIs_int s i t,fun _ e=>nomatch e⟩
 | ref p =>
   cases r
   rcases ty with ⟨rfl,xs,hq⟩ | ⟨rfl,o,hk,hc,hd⟩ | ⟨rfl,hk⟩ | ⟨rfl,S,n,hk⟩
   ·obtain⟨its,_,pl,_⟩:=I.list hq
    refine⟨pl.isList.typeIs,fun a e=>?_⟩
    cases e
    obtain⟨o,n,e,c,hd,_⟩:=pl
    exact⟨o,e,hd⟩
   ·refine⟨⟨o,I.kIn p o hk,hc⟩,fun a e=>?_⟩
    cases e
    exact⟨o,I.kIn _ o hk,hd⟩
   ·have z:∃o,s.heap.get? p=some o/\o.ExactDict:=by
     rcases hk with ⟨kvs,hk⟩ | ⟨kvs,hk⟩
     ·obtain⟨_,_,_,_,o,_,_,e,ex,_⟩:=I.hok p _ hk
      exact⟨o,e,ex⟩
     ·obtain⟨_,_,_,_,o,_,_,e,ex,_⟩:=I.hok p _ hk
      exact⟨o,e,ex⟩
    obtain⟨o,e,ex⟩:=z
    refine⟨⟨o,e,ex.1⟩,fun a e2=>?_⟩
    cases e2
    exact⟨o,e,ex.2.1⟩
   ·obtain⟨o,_,_,_,e,ex,_⟩:=I.hok p _ hk
    refine⟨⟨o,e,ex.1⟩,fun a e2=>?_⟩
    cases e2
    exact⟨o,e,ex.2.1⟩
 | _=>exact False.elim ty
variable {o e:Expr}{es:List Expr}{to:TE}{t:TA}{name:Str}{apos cpos:Pos}{T id:String}{r:V->List V->Hp->VK->Prop}
end
end L2
namespace L2
open PySem PySem.Spec PyProof.Rows
noncomputable def MtM(X:Cx)(id:String)(r:V->List V->Hp->VK->Prop):Prop :=
 ∀(pins:List (Addr×Obj)) (s:Shared) (σ:St) (H:Hp) (x:V) (xs:List V) (v:Value) (us:List Value) (Q:VK),Inv X pins σ H s->RelV x v->Vals xs us->r x xs H Q ->
  wpAny (model X.prog X.w) X.A (call (.builtin id) (v::us)) (EP X pins σ Q) X.xe s
theorem Vals.one:∀{x:V} {us:List Value},Vals [x] us->∃u,us=[u]/\RelV x u
 | _,_,.cons r .nil=>⟨_,rfl,r⟩
theorem Vals.rep{xs:List V}{us:List Value}(h:Vals xs us):∀k:Nat,Vals (List.replicate k xs).flatten (List.replicate k us).flatten
 | 0=>.nil
 | k+1=>by
   rw[List.replicate_succ,List.replicate_succ,List.flatten_cons,List.flatten_cons]
   exact Vals.append h (Vals.rep h k)
theorem y4x(its:List Value):∀(k:Nat) (acc:List Value),
 List.foldl (fun x1 x2=>x1++x2) acc.toArray (List.replicate k its.toArray)=(acc++(List.replicate k its).flatten).toArray
 | 0,acc=>by simp
 | k+1,acc=>by
   have e:acc.toArray++its.toArray=(acc++its).toArray:=by simp
   have e2:(acc++its)++(List.replicate k its).flatten=acc++(List.replicate (k+1) its).flatten:=by
    rw[List.replicate_succ,List.flatten_cons,List.append_assoc]
   rw[<-e2,<-y4x its k (acc++its),<-e,List.replicate_succ,List.foldl_cons]
section
variable {X:Cx}{pins:List (Addr×Obj)}{σ:St}{H:Hp}{s:Shared}{l b:Addr}{xs ys zs:List V}
theorem Inv.lset{its its':List Value}{n:Nat}{f:Array Value->Array Value}{t':Nat}(I:Inv X pins σ H s)(hH:H l=some (.lst xs))
 (e:s.heap.get? l=some { cls:=.type "list",data:=.seq its.toArray n }) (hf:f its.toArray=its'.toArray) (hv:Vals ys its') (hz:ys.length<=sizeLine) :
 Inv X pins σ (upd H l (.lst ys)) { s with heap:=s.heap.update l (Obj.mapSeq f),toks:=t' }:=by
 have q:=PySem.IsL.update e f
 rw[hf] at q
 refine I.write (x:=l) (e:=l) (by rw[hH];exact trivial) (.inl rfl) (fun b' u hb hu=>(Heap.get?_update_other s.heap (Obj.mapSeq f) (Ne.symm hb)).trans hu) ⟨_,q⟩ ?_
 exact⟨hz,its',_,hv,q⟩
theorem Inv.lnew{its:List Value}{t':Nat}(I:Inv X pins σ H s)(hv:Vals ys its)(hz:ys.length<=sizeLine) :
 Inv X pins σ (upd H s.heap.objs.size (.lst ys)) { s with heap:=s.heap.push { cls:=.type "list",data:=.seq its.toArray },toks:=t' } :=
 I.laid (fun _ _ q=>Heap.get?_push_of_some _ q) (Nat.le_refl _) ⟨hz,its,0,hv,Heap.get?_push_size _ rfl⟩
theorem Inv.fresh(I:Inv X pins σ H s):H s.heap.objs.size=none:=I.hok.fresh (Nat.le_refl _)
theorem Inv.lstM(I:Inv X pins σ H s)(hH:H l=some (.lst xs)):xs.length<=sizeLine/\∃(its:List Value) (n:Nat),Vals xs its/\xs.length=its.length/\s.heap.get? l=some { cls:=.type "list",data:=.seq its.toArray n }:=by
 obtain⟨z,its,n,r,e⟩:=I.hok l _ hH
 exact⟨z,its,n,r,r.length,e⟩
end
section
variable {X:Cx}
noncomputable def x5v:V->List V->Hp->VK->Prop:=fun x vs H Q=>∃l xs y,x = .ref l/\vs=[y]/\H l=some (.lst xs)/\xs.length<sizeLine/\Q .non (upd H l (.lst (xs++[y])))
theorem x0v:MtM X "list.append" x5v:=by
 intro pins s σ H x vs v us Q I rx rv h
 obtain⟨l,xs,y,rfl,rfl,hH,hz,q⟩:=h
 cases rx
 obtain⟨u,rfl,ru⟩:=rv.one
 obtain⟨z,its,n,r,hl,e⟩:=I.lstM hH
 refine call_meets F.slot_list_append ⟨_,e,rfl⟩ F.entry_list_append (F.args_list_append_2 _ _) (PySem.list_append l its.toArray n u (by rw[List.size_toArray];lia)) ⟨e,?_⟩
 refine⟨.non,_,I.lset (its':=its++[u]) hH e (by simp) (r.append (.cons ru .nil)) ?_,rfl,q⟩
 rw[List.length_append,List.length_singleton]
 lia
noncomputable def rCat:R2:=fun x y H Q=>∃l b xs zs,x = .ref l/\y = .ref b/\H l=some (.lst xs)/\H b=some (.lst zs)/\xs.length+zs.length<=sizeLine/\∀p,H p=none->Q (.ref p) (upd H p (.lst (xs++zs)))
theorem x8g:OpR X (binaryOp .Add) rCat:=by
 intro pins s σ H x y v u Q I rx ry h
 obtain⟨l,b,xs,zs,rfl,rfl,hH,hB,hz,q⟩:=h
 cases rx
 cases ry
 obtain⟨z,its,n,r,hl,e⟩:=I.lstM hH
 obtain⟨z2,its2,n2,r2,hl2,e2⟩:=I.lstM hB
 refine PySem.P.add_list e e2 ?_ (by rw[List.size_toArray,List.size_toArray];lia)
 have ea:its.toArray++its2.toArray=(its++its2).toArray:=by simp
 rw[ea]
 exact⟨.ref _,_,I.lnew (t':=s.toks) (r.append r2) (by rw[List.length_append];lia),rfl,q _ I.fresh⟩
theorem x1c{α:Type}(xs:List α)(k:Nat):(List.replicate k xs).flatten.length=k*xs.length:=by
 induction k with
 | zero=>simp
 | succ k ih=>rw[List.replicate_succ,List.flatten_cons,List.length_append,ih,Nat.succ_mul,Nat.add_comm]
end
section
variable {prog:Program}{w:World}{A:Around}{E:Value->Shared->Prop}{s:Shared}
end
section
variable {X:Cx}
end
end L2
namespace Att
open PySem PySem.W PySem.Calls PyProof.Rows
theorem y1c{P:Params}{h:Heap}:∀(ns:List Int) (vs:List Value),WellAll P h vs (ns.map WData.int)->IntsAre vs ns:=by
 intro ns
 induction ns with
 | nil =>
   intro vs w
   rw[List.map_nil] at w
   cases w
   exact .nil
 | cons n ns ih =>
   intro vs w
   rw[List.map_cons] at w
   cases w with
   | cons a b =>
     cases a
     exact .cons _ _ (ih _ b)
theorem x0g{l:OpenLaw}{n:Nat}(hn:l.most=some n){P:Params}{h:Heap}{args:List WData}{vals:List Value}
 (hpre:l.row.toRowW.claim.pre args=true) (hwl:WellAll P h vals args) :
 ∃a vs ns,vals=[Value.ref a]/\args=[WData.list (ns.map WData.int)]/\h.get? a=some { cls:=.type "list",data:=.seq vs.toArray }/\IntsAre vs ns/\ns.length<=n:=by
 have hsh:WShape.hasAll [] args [.list .int]=true:=(pre_splitW hpre).1
 have hc:l.pre.holds [] { args:=args }=true:=(pre_splitW hpre).2
 obtain⟨d,r,rfl,h1,h2⟩:=hasAllW_cons hsh
 obtain rfl:=hasAllW_nil h2
 obtain⟨xs,rfl,h3⟩:=hasW_list h1
 obtain⟨ns,rfl⟩:=items_int h3
 have hlen:ns.length<=n:=by
  unfold OpenLaw.pre at hc
  have h4:(WTm.not (.lt (.lit (.int (n:Int))) (.len (.arg 0)))).holds [] { args:=[.list (ns.map .int)] }=true:=by
   have h4:=(holds_andW hc).1
   rw[hn] at h4
   exact h4
  have h5:=condW_of h4 (w_not (w_lt w_lit (w_len_list (w_arg rfl))))
  rw[List.length_map] at h5
  refine Nat.le_of_not_lt fun q=>?_
  have q':(n:Int)<((ns.length:Nat):Int):=by lia
  first
   | (rw[decide_eq_true q'] at h5;exact absurd h5 (by decide))
   | (simp at h5;lia)
 cases hwl with
 | cons w1 w2 =>
   cases w2
   cases w1 with
   | list ho hall=>exact⟨_,_,ns,rfl,rfl,ho,y1c ns _ hall,hlen⟩
theorem x0m(l:OpenLaw)(args:List WData):l.row.toRowW.claim.post args (.bool true) args=true :=
 postW_of (r:=l.row.toRowW) (X:=(true==true))
  (show WShape.has [] (.bool true) .bool=true by first | rfl | decide | simp[WShape.has,WShape.arms,WShape.armsAll])
  (show(WTm.eq .res (.lit (.bool true))).value [] { args:=args,res:=some (.bool true),after:=args }=some (.bool (true==true)) from w_eq_bool (w_res rfl) w_lit) rfl
theorem attach_call{l:OpenLaw}{n:Nat}{q:Program}{loose:List Str}{XP:(Str->Option Value)->Heap->Prop}{YP:World->Heap->Prop}{d:DefRec}
 (hn:l.most=some n) (hdf:d.params.defaults=[])
 (call:∀(w:World) (s₀ s₁:Shared) (mg mb:Str->Option Value) (fa:Addr) (o:Obj) (pm cd doc:Value) (a:Addr) (vs:List Value) (ns:List Int),
   Ground q loose [] XP w s₀ mg mb s₁.heap->YP w s₁.heap ->
   s₁.heap.get? fa=some o->o.data = .func (docDef d.name d.params d.body d.scope pm cd doc)->s₁.heap.CodeRec cd d.name->mg d.name=some (.ref fa) ->
   s₁.heap.get? a=some { cls:=.type "list",data:=.seq vs.toArray }->IntsAre vs ns->ns.length<=n->s₁.gens=#[] ->
   codeAny (model l.prog w) callerA (.call (.ref fa) ⟨[.ref a],[]⟩) (fun r s'=>r = .ok (.ret (.bool true))/\OldK s₁.heap s'.heap/\s'.os=s₁.os/\AllBare s'.gens) s₁) :
 WalkO q loose XP YP l.row.toRowW d [] (fun f vs=>PySem.call f vs):=by
 intro w s₀ s₁ mg mb G Y fa o pm cd doc dV kV ho hd hcd hD hmg hg args vals as hpre hlay hrd hwl hlo
 obtain rfl:dV = .none:=Dflts.none hD hdf
 obtain rfl:kV = .none:=Dflts.noKw hD
 obtain⟨a,vs,ns,rfl,rfl,hobj,hints,hlen⟩:=x0g hn hpre hwl
 refine enter_call (codeAny_mono (call w s₀ s₁ mg mb fa o pm cd doc a vs ns G Y ho (fd_plain hd) hcd hmg hobj hints hlen hg) fun r s' hq=>?_)
 obtain⟨rfl,h2,h3,h4⟩:=hq
 exact⟨.inl ⟨.bool true,.bool true,[],rfl,fun _=>rfl,.bool true,x0m l _,fun _=>⟨List.Pairwise.nil,fun _ hm=>(nomatch hm)⟩⟩,h2,h3,h4⟩
section
variable {prog:Program}{w:World}{A:Around}{E:Value->Shared->Prop}{s:Shared}{K:Frag}
end
end Att
namespace L2
open PySem PySem.Spec PyProof.Rows
theorem vals_ints:∀{vs:List Value} {ns:List Int},IntsAre vs ns->Vals (ns.map V.int) vs
 | _,_,.nil=>.nil
 | _,_,.cons n t h=>.cons ⟨t,rfl⟩ (vals_ints h)
noncomputable def Only(H:Hp):Prop:=∀b,H b=none∨∃o xs,H b=some (.frz o (.lst xs))
theorem x3v{P:Program}{w:World}{K:PySem.W.Frag}{mg mb:Str->Option Value}{CX:CXT}{k:Nat}{fa a:Addr}{fd:FuncData}{x:Str}{sp:Sp}{s₁:Shared}{vs:List Value}{ns:List Int}
 (KX:K.In s₁.heap) (hns:s₁.heap.Ns mainGlobals mg) (hb:s₁.heap.Ns builtinsNs mb) (hbb:∀x:Str,x≠"__name__"->mb x=bootBuiltins x) (hlim:s₁.heap.NoLimit) (hg:s₁.gens=#[])
 (ha:s₁.heap.get? a=some { cls:=.type "list",data:=.seq vs.toArray }) (hi:IntsAre vs ns) (hl:ns.length<=sizeLine) (hr:Room k callerA)
 (F:∀base:Heap,K.In base->base.Ns mainGlobals mg->FnOk P w K mg base CX k fa fd [x] sp) (hbind:∀(s:Shared) (u:Value),BindsTo s fd ⟨[u],[]⟩ [(x,u)])
 (hsp:∀H:Hp,Only H->SqL K H a (ns.map V.int)->sp [.ref a] H (fun v _=>v = .bl true) fun _ _ _=>False)
 (hCX:∀H e s',CX [] H s₁ (fun _ _ _=>False) e s'->False) :
 codeAny (model P w) callerA (.call (.ref fa) ⟨[.ref a],[]⟩) (fun r s'=>r = .ok (.ret (.bool true))/\OldK s₁.heap s'.heap/\s'.os=s₁.os/\AllBare s'.gens) s₁:=by
 have rv:=vals_ints hi
 have lenV:=hi.length
 have core:∀H:Hp,Only H->SqL K H a (ns.map V.int)->HOk P w H s₁.heap->(∀b,H b≠none->b=a)->(H a≠none->K.lookup a=none) ->
  codeAny (model P w) callerA (.call (.ref fa) ⟨[.ref a],[]⟩) (fun r s'=>r = .ok (.ret (.bool true))/\OldK s₁.heap s'.heap/\s'.os=s₁.os/\AllBare s'.gens) s₁:=by
  intro H hO hS hok hA hK
  have base_of:∀{b:Addr} {o:Obj},s₁.heap.get? b=some o->H b=none->(hidT s₁.heap H).get? b=some o:=fun e n=>y3n e n
  have noA:∀{b:Addr} {o:Obj} {es:Array DictEntry} {ep:Nat},s₁.heap.get? b=some o->o.data = .dict es ep->H b=none:=fun {b o es ep} e d=>by
   cases q:H b with
   | none=>rfl
   | some u =>
     have e':b=a:=hA b (by rw[q];simp)
     subst e'
     rw[ha] at e;cases e
     have d':Data.seq vs.toArray _=Data.dict es ep:=d
     cases d'
  have nsK:∀{b:Addr} {m:Str->Option Value},s₁.heap.Ns b m->(hidT s₁.heap H).Ns b m:=fun {b m} ⟨o,es,ep,e,d,r⟩=>⟨o,es,ep,base_of e (noA e d),d,r⟩
  have hKb:K.In (hidT s₁.heap H):=fun b o e=>base_of (KX b o e) (by
   cases q:H b with
   | none=>rfl
   | some u =>
     have e':b=a:=hA b (by rw[q];simp)
     subst e'
     rw[hK (by rw[q];simp)] at e;cases e)
  have hM:Mod K mg (hidT s₁.heap H):=⟨hKb,nsK hns,⟨mb,nsK hb,hbb⟩,let ⟨mc,h1,h2⟩:=hlim;⟨mc,nsK h1,h2⟩⟩
  have e0:Env0 P w K mg (hidT s₁.heap H) callerA [] s₁ H:=⟨rfl,hM,fun b o e=>y6a e,Nat.le_of_eq (x1o _ _),trivial,fun b hb=>absurd (show b∈([]:List Addr) from hb) (by simp),hok,.of_eq hg⟩
  refine codeAny_mono ((F _ hKb (nsK hns)).run callerA [] s₁ H ⟨[.ref a],[]⟩ [.ref a] [.ref a] _ _ hr e0 (hbind s₁ (.ref a)) (.cons rfl .nil) (hsp H hO hS)) fun r s' h=>?_
  cases r with
  | error e=>exact(hCX H e s' h).elim
  | ok fl =>
    cases fl with
    | next=>exact False.elim h
    | brk=>exact False.elim h
    | cont=>exact False.elim h
    | ret u =>
      obtain⟨v,H',os,bare,un,hok',r',q⟩:=h
      have q':v = .bl true:=q
      subst q'
      obtain rfl:u=Value.bool true:=r'
      refine⟨rfl,OldK.of_keep fun b o e=>?_,os,bare⟩
      cases q:H b with
      | none=>exact un.keep b o e q (by intro z;exact absurd (show b∈([]:List Addr) from z) (by simp)) (by simp)
      | some u =>
        rcases hO b with z | ⟨ob,xs,z⟩
        ·rw[q] at z;cases z
        ·have z2:=un.frzs b ob _ z
         obtain⟨e1,_⟩:=hok b _ z
         obtain⟨e2,_⟩:=hok' b _ z2
         rw[e] at e1;cases e1
         exact e2
 cases hk:K.lookup a with
 | some o =>
   have e:=KX a o hk
   rw[ha] at e
   cases e
   refine core (fun _=>none) (fun _=>.inl rfl) (.inr ⟨_,vs.toArray,_,hk,rfl,rfl,rfl,by rw[List.size_toArray,lenV];exact hl,by simpa using rv⟩) (fun b u z=>by have z':(none:Option HO)=some u:=z;cases z') (fun b z=>absurd rfl z) fun z=>absurd rfl z
 | none =>
   refine core (fun b=>if b=a then some (.frz { cls:=.type "list",data:=.seq vs.toArray } (.lst (ns.map V.int))) else none) (fun b=>?_) (.inl (.inr ⟨{ cls:=.type "list",data:=.seq vs.toArray },if_pos rfl⟩)) (fun b u z=>?_) (fun b z=>?_) fun _=>hk
   ·by_cases hb:b=a
    ·exact .inr ⟨_,_,if_pos hb⟩
    ·exact .inl (if_neg hb)
   ·by_cases hb:b=a
    ·have z':=(if_pos hb).symm.trans z
     cases z'
     subst hb
     exact⟨ha,by rw[List.length_map];exact hl,vs,_,rv,ha⟩
    ·have z':=(if_neg hb).symm.trans z
     cases z'
   ·by_cases hb:b=a
    ·exact hb
    ·exact absurd (if_neg hb) z
end L2
namespace L2
open PySem PySem.Spec PyProof.Rows
noncomputable abbrev KOf {K:PySem.W.Frag} {h:Heap} (_:K.In h):PySem.W.Frag:=K
theorem walk_of{l:PySem.W.OpenLaw}{n k:Nat}{q:Program}{loose:List Str}{XP:(Str->Option Value)->Heap->Prop}{YP:World->Heap->Prop}{d:DefRec}{K:Params->PySem.W.Frag}{CX:World->CXT}{sp:World->Sp}{x:Str}
 (hn:l.most=some n) (hn2:n<=sizeLine) (hdf:d.params.defaults=[]) (hr:Room k callerA)
 (hY:∀(w:World) (h:Heap),YP w h->(K w.params).In h)
 (F:∀(w:World) (mg:Str->Option Value) (fa:Addr) (h:Heap),(K w.params).In h->h.Ns mainGlobals mg->mg d.name=some (.ref fa) ->
   ∃fd:FuncData,(∀(s:Shared) (u:Value),BindsTo s fd ⟨[u],[]⟩ [(x,u)]) /\
    ∀base:Heap,(K w.params).In base->base.Ns mainGlobals mg->FnOk l.prog w (K w.params) mg base (CX w) k fa fd [x] (sp w))
 (hsp:∀(w:World) (H:Hp) (a:Addr) (ns:List Int),ns.length<=n->Only H->SqL (K w.params) H a (ns.map V.int)->sp w [.ref a] H (fun v _=>v = .bl true) fun _ _ _=>False)
 (hCX:∀(w:World) (H:Hp) (s:Shared) (e:Value) (s':Shared),CX w [] H s (fun _ _ _=>False) e s'->False) :
 PySem.W.WalkO q loose XP YP l.row.toRowW d [] (fun f vs=>PySem.call f vs):=by
 refine Att.attach_call hn hdf fun w s₀ s₁ mg mb fa o pm cd doc a vs ns G Y ho hd hcd hmg hobj hints hlen hg=>?_
 have KX:=hY w _ Y
 obtain⟨fd,hb,hF⟩:=F w mg fa _ KX G.T.g hmg
 exact x3v KX G.T.g G.T.b G.T.builtins G.T.nolimit hg hobj hints (Nat.le_trans hlen hn2) hr hF hb (fun H hO hS=>hsp w H a ns hlen hO hS) fun H e s'=>hCX w H s₁ e s'
end L2
/- THE LAST THEOREM (shape;LID,My.* are yours):
   My.Adr: a structure of the addresses that your layer names (classes,functions);My.Txt K t: a structure (Prop) of the equations over K;
   My.txt_mk:{K} {implicit addresses ..} (e1:nsIn K mainGlobals "law"=some (some (.ref f))) (e2:K.lookup f=some ⟨oc,od,.func (fnOf "law" "law" params body scope dV kV doc pm an cdv ct),sl⟩) (e3:codeIn K cdv "law"=true) ..:∃t,My.Txt K t
set_option maxRecDepth 100000 in
set_option maxHeartbeats 0 in
theorem PySem.Challenge.cw_LID_holds : PySem.Challenge.rw_LID.Holds := by
 w_on;o_law;k_head;(case hw=>w_witness2)
 k_fill
 refine L2.walk_of (l:=PySem.Challenge.rw_LID) (n:=63) (k:=40) (x:="script") (CX:=fun w=>..) (sp:=fun _=>My.sp_law) rfl (by decide) rfl ⟨rfl,by decide,by decide⟩ (fun w h Y=>PySem.W.kIn_of Y) ?F ?S ?C
 case F =>
  intro w mg fa h KX G hmg
  have T:∃t,My.Txt (L2.KOf KX) t:=by
   dsimp only[L2.KOf]                          -- K must stand as «<heap const> w.params» for k_is
   refine' My.txt_mk ?e1 ?e2 ?e3 ..
   (case e1=>PySem.W.k_is)                    -- in the order: a name->its address->its object->its parts
   (case e2=>PySem.W.k_is)
   ..
  obtain⟨t,T⟩:=T
  have e0:=hmg.symm.trans (PySem.W.mg_of KX G T.law)
  cases e0                                       -- fa is the law's own address
  exact⟨_,fun s u=>.of_eq rfl,fun base kb nb=>My.law_fn T kb nb⟩     -- if «.of_eq rfl» comes too early: refine' ⟨_,?b,fun base kb nb=>My.law_fn T kb nb⟩;exact fun s u=>.of_eq rfl
 case S=>exact fun w H a ns hl hO hS=>..
 case C=>exact ..
(the tactic k_is has no namespace: write k_is) -/
namespace L2
open PySem PySem.Spec PyProof.Rows
noncomputable def z0o(s:Stmt):Arguments:=match s with
 | .FunctionDef _ a _ _ _ _ _ _ _ _=>a
 | _=>{ posonlyargs:=[],args:=[],vararg:=none,kwonlyargs:=[],kw_defaults:=[],kwarg:=none,defaults:=[] }
noncomputable def z0m(s:Stmt):List Stmt:=match s with
 | .FunctionDef _ _ b _ _ _ _ _ _ _=>b
 | _=>[]
noncomputable def z0d(s:Stmt):Scope:=match s with
 | .FunctionDef _ _ _ _ _ _ sc _ _ _=>sc
 | _=>{ kind:=.function,names:=[],isGenerator:=false,isCoroutine:=false }
structure Fun (K:PySem.W.Frag) (x qual:Str) (st:Stmt) (f:Addr) (fd:FuncData):Prop where
 ex:∃(oc:Value) (od:Option Addr) (kV doc pm:Value) (an:Option Addr) (cdv ct:Value) (osl:Array (Option Value)),
  fd=PySem.W.fnOf x qual (z0o st) (z0m st) (z0d st) .none kV doc pm an cdv ct/\K.lookup f=some ⟨oc,od,.func fd,osl⟩/\PySem.W.codeIn K cdv qual=true
 kp:PySem.W.keepIn K (.ref f)=true
section
variable {P:Program}{w:World}{K:PySem.W.Frag}{mg:Str->Option Value}{base:Heap}
theorem Fun.binds{x qual:Str}{st:Stmt}{f:Addr}{fd:FuncData}{ps:List Str}(F:Fun K x qual st f fd)
 (h:∀(kV doc pm:Value) (an:Option Addr) (cdv ct:Value) (us:List Value),us.length=ps.length->bindArgs (PySem.W.fnOf x qual (z0o st) (z0m st) (z0d st) .none kV doc pm an cdv ct) ⟨us,[]⟩=pure (ps.zip us)):z1s K fd ps []:=by
 obtain⟨oc,od,kV,doc,pm,an,cdv,ct,osl,rfl,lk,hcd⟩:=F.ex
 exact .all (h kV doc pm an cdv ct)
theorem z1d{x qual:Str}{st:Stmt}{f:Addr}{oc:Value}{od an:Option Addr}{osl:Array (Option Value)}{kV doc pm cdv ct:Value}(l:K.lookup f=some ⟨oc,od,.func (PySem.W.fnOf x qual (z0o st) (z0m st) (z0d st) .none kV doc pm an cdv ct),osl⟩)
 (c:PySem.W.codeIn K cdv qual=true) (k:PySem.W.keepIn K (.ref f)=true):Fun K x qual st f (PySem.W.fnOf x qual (z0o st) (z0m st) (z0d st) .none kV doc pm an cdv ct):=⟨⟨oc,od,kV,doc,pm,an,cdv,ct,osl,rfl,l,c⟩,k⟩
end
theorem x0d{n:Nat}(h:n<=1000):n<sizeLine:=Nat.lt_of_le_of_lt h (by decide)
section
variable {X:Cx}
end
noncomputable def Same(H H':Hp):Prop:=∀b o,H b=some o->H' b=some o
theorem Same.refl(H:Hp):Same H H:=fun _ _ h=>h
theorem Same.trans{H H1 H2:Hp}(a:Same H H1)(b:Same H1 H2):Same H H2:=fun c o h=>b c o (a c o h)
theorem Same.free{H H':Hp}(e:Same H H'){l:Addr}(h:H' l=Option.none):H l=Option.none:=by
 cases q:H l with
 | none=>rfl
 | some o =>
   rw[e l o q] at h
   cases h
theorem Same.seq{K:PySem.W.Frag}{H H':Hp}{a:Addr}{xs:List V}(e:Same H H')(h:SqL K H a xs):SqL K H' a xs:=by
 rcases h with (h | ⟨o,h⟩) | h
 ·exact .inl (.inl (e _ _ h))
 ·exact .inl (.inr ⟨o,e _ _ h⟩)
 ·exact .inr h
end L2
namespace L3
open PySem
noncomputable section
inductive Er where
 | noPrime | noNumber | noProgram | tooLong | lossy | noText
 deriving DecidableEq
noncomputable def Er.nm:Er->Str
 | .noPrime=>"NoPrime" | .noNumber=>"NoNumber" | .noProgram=>"NoProgram" | .tooLong=>"TooLong" | .lossy=>"Lossy" | .noText=>"NoText"
inductive D where
 | non | bl (b:Bool) | int (i:Int) | str (x:Str) | tup (ds:List D) | lst (ds:List D) | dct | exc (c:Er)
mutual
noncomputable def D.noL:D->Bool
 | .lst _=>false
 | .dct=>false
 | .tup ds=>D.noLs ds
 | _=>true
noncomputable def D.noLs:List D->Bool
 | []=>true
 | d::ds=>d.noL&&D.noLs ds
end
theorem z4z:D.noLs []=true:=by unfold D.noLs;rfl
theorem y2z:∀ds:List D,D.noLs ds=ds.all D.noL
 | []=>by unfold D.noLs;rfl
 | d::ds=>by unfold D.noLs;rw[y2z ds];rfl
theorem z2f(i:Int):D.noL (.int i)=true:=by simp[D.noL]
theorem z4h(i:Bool):D.noL (.bl i)=true:=by simp[D.noL]
theorem z6r(i:Str):D.noL (.str i)=true:=by simp[D.noL]
theorem z6s:D.noL .non=true:=by simp[D.noL]
theorem y3a(ds:List D):D.noL (.tup ds)=D.noLs ds:=by simp[D.noL]
theorem x6i{ds:List D}(h:∀d∈ds,d.noL=true):D.noLs ds=true:=by rw[y2z,List.all_eq_true];exact h
theorem x3o{ds:List D}(h:D.noLs ds=true){d:D}(hd:d∈ds):d.noL=true:=by rw[y2z,List.all_eq_true] at h;exact h d hd
theorem z8t{α:Type}{f:α->D}{l:List α}(h:∀x∈l,(f x).noL=true):D.noLs (l.map f)=true:=x6i fun d hd=>by
 obtain⟨x,hx,rfl⟩:=List.mem_map.mp hd;exact h x hx
theorem z1b(ns:List Int):D.noLs (ns.map D.int)=true:=z8t fun _ _=>z2f _
theorem z3q(ns:List Int):D.noL (.tup (ns.map D.int))=true:=by rw[y3a];exact z1b ns
inductive R (α:Type) where
 | no | ok (a:α) | er (c:Er)
noncomputable def R.bind{α β:Type}(r:R α)(k:α->R β):R β:=match r with
 | .no=>.no
 | .ok a=>k a
 | .er c=>.er c
noncomputable instance:Monad R where
 pure:=R.ok
 bind:=R.bind
@[simp] theorem R.bind_no {α β:Type} (k:α->R β):(R.no>>=k)=R.no:=rfl
@[simp] theorem R.bind_ok {α β:Type} (a:α) (k:α->R β):(R.ok a>>=k)=k a:=rfl
@[simp] theorem R.bind_er {α β:Type} (c:Er) (k:α->R β):(R.er c>>=k)=R.er c:=rfl
@[simp] theorem R.pure_ok {α:Type} (a:α):(pure a:R α)=R.ok a:=rfl
theorem R.left{α β:Type}{r:R α}{k:α->R β}(h:(r>>=k) ≠ .no):r ≠ .no:=fun e=>h (by rw[e];rfl)
theorem R.next{α β:Type}{r:R α}{k:α->R β}{a:α}(h:(r>>=k) ≠ .no)(e:r = .ok a):k a ≠ .no:=by
 rw[e] at h;exact h
theorem R.step{α β:Type}{r:R α}{a:α}(e:r = .ok a)(k:α->R β):(r>>=k)=k a:=by rw[e];rfl
theorem R.stop{α β:Type}{r:R α}{c:Er}(e:r = .er c)(k:α->R β):(r>>=k) = .er c:=by rw[e];rfl
noncomputable def R.guard{α:Type}(p:Prop)(r:R α):R α:=@ite _ p (Classical.propDecidable p) r .no
theorem R.guard_pos{α:Type}{p:Prop}{r:R α}(h:p):R.guard p r=r:=if_pos h
theorem R.guard_ne{α:Type}{p:Prop}{r:R α}(h:R.guard p r ≠ .no):p/\R.guard p r=r:=by
 unfold R.guard at h ⊢
 by_cases q:p
 ·exact⟨q,if_pos q⟩
 ·rw[if_neg q] at h;exact absurd rfl h
theorem z3f{α:Type}{r:R α}:R.guard True r=r:=R.guard_pos trivial
theorem z1m{α:Type}{p:Prop}{r:R α}(h:p):R.guard p r=r:=R.guard_pos h
inductive En where
 | no | ro (d:D) | own (ds:List D)
noncomputable abbrev G:=List En
noncomputable def lk(Γ:G)(i:Nat):R D:=match Γ[i]? with
 | some (.ro d)=>.ok d
 | some (.own ds)=>.ok (.lst ds)
 | _=>.no
noncomputable def lkr(Γ:G)(i:Nat):R D:=match Γ[i]? with
 | some (.ro d)=>.ok d
 | _=>.no
theorem x9u{Γ:G}{i:Nat}(h:lk Γ i ≠ .no):∃d,lk Γ i = .ok d:=by
 cases e:lk Γ i with
 | no=>exact absurd e h
 | ok d=>exact⟨d,rfl⟩
 | er c =>
   unfold lk at e
   cases q:Γ[i]? with
   | none=>rw[q] at e;cases e
   | some en=>rw[q] at e;cases en<;>cases e
theorem x8k{Γ:G}{i:Nat}(h:lkr Γ i ≠ .no):∃d,lkr Γ i = .ok d:=by
 cases e:lkr Γ i with
 | no=>exact absurd e h
 | ok d=>exact⟨d,rfl⟩
 | er c =>
   unfold lkr at e
   cases q:Γ[i]? with
   | none=>rw[q] at e;cases e
   | some en=>rw[q] at e;cases en<;>cases e
theorem y3g(d:D)(Γ:G):lk (En.ro d::Γ) 0 = .ok d:=rfl
theorem z8v(ds:List D)(Γ:G):lk (En.own ds::Γ) 0 = .ok (.lst ds):=rfl
theorem z6t(e:En)(Γ:G)(i:Nat):lk (e::Γ) (i+1)=lk Γ i:=rfl
theorem z8u(d:D)(Γ:G):lkr (En.ro d::Γ) 0 = .ok d:=rfl
theorem z5a(e:En)(Γ:G)(i:Nat):lkr (e::Γ) (i+1)=lkr Γ i:=rfl
noncomputable def gV(i:Nat):G->R D:=fun Γ=>lk Γ i
noncomputable def gVr(i:Nat):G->R D:=fun Γ=>lkr Γ i
noncomputable def gC(d:D):G->R D:=fun _=>.ok d
noncomputable def gNL(g:G->R D):G->R D:=fun Γ=>g Γ>>=fun d=>R.guard (d.noL=true) (.ok d)
noncomputable def gL(g:G->R (List D)):G->R D:=fun Γ=>g Γ>>=fun ds=>.ok (.lst ds)
noncomputable def gBin(g:D->D->R D)(ga gb:G->R D):G->R D:=fun Γ=>ga Γ>>=fun x=>gb Γ>>=fun y=>g x y
noncomputable def asB(d:D):R Bool:=match d with
 | .bl b=>.ok b
 | _=>.no
theorem x5i{d:D}(h:asB d ≠ .no):∃b,d = .bl b/\asB d = .ok b:=by
 cases d<;>first | exact⟨_,rfl,rfl⟩ | exact absurd rfl h
theorem z9c(b:Bool):asB (.bl b) = .ok b:=rfl
noncomputable def gT(g:G->R D):G->R Bool:=fun Γ=>g Γ>>=asB
noncomputable def z6g(g g':D->D->R D)(ga gb gc:G->R D):G->R D:=fun Γ=>ga Γ>>=fun x=>gb Γ>>=fun y=>g x y>>=fun z=>asB z>>=fun k=>if k=true then gc Γ>>=fun w=>g' y w else .ok (.bl false)
noncomputable def gAnd(ga gb:G->R Bool):G->R Bool:=fun Γ=>ga Γ>>=fun k=>if k=true then gb Γ else .ok false
noncomputable def gOr(ga gb:G->R Bool):G->R Bool:=fun Γ=>ga Γ>>=fun k=>if k=true then .ok true else gb Γ
noncomputable def gNot(ga:G->R Bool):G->R Bool:=fun Γ=>ga Γ>>=fun k=>.ok (!k)
noncomputable def dNeg(d:D):R D:=match d with | .int i=>.ok (.int (-i)) | _=>.no
noncomputable def gNeg(ga:G->R D):G->R D:=fun Γ=>ga Γ>>=dNeg
noncomputable def gIf(gc:G->R Bool)(ga gb:G->R D):G->R D:=fun Γ=>gc Γ>>=fun k=>if k=true then ga Γ else gb Γ
noncomputable def gNil:G->R (List D):=fun _=>.ok []
noncomputable def gCons(g:G->R D)(gs:G->R (List D)):G->R (List D):=fun Γ=>g Γ>>=fun d=>gs Γ>>=fun ds=>.ok (d::ds)
noncomputable def y1s(ns:List Int):G->R (List D):=fun _=>.ok (ns.map D.int)
noncomputable def gTup(gs:G->R (List D)):G->R D:=fun Γ=>gs Γ>>=fun ds=>R.guard (ds.length<=1000) (.ok (.tup ds))
noncomputable def gLst(gs:G->R (List D)):G->R (List D):=fun Γ=>gs Γ>>=fun ds=>R.guard (ds.length<=1000/\D.noLs ds=true) (.ok ds)
noncomputable def z9l(i:Int):Prop:=-18446744073709551616<i/\i<18446744073709551616
noncomputable instance (i:Int):Decidable (z9l i):=by unfold z9l;exact inferInstance
noncomputable def z8c(i j:Int):Prop:=z9l i∨z9l j
noncomputable instance (i j:Int):Decidable (z8c i j):=by unfold z8c;exact inferInstance
noncomputable def y8m(j:Int):Prop:=-4611686018427387904<=j/\j<4611686018427387904
noncomputable instance (j:Int):Decidable (y8m j):=by unfold y8m;exact inferInstance
theorem z0x{j:Int}(h:-4611686018427387904<=j/\j<4611686018427387904):y8m j:=h
theorem z1h{j:Int}(h:-18446744073709551616<j/\j<18446744073709551616):z9l j:=h
theorem z3o{i j:Int}(h:z9l i):z8c i j:=.inl h
theorem z3y{i j:Int}(h:z9l j):z8c i j:=.inr h
noncomputable def dAdd(x y:D):R D:=match x,y with
 | .int i,.int j=>.ok (.int (i+j))
 | .tup xs,.tup ys=>R.guard (xs.length+ys.length<=1000) (.ok (.tup (xs++ys)))
 | _,_=>.no
noncomputable def dSub(x y:D):R D:=match x,y with
 | .int i,.int j=>.ok (.int (i-j))
 | _,_=>.no
noncomputable def dMul(x y:D):R D:=match x,y with
 | .int i,.int j=>R.guard (z8c i j) (.ok (.int (i*j)))
 | .tup xs,.int j=>R.guard (0<=j/\j<1000000/\xs.length*j.toNat<=1000) (.ok (.tup (List.replicate j.toNat xs).flatten))
 | _,_=>.no
noncomputable def dDiv(x y:D):R D:=match x,y with
 | .int i,.int j=>R.guard (0<j/\j<1073741824) (.ok (.int (i/j)))
 | _,_=>.no
noncomputable def dMod(x y:D):R D:=match x,y with
 | .int i,.int j=>R.guard (0<j) (.ok (.int (i%j)))
 | _,_=>.no
noncomputable def dPow(x y:D):R D:=match x,y with
 | .int i,.int j=>R.guard (0<=j/\j<=1000000/\i.natAbs<18446744073709551616) (.ok (.int (i^j.toNat)))
 | _,_=>.no
noncomputable def dLt(x y:D):R D:=match x,y with
 | .int i,.int j=>.ok (.bl (decide (i<j)))
 | _,_=>.no
noncomputable def dLe(x y:D):R D:=match x,y with
 | .int i,.int j=>.ok (.bl (decide (i<=j)))
 | _,_=>.no
noncomputable def dGt(x y:D):R D:=match x,y with
 | .int i,.int j=>.ok (.bl (decide (j<i)))
 | _,_=>.no
noncomputable def sOk(x:Str):Bool:=x.cps.all (·<0x110000)
mutual
noncomputable def D.lay:Nat->D->Bool
 | n+1,.tup ds=>D.lays n ds
 | n+1,.lst ds=>D.lays n ds
 | 0,.tup _=>false
 | 0,.lst _=>false
 | _,.dct=>false
 | _,.exc _=>false
 | _,.str x=>sOk x
 | _,_=>true
noncomputable def D.lays:Nat->List D->Bool
 | _,[]=>true
 | n,d::ds=>D.lay n d&&D.lays n ds
end
theorem D.lays_all(n:Nat):∀ds:List D,D.lays n ds=ds.all (D.lay n)
 | []=>by unfold D.lays;rfl
 | d::ds=>by unfold D.lays;rw[D.lays_all n ds];rfl
theorem z5x(n:Nat)(i:Int):D.lay n (.int i)=true:=by cases n<;>simp[D.lay]
theorem z8x(n:Nat)(i:Bool):D.lay n (.bl i)=true:=by cases n<;>simp[D.lay]
theorem y1a(n:Nat)(x:Str):D.lay n (.str x)=sOk x:=by cases n<;>simp[D.lay]
theorem x1f(n:Nat)(ds:List D):D.lay (n+1) (.tup ds)=ds.all (D.lay n):=by rw[D.lay,D.lays_all]
theorem z3z(n:Nat)(ns:List Int):D.lay (n+1) (.tup (ns.map D.int))=true:=by
 rw[x1f,List.all_map,List.all_eq_true];intro x _;exact z5x n x
mutual
noncomputable def eqD:D->D->Bool
 | .non,y=>(match y with | .non=>true | _=>false)
 | .bl a,y=>(match y with | .bl b=>a==b | .int j=>(if a then 1 else 0)==j | _=>false)
 | .int i,y=>(match y with | .bl b=>i==(if b then 1 else 0) | .int j=>i==j | _=>false)
 | .str x,y=>(match y with | .str z=>x==z | _=>false)
 | .tup xs,y=>(match y with | .tup ys=>eqDs xs ys | _=>false)
 | .lst xs,y=>(match y with | .lst ys=>eqDs xs ys | _=>false)
 | .dct,_=>false
 | .exc _,_=>false
noncomputable def eqDs:List D->List D->Bool
 | [],[]=>true
 | x::xs,y::ys=>eqD x y&&eqDs xs ys
 | [],_::_=>false
 | _::_,[]=>false
end
theorem z6z(i j:Int):eqD (.int i) (.int j)=(i==j):=by rw[eqD]
theorem z9a(i j:Bool):eqD (.bl i) (.bl j)=(i==j):=by rw[eqD]
theorem z9m(i j:Str):eqD (.str i) (.str j)=(i==j):=by rw[eqD]
mutual
noncomputable def D.pl:D->Bool
 | .bl _=>false
 | .dct=>false
 | .exc _=>false
 | .tup ds=>D.pls ds
 | .lst ds=>D.pls ds
 | _=>true
noncomputable def D.pls:List D->Bool
 | []=>true
 | d::ds=>d.pl&&D.pls ds
end
theorem x0n:∀ds:List D,D.pls ds=ds.all D.pl
 | []=>by unfold D.pls;rfl
 | d::ds=>by unfold D.pls;rw[x0n ds];rfl
theorem x7u(i:Int):D.pl (.int i)=true:=by simp[D.pl]
theorem x4r(ds:List D):D.pl (.tup ds)=ds.all D.pl:=by rw[D.pl,x0n]
theorem x0o(ns:List Int):D.pl (.tup (ns.map D.int))=true:=by
 rw[x4r,List.all_map,List.all_eq_true];intro x _;exact x7u x
mutual
theorem y3q:∀(x y:D),x.pl=true->y.pl=true->(eqD x y=true↔x=y)
 | .non,y,_,hy=>by cases y<;>simp_all [eqD,D.pl]
 | .bl _,y,hx,hy=>by simp[D.pl] at hx
 | .int i,y,_,hy=>by cases y<;>simp_all [eqD,D.pl]
 | .str i,y,_,hy=>by cases y<;>simp_all [eqD,D.pl]
 | .dct,y,hx,hy=>by simp[D.pl] at hx
 | .exc _,y,hx,hy=>by simp[D.pl] at hx
 | .tup xs,y,hx,hy=>by
   cases y with
   | tup ys=>rw[eqD,eqDs_iff xs ys (by simpa [D.pl] using hx) (by simpa [D.pl] using hy)];simp
   | _=>simp_all [eqD,D.pl]
 | .lst xs,y,hx,hy=>by
   cases y with
   | lst ys=>rw[eqD,eqDs_iff xs ys (by simpa [D.pl] using hx) (by simpa [D.pl] using hy)];simp
   | _=>simp_all [eqD,D.pl]
theorem eqDs_iff:∀(xs ys:List D),D.pls xs=true->D.pls ys=true->(eqDs xs ys=true↔xs=ys)
 | [],[],_,_=>by simp[eqDs]
 | [],y::ys,_,_=>by simp[eqDs]
 | x::xs,[],_,_=>by simp[eqDs]
 | x::xs,y::ys,hx,hy=>by
   have hx':x.pl=true/\D.pls xs=true:=by simpa [D.pls] using hx
   have hy':y.pl=true/\D.pls ys=true:=by simpa [D.pls] using hy
   rw[eqDs,Bool.and_eq_true,y3q x y hx'.1 hy'.1,eqDs_iff xs ys hx'.2 hy'.2];simp
end
theorem y7t{x:D}(h:x.pl=true):eqD x x=true:=(y3q x x h h).mpr rfl
theorem x1w{x y:D}(hx:x.pl=true)(hy:y.pl=true){p:Prop}[Decidable p](h:x=y↔p):eqD x y=decide p:=by
 by_cases q:p
 ·rw[decide_eq_true q];exact(y3q x y hx hy).mpr (h.mpr q)
 ·rw[decide_eq_false q]
  cases e:eqD x y with
  | false=>rfl
  | true=>exact absurd (h.mp ((y3q x y hx hy).mp e)) q
noncomputable def dEq(x y:D):R D:=R.guard (D.lay 40 x=true/\D.lay 40 y=true) (.ok (.bl (eqD x y)))
noncomputable def dNe(x y:D):R D:=R.guard (D.lay 40 x=true/\D.lay 40 y=true) (.ok (.bl (!eqD x y)))
noncomputable def ixN(n:Nat)(i:Int):Option Nat:=if 0<=i then (if i<n then some i.toNat else none) else if -(n:Int)<=i then some (i+n).toNat else none
noncomputable def atI{α:Type}(xs:List α)(i:Int):Option α:=(ixN xs.length i).bind fun j=>xs[j]?
theorem z3c{α:Type}{ds:List α}(i:Nat):atI ds (i:Int)=ds[i]?:=by
 unfold atI ixN
 rw[if_pos (by lia)]
 by_cases h:(i:Int)<ds.length
 ·rw[if_pos h];simp
 ·rw[if_neg h]
  have:ds.length<=i:=by lia
  rw[List.getElem?_eq_none this];rfl
theorem x5h{α:Type}{ds:List α}{i:Int}(h:0<=i):atI ds i=ds[i.toNat]?:=by
 obtain⟨n,rfl⟩:∃n:Nat,i=(n:Int):=⟨i.toNat,by lia⟩
 rw[z3c];rfl
theorem x2n{α:Type}{ds:List α}{i:Int}(h:i<0)(h2:-(ds.length:Int)<=i):atI ds i=ds[(i+ds.length).toNat]?:=by
 unfold atI ixN
 rw[if_neg (by lia),if_pos h2];rfl
theorem z4f{α:Type}(a:α)(ds:List α):atI (a::ds) 0=some a:=z3c 0
theorem z5f{α:Type}(a b:α)(ds:List α):atI (a::b::ds) 1=some b:=z3c 1
theorem z5e{α:Type}(a b c:α)(ds:List α):atI (a::b::c::ds) 2=some c:=z3c 2
theorem z3i{α:Type}(a b c d:α)(ds:List α):atI (a::b::c::d::ds) 3=some d:=z3c 3
noncomputable def dIx(x y:D):R D:=match x,y with
 | .tup ds,.int i=>(match atI ds i with | some d=>.ok d | none=>.no)
 | .lst ds,.int i=>(match atI ds i with | some d=>.ok d | none=>.no)
 | _,_=>.no
noncomputable def sIx(n d:Nat):Option Int->Nat
 | none=>d
 | some v=>if v<0 then (v+(n:Int)).toNat else min v.toNat n
theorem sIx_none(n d:Nat):sIx n d none=d:=rfl
theorem sIx_nat(n d k:Nat):sIx n d (some (k:Int))=min k n:=by
 show(if (k:Int)<0 then ((k:Int)+(n:Int)).toNat else min (k:Int).toNat n)=min k n
 rw[if_neg (by lia),Int.toNat_natCast]
noncomputable def cutL{α:Type}(xs:List α)(lo hi:Option Int):List α:=(xs.drop (sIx xs.length 0 lo)).take (sIx xs.length xs.length hi-sIx xs.length 0 lo)
noncomputable def gON:G->R (Option Int):=fun _=>.ok none
noncomputable def dOS(d:D):R (Option Int):=match d with | .int i=>.ok (some i) | _=>.no
noncomputable def gOS(g:G->R D):G->R (Option Int):=fun Γ=>g Γ>>=dOS
noncomputable def dCut(d:D)(lo hi:Option Int):R D:=match d with
 | .tup xs=>.ok (.tup (cutL xs lo hi))
 | .lst xs=>.ok (.lst (cutL xs lo hi))
 | _=>.no
noncomputable def gSl(ga:G->R D)(lo hi:G->R (Option Int)):G->R D:=fun Γ=>ga Γ>>=fun d=>lo Γ>>=fun l=>hi Γ>>=fun h=>dCut d l h
theorem x4g{α β:Type}(f:α->β)(xs:List α)(lo hi:Option Int):cutL (xs.map f) lo hi=(cutL xs lo hi).map f:=by
 unfold cutL;rw[List.length_map,List.map_take,List.map_drop]
theorem z6j{α:Type}(xs:List α)(k:Nat):cutL xs (some (k:Int)) none=xs.drop k:=by
 unfold cutL
 rw[sIx_none,sIx_nat]
 by_cases h:k<=xs.length
 ·rw[Nat.min_eq_left h,List.take_of_length_le (by rw[List.length_drop];lia)]
 ·rw[Nat.min_eq_right (by lia),List.drop_length,List.drop_of_length_le (by lia)];simp
theorem z9n{α:Type}(xs:List α)(k:Nat):cutL xs none (some (k:Int))=xs.take k:=by
 unfold cutL
 rw[sIx_none,sIx_nat,Nat.sub_zero,List.drop_zero]
 by_cases h:k<=xs.length
 ·rw[Nat.min_eq_left h]
 ·rw[Nat.min_eq_right (by lia),List.take_length,List.take_of_length_le (by lia)]
inductive Cl where
 | noPrime | noNumber | noProgram | tooLong | lossy | noText | longError | valueError
noncomputable def z0h(g:List D->R D)(gs:G->R (List D)):G->R D:=fun Γ=>gs Γ>>=g
noncomputable def dLen(ds:List D):R D:=match ds with
 | [.tup xs]=>.ok (.int xs.length)
 | [.lst xs]=>.ok (.int xs.length)
 | _=>.no
noncomputable def z2h(ds:List D):R D:=match ds with
 | [.tup xs]=>.ok (.tup xs)
 | [.lst xs]=>.ok (.tup xs)
 | _=>.no
noncomputable def dMin(ds:List D):R D:=match ds with
 | [.int i,.int j]=>.ok (.int (if j<i then j else i))
 | _=>.no
noncomputable def ints?:List D->Option (List Int)
 | []=>some []
 | .int i::ds=>(ints? ds).map (i::·)
 | _::_=>none
theorem ints?_some:∀{ds:List D} {ns:List Int},ints? ds=some ns->ds=ns.map D.int
 | [],ns,h=>by unfold ints? at h;cases h;rfl
 | d::ds,ns,h=>by
   cases d with
   | int i =>
     unfold ints? at h
     cases q:ints? ds with
     | none=>rw[q] at h;cases h
     | some ms=>rw[q] at h;cases h;rw[ints?_some q];rfl
   | _=>unfold ints? at h;cases h
theorem ints?_map:∀ns:List Int,ints? (ns.map D.int)=some ns
 | []=>rfl
 | n::ns=>by show(ints? (ns.map D.int)).map (n::·)=_;rw[ints?_map ns];rfl
noncomputable def bools?:List D->Option (List Bool)
 | []=>some []
 | .bl i::ds=>(bools? ds).map (i::·)
 | _::_=>none
theorem bools?_some:∀{ds:List D} {ns:List Bool},bools? ds=some ns->ds=ns.map D.bl
 | [],ns,h=>by unfold bools? at h;cases h;rfl
 | d::ds,ns,h=>by
   cases d with
   | bl i =>
     unfold bools? at h
     cases q:bools? ds with
     | none=>rw[q] at h;cases h
     | some ms=>rw[q] at h;cases h;rw[bools?_some q];rfl
   | _=>unfold bools? at h;cases h
theorem bools?_map:∀ns:List Bool,bools? (ns.map D.bl)=some ns
 | []=>rfl
 | n::ns=>by show(bools? (ns.map D.bl)).map (n::·)=_;rw[bools?_map ns];rfl
noncomputable def dSum(ds:List D):R D:=match ds with
 | [.lst xs]=>(match ints? xs with | some ns=>.ok (.int ns.sum) | none=>.no)
 | _=>.no
theorem z4l(ns:List Int):dSum [.lst (ns.map D.int)] = .ok (.int ns.sum):=by simp only[dSum,ints?_map]
noncomputable def dAny(ds:List D):R D:=match ds with
 | [.lst xs]=>(match bools? xs with | some bs=>.ok (.bl (bs.any (fun b=>b))) | none=>.no)
 | _=>.no
theorem z5c(ns:List Bool):dAny [.lst (ns.map D.bl)] = .ok (.bl (ns.any fun b=>b)):=by simp only[dAny,bools?_map]
noncomputable def noEr(φ:List D->R D):List D->R D:=fun ds=>match φ ds with
 | .ok d=>.ok d
 | _=>.no
theorem x0u{φ:List D->R D}{ds:List D}(h:noEr φ ds ≠ .no):∃d,φ ds = .ok d/\noEr φ ds = .ok d:=by
 unfold noEr at h ⊢
 cases q:φ ds with
 | ok d=>exact⟨d,rfl,rfl⟩
 | no=>rw[q] at h;exact absurd rfl h
 | er c=>rw[q] at h;exact absurd rfl h
noncomputable def z4v(φ:List D->R (List D))(gs:G->R (List D)):G->R (List D):=fun Γ=>gs Γ>>=fun ds=>φ ds>>=fun es=>R.guard (D.noLs es=true) (.ok es)
noncomputable def y1t(d:D):R (List D):=match d with
 | .tup ds=>R.guard (D.noLs ds=true) (.ok ds)
 | .lst ds=>R.guard (D.noLs ds=true) (.ok ds)
 | _=>.no
noncomputable def z6w(g:G->R D):G->R (List D):=fun Γ=>g Γ>>=y1t
noncomputable def gCat(ga gb:G->R (List D)):G->R (List D):=fun Γ=>ga Γ>>=fun x=>gb Γ>>=fun y=>R.guard (x.length+y.length<=1000) (.ok (x++y))
noncomputable def y1u(x y:D):R (List D):=match x,y with
 | .lst xs,.lst ys=>R.guard (xs.length+ys.length<=1000/\D.noLs (xs++ys)=true) (.ok (xs++ys))
 | _,_=>.no
noncomputable def z9k(ga gb:G->R D):G->R (List D):=fun Γ=>ga Γ>>=fun x=>gb Γ>>=fun y=>y1u x y
noncomputable def D.ty:D->String
 | .non=>"NoneType"
 | .bl _=>"bool"
 | .int _=>"int"
 | .str _=>"str"
 | .tup _=>"tuple"
 | .lst _=>"list"
 | .dct=>"dict"
 | .exc _=>""
noncomputable def D.noX:D->Bool
 | .exc _=>false
 | _=>true
noncomputable def dIsi(f:String->Bool)(d:D):R D:=match d with
 | .exc _=>.no
 | d=>.ok (.bl (f d.ty))
noncomputable def gIsi(f:String->Bool)(g:G->R D):G->R D:=fun Γ=>g Γ>>=dIsi f
theorem x6v{f:String->Bool}{d:D}(h:dIsi f d ≠ .no):d.noX=true/\dIsi f d = .ok (.bl (f d.ty)):=by
 cases d<;>first | exact⟨rfl,rfl⟩ | exact absurd rfl h
noncomputable def z7e(t:String):Bool:=t=="int"||t=="bool"
noncomputable def z4t(t:String):Bool:=t=="bool"
noncomputable def z2w(t:String):Bool:=t=="tuple"
noncomputable def dSeq(d:D):R (List D):=match d with
 | .tup ds=>.ok ds
 | .lst ds=>.ok ds
 | _=>.no
noncomputable def gSeq(g:G->R D):G->R (List D):=fun Γ=>g Γ>>=dSeq
noncomputable def z5z(g:G->R D):G->R (List D):=fun Γ=>g Γ>>=fun d=>dSeq d>>=fun ds=>R.guard (D.noLs ds=true) (.ok ds)
noncomputable def z3w(lo:Int)(n:Nat):List D:=(List.range n).map fun(i:Nat)=>D.int (lo+(i:Int))
theorem z0r(lo:Int)(n:Nat):(z3w lo n).length=n:=by unfold z3w;simp
theorem z9e(lo:Int)(n i:Nat)(h:i<n):(z3w lo n)[i]? = some (.int (lo+(i:Int))):=by unfold z3w;simp[h]
theorem z2m(lo:Int):z3w lo 0=[]:=rfl
noncomputable def z9d(lo:Int)(step:Int)(n:Nat):List D:=(List.range n).map fun(i:Nat)=>D.int (lo+step*(i:Int))
noncomputable def z8m(lo hi step:Int):Nat:=((hi-lo+step-1)/step).toNat
noncomputable def z5q(g:G->R D):G->R (List D):=fun Γ=>g Γ>>=fun d=>match d with
 | .int j=>R.guard (y8m j) (.ok (z3w 0 j.toNat))
 | _=>.no
noncomputable def z9j(ga gb:G->R D):G->R (List D):=fun Γ=>ga Γ>>=fun d=>gb Γ>>=fun d'=>match d,d' with
 | .int i,.int j=>R.guard (y8m i/\y8m j) (.ok (z3w i (j-i).toNat))
 | _,_=>.no
noncomputable def y1e(ga gb gc:G->R D):G->R (List D):=fun Γ=>ga Γ>>=fun d=>gb Γ>>=fun d'=>gc Γ>>=fun d''=>match d,d',d'' with
 | .int i,.int j,.int k=>R.guard ((-1073741824<=i/\i<1073741824)/\(-1073741824<=j/\j<1073741824)/\0<k/\k<1073741824) (.ok (z9d i k (z8m i j k)))
 | _,_,_=>.no
noncomputable def z0w(f:D->R (Option D)):List D->List D->R (List D)
 | [],acc=>.ok acc
 | d::r,acc=>match f d with
   | .ok (some e)=>z0w f r (acc++[e])
   | .ok none=>z0w f r acc
   | _=>.no
theorem z3g(f:D->R (Option D))(acc:List D):z0w f [] acc = .ok acc:=rfl
theorem z8g(f:D->R (Option D))(d:D)(r acc:List D):z0w f (d::r) acc=match f d with
 | .ok (some e)=>z0w f r (acc++[e])
 | .ok none=>z0w f r acc
 | _=>.no:=rfl
theorem z5l{f:D->R (Option D)}:∀{ds acc:List D},z0w f ds acc ≠ .no->∃es,z0w f ds acc = .ok es
 | [],acc,_=>⟨acc,rfl⟩
 | d::r,acc,h=>by
   unfold z0w at h ⊢
   cases q:f d with
   | no=>rw[q] at h;exact absurd rfl h
   | er c=>rw[q] at h;exact absurd rfl h
   | ok o =>
     rw[q] at h
     cases o with
     | none=>exact z5l h
     | some e=>exact z5l h
theorem z1f{α:Type}{f:D->R (Option D)}{k h:α->D}{l:List α}(q:∀x∈l,f (k x) = .ok (some (h x))):z0w f (l.map k) [] = .ok (l.map h):=by
 suffices H:∀(l:List α) (acc:List D),(∀x∈l,f (k x) = .ok (some (h x)))->z0w f (l.map k) acc = .ok (acc++l.map h) by
  have:=H l [] q;simpa using this
 intro l
 induction l with
 | nil=>intro acc _;simp[z0w]
 | cons x l ih =>
   intro acc q
   rw[List.map_cons,z8g,q x List.mem_cons_self]
   simp only
   rw[ih _ fun y hy=>q y (List.mem_cons_of_mem _ hy)]
   simp
theorem y1v{α:Type}{f:D->R (Option D)}{k:α->D}{h:α->Option D}{l:List α}(q:∀x∈l,f (k x) = .ok (h x)):z0w f (l.map k) [] = .ok (l.filterMap h):=by
 suffices H:∀(l:List α) (acc:List D),(∀x∈l,f (k x) = .ok (h x))->z0w f (l.map k) acc = .ok (acc++l.filterMap h) by
  have:=H l [] q;simpa using this
 intro l
 induction l with
 | nil=>intro acc _;simp[z0w]
 | cons x l ih =>
   intro acc q
   rw[List.map_cons,z8g,q x List.mem_cons_self]
   cases e:h x with
   | none=>simp only;rw[ih _ fun y hy=>q y (List.mem_cons_of_mem _ hy)];simp[e]
   | some z=>simp only;rw[ih _ fun y hy=>q y (List.mem_cons_of_mem _ hy)];simp[e]
theorem z3b{f:D->R (Option D)}{lo:Int}{n:Nat}{h:Nat->D}(q:∀i,i<n->f (.int (lo+(i:Int))) = .ok (some (h i))):z0w f (z3w lo n) [] = .ok ((List.range n).map h) :=
 z1f (k:=fun(i:Nat)=>D.int (lo+(i:Int))) fun i hi=>q i (List.mem_range.mp hi)
noncomputable def fElt(ge:G->R D):D->G->R (Option D):=fun d Γ=>ge (.ro d::Γ)>>=fun e=>.ok (some e)
noncomputable def z7o(gc:G->R Bool)(ge:G->R D):D->G->R (Option D):=fun d Γ=>gc (.ro d::Γ)>>=fun k=>if k=true then ge (.ro d::Γ)>>=fun e=>.ok (some e) else .ok none
noncomputable def z2t(gi:G->R (List D))(f:D->G->R (Option D)):G->R (List D):=fun Γ=>gi Γ>>=fun items=>R.guard (items.length<=100000) (z0w (fun d=>f d Γ) items [])
inductive Fl where
 | nx (Γ:G) | rt (d:D) | rtF (ds:List D) | bk (Γ:G) | ct (Γ:G) | ex (c:Er) (Γ:G)
noncomputable def lift{α:Type}(r:R α)(Γ:G)(k:α->R Fl):R Fl:=match r with
 | .no=>.no
 | .er c=>.ok (.ex c Γ)
 | .ok a=>k a
theorem z2g{α:Type}{r:R α}{Γ:G}{k:α->R Fl}(h:lift r Γ k ≠ .no):r ≠ .no:=fun e=>h (by rw[e];rfl)
theorem z4j{α:Type}{r:R α}{Γ:G}{k:α->R Fl}{a:α}(e:r = .ok a):lift r Γ k=k a:=by rw[e];rfl
theorem y0v{α:Type}{r:R α}{Γ:G}{k:α->R Fl}{a:α}(h:lift r Γ k ≠ .no)(e:r = .ok a):k a ≠ .no:=by rw[e] at h;exact h
theorem z3e{α:Type}(a:α)(Γ:G)(k:α->R Fl):lift (.ok a) Γ k=k a:=rfl
theorem z5b{α:Type}(c:Er)(Γ:G)(k:α->R Fl):lift (.er c:R α) Γ k = .ok (.ex c Γ):=rfl
noncomputable def frz(i:Nat)(Γ:G):G:=match Γ[i]? with
 | some (.own ds)=>Γ.set i (.ro (.lst ds))
 | _=>Γ
noncomputable def z2r:G->R Fl:=fun Γ=>.ok (.nx Γ)
noncomputable def gSt(t u:G->R Fl):G->R Fl:=fun Γ=>t Γ>>=fun r=>match r with
 | .nx Γ'=>u Γ'
 | r=>.ok r
noncomputable def z8z(g:G->R (List D)):G->R Fl:=fun Γ=>lift (g Γ) Γ fun ds=>.ok (.rtF ds)
noncomputable def z8f(i:Nat):G->R Fl:=fun Γ=>match Γ[i]? with
 | some (.own ds)=>.ok (.rtF ds)
 | _=>.no
noncomputable def z7l(c:Er):G->R Fl:=fun Γ=>.ok (.ex c Γ)
noncomputable def gRet(g:G->R D):G->R Fl:=fun Γ=>lift (g Γ) Γ fun d=>.ok (.rt d)
noncomputable def gIfS(gc:G->R Bool)(t u:G->R Fl):G->R Fl:=fun Γ=>lift (gc Γ) Γ fun k=>if k=true then t Γ else u Γ
noncomputable def gSet(i:Nat)(g:G->R D):G->R Fl:=fun Γ=>lift (g Γ) Γ fun d=>.ok (.nx (Γ.set i (.ro d)))
noncomputable def z2s(i:Nat)(g:G->R (List D)):G->R Fl:=fun Γ=>lift (g Γ) Γ fun ds=>.ok (.nx (Γ.set i (.own ds)))
noncomputable def gApp(i:Nat)(g:G->R D):G->R Fl:=fun Γ=>match Γ[i]? with
 | some (.own ds)=>lift (g Γ) Γ fun d=>R.guard (ds.length<=100000) (.ok (.nx (Γ.set i (.own (ds++[d])))))
 | _=>.no
noncomputable def gPut(i:Nat)(gi g:G->R D):G->R Fl:=fun Γ=>match Γ[i]? with
 | some (.own ds)=>lift (g Γ) Γ fun d=>lift (gi Γ) Γ fun k=>(match k with
   | .int j=>(match ixN ds.length j with | some j'=>.ok (.nx (Γ.set i (.own (ds.set j' d)))) | none=>.no)
   | _=>.no)
 | _=>.no
noncomputable def z3k(gb:G->R Fl)(i:Nat):List D->G->R Fl
 | [],Γ=>.ok (.nx Γ)
 | d::r,Γ=>match gb (Γ.set i (.ro d)) with
   | .ok (.nx Γ')=>z3k gb i r Γ'
   | .ok (.ct Γ')=>z3k gb i r Γ'
   | .ok (.bk Γ')=>.ok (.nx Γ')
   | .ok (.rt d)=>.ok (.rt d)
   | .ok (.rtF d)=>.ok (.rtF d)
   | .ok (.ex c Γ')=>.ok (.ex c Γ')
   | _=>.no
noncomputable def gFor(i:Nat)(gi:G->R (List D))(gb:G->R Fl):G->R Fl:=fun Γ=>lift (gi Γ) Γ fun ds=>z3k gb i ds Γ
noncomputable def whGo(gc:G->R Bool)(gb:G->R Fl):Nat->G->R Fl
 | 0,_=>.no
 | n+1,Γ=>lift (gc Γ) Γ fun k=>if k=true then (match gb Γ with
    | .ok (.nx Γ')=>whGo gc gb n Γ'
    | .ok (.ct Γ')=>whGo gc gb n Γ'
    | .ok (.bk Γ')=>.ok (.nx Γ')
    | .ok (.rt d)=>.ok (.rt d)
    | .ok (.rtF d)=>.ok (.rtF d)
    | .ok (.ex c Γ')=>.ok (.ex c Γ')
    | _=>.no) else .ok (.nx Γ)
theorem z4b(gb:G->R Fl)(i:Nat)(Γ:G):z3k gb i [] Γ = .ok (.nx Γ):=rfl
theorem z7v(gb:G->R Fl)(i:Nat)(d:D)(ds:List D)(Γ:G):z3k gb i (d::ds) Γ=match gb (Γ.set i (.ro d)) with
 | .ok (.nx Γ')=>z3k gb i ds Γ'
 | .ok (.ct Γ')=>z3k gb i ds Γ'
 | .ok (.bk Γ')=>.ok (.nx Γ')
 | .ok (.rt d)=>.ok (.rt d)
 | .ok (.rtF d)=>.ok (.rtF d)
 | .ok (.ex c Γ')=>.ok (.ex c Γ')
 | _=>.no:=rfl
theorem z7m{gb:G->R Fl}{i:Nat}(I:Nat->G->Prop):∀(ds:List D) (k:Nat) (Γ:G),I k Γ ->
 (∀(j:Nat) (d:D) (Γ:G),ds[j]? = some d->I (k+j) Γ->∃Γ',(gb (Γ.set i (.ro d)) = .ok (.nx Γ')∨gb (Γ.set i (.ro d)) = .ok (.ct Γ'))/\I (k+j+1) Γ') ->
 ∃Γ',z3k gb i ds Γ = .ok (.nx Γ')/\I (k+ds.length) Γ'
 | [],k,Γ,h,_=>⟨Γ,rfl,h⟩
 | d::ds,k,Γ,h,q=>by
   obtain⟨Γ1,e1,h1⟩:=q 0 d Γ rfl h
   obtain⟨Γ2,e2,h2⟩:=z7m I ds (k+1) Γ1 h1 fun j d' Γ' hd hI=>by
    have:=q (j+1) d' Γ' (by simpa using hd) (by rw[show k+(j+1)=k+1+j by lia];exact hI)
    rw[show k+(j+1)=k+1+j by lia] at this
    exact this
   refine⟨Γ2,?_,by rw[List.length_cons,show k+(ds.length+1)=k+1+ds.length by lia];exact h2⟩
   rw[z7v]
   rcases e1 with e1 | e1<;>rw[e1]<;>exact e2
theorem x1s{gb:G->R Fl}{i:Nat}(S:Nat->G)(ds:List D)(q:∀(j:Nat) (d:D),ds[j]? = some d->gb ((S j).set i (.ro d)) = .ok (.nx (S (j+1)))):z3k gb i ds (S 0) = .ok (.nx (S ds.length)):=by
 obtain⟨Γ',e,h⟩:=z7m (gb:=gb) (i:=i) (fun k Γ=>Γ=S k) ds 0 (S 0) rfl fun j d Γ hd hI=>by
  rw[Nat.zero_add] at hI ⊢
  subst hI
  exact⟨_,.inl (q j d hd),rfl⟩
 rw[Nat.zero_add] at h
 rw[e,h]
theorem y8y{gb:G->R Fl}{i:Nat}{Γ:G}(S:Nat->G){ds:List D}(h0:Γ=S 0)(q:∀(j:Nat) (d:D),ds[j]? = some d->gb ((S j).set i (.ro d)) = .ok (.nx (S (j+1)))):z3k gb i ds Γ = .ok (.nx (S ds.length)):=by
 rw[h0];exact x1s S ds q
theorem y6l{gb:G->R Fl}{i:Nat}{Γ:G}(S:Nat->G){lo:Int}{n:Nat}(h0:Γ=S 0)(q:∀(j:Nat),j<n->gb ((S j).set i (.ro (.int (lo+(j:Int))))) = .ok (.nx (S (j+1)))):z3k gb i (z3w lo n) Γ = .ok (.nx (S n)):=by
 rw[y8y S h0,z0r]
 intro j d hd
 have hj:j<n:=by
  have:=(List.getElem?_eq_some_iff.mp hd).1
  rw[z0r] at this;exact this
 rw[z9e lo _ _ hj] at hd
 cases hd
 exact q j hj
theorem y8x{gb:G->R Fl}{i:Nat}(I:G->Prop){ds:List D}{Γ:G}(h:I Γ)(q:∀d∈ds,∀Γ,I Γ->∃Γ',(gb (Γ.set i (.ro d)) = .ok (.nx Γ')∨gb (Γ.set i (.ro d)) = .ok (.ct Γ'))/\I Γ'):∃Γ',z3k gb i ds Γ = .ok (.nx Γ')/\I Γ' :=
 z7m (fun _=>I) ds 0 Γ h fun _ d Γ hd hI=>q d (List.mem_of_getElem? hd) Γ hI
theorem y9m(gc:G->R Bool)(gb:G->R Fl)(n:Nat)(Γ:G):whGo gc gb (n+1) Γ=lift (gc Γ) Γ fun k=>if k=true then (match gb Γ with
 | .ok (.nx Γ')=>whGo gc gb n Γ'
 | .ok (.ct Γ')=>whGo gc gb n Γ'
 | .ok (.bk Γ')=>.ok (.nx Γ')
 | .ok (.rt d)=>.ok (.rt d)
 | .ok (.rtF d)=>.ok (.rtF d)
 | .ok (.ex c Γ')=>.ok (.ex c Γ')
 | _=>.no) else .ok (.nx Γ):=rfl
theorem z9y{gc:G->R Bool}{gb:G->R Fl}(I:Nat->G->Prop)(Q:R Fl->Prop)(q:∀m Γ,I m Γ->(gc Γ = .ok false/\Q (.ok (.nx Γ)))∨(gc Γ = .ok true /\
 ((∃Γ' m',m'<m/\(gb Γ = .ok (.nx Γ')∨gb Γ = .ok (.ct Γ'))/\I m' Γ')∨(∃Γ',gb Γ = .ok (.bk Γ')/\Q (.ok (.nx Γ')))∨(∃d,gb Γ = .ok (.rt d)/\Q (.ok (.rt d)))∨(∃d,gb Γ = .ok (.rtF d)/\Q (.ok (.rtF d)))∨(∃c Γ',gb Γ = .ok (.ex c Γ')/\Q (.ok (.ex c Γ')))))) :
 ∀(n m:Nat) (Γ:G),m<n->I m Γ->Q (whGo gc gb n Γ)
 | 0,m,Γ,h,_=>absurd h (Nat.not_lt_zero _)
 | n+1,m,Γ,h,hI=>by
   rw[y9m]
   rcases q m Γ hI with ⟨e,hq⟩ | ⟨e,h2⟩
   ·rw[e,z3e,if_neg Bool.false_ne_true];exact hq
   ·rw[e,z3e,if_pos rfl]
    rcases h2 with ⟨Γ',m',hm,e',h'⟩ | ⟨Γ',e',h'⟩ | ⟨d,e',h'⟩ | ⟨d,e',h'⟩ | ⟨c,Γ',e',h'⟩
    ·rcases e' with e' | e'<;>rw[e']<;>exact z9y I Q q n m' Γ' (by lia) h'
    ·rw[e'];exact h'
    ·rw[e'];exact h'
    ·rw[e'];exact h'
    ·rw[e'];exact h'
noncomputable def ini(n:Nat)(ds:List D):G:=ds.map En.ro++List.replicate (n-ds.length) En.no
noncomputable def fin(r:R Fl):R D:=match r with
 | .ok (.rt d)=>.ok d
 | .ok (.nx _)=>.ok .non
 | .ok (.ex c _)=>.er c
 | _=>.no
noncomputable def finF(r:R Fl):R (List D):=match r with
 | .ok (.rtF d)=>.ok d
 | .ok (.ex c _)=>.er c
 | _=>.no
noncomputable def fnC(p n:Nat)(g:G->R Fl):List D->R D:=fun ds=>if ds.length=p then fin (g (ini n ds)) else .no
theorem z0i{p n:Nat}{g:G->R Fl}{ds:List D}(h:fnC p n g ds ≠ .no):ds.length=p:=by
 unfold fnC at h
 by_cases q:ds.length=p
 ·exact q
 ·rw[if_neg q] at h;exact absurd rfl h
theorem z1g{p n:Nat}{g:G->R Fl}{ds:List D}(h:ds.length=p):fnC p n g ds=fin (g (ini n ds)):=if_pos h
noncomputable def fnF(p n:Nat)(g:G->R Fl):List D->R (List D):=fun ds=>if ds.length=p then finF (g (ini n ds)) else .no
theorem z7n{p n:Nat}{g:G->R Fl}{ds:List D}(h:fnF p n g ds ≠ .no):ds.length=p:=by
 unfold fnF at h
 by_cases q:ds.length=p
 ·exact q
 ·rw[if_neg q] at h;exact absurd rfl h
theorem y4y{p n:Nat}{g:G->R Fl}{ds:List D}(h:ds.length=p):fnF p n g ds=finF (g (ini n ds)):=if_pos h
theorem y3f:((0:Nat):Int)=0:=rfl
theorem y3e:((1:Nat):Int)=1:=rfl
theorem y3d:((2:Nat):Int)=2:=rfl
theorem y3c:((3:Nat):Int)=3:=rfl
theorem y3b:((4:Nat):Int)=4:=rfl
end
noncomputable def maxI:List Int->Int
 | []=>0
 | [a]=>a
 | a::b::r=>if maxI (b::r)>a then maxI (b::r) else a
theorem y7k:∀{ns:List Int},ns≠[]->maxI ns∈ns
 | [a],_=>by simp[maxI]
 | a::b::r,_=>by
   have ih:=y7k (ns:=b::r) (by simp)
   unfold maxI
   split
   ·exact List.mem_cons_of_mem _ ih
   ·exact List.mem_cons_self
theorem x0x:∀{ns:List Int} {a:Int},a∈ns->a<=maxI ns
 | [b],a,h=>by simp only[List.mem_singleton] at h;subst h;exact Int.le_refl _
 | b::c::r,a,h=>by
   unfold maxI
   rcases List.mem_cons.mp h with rfl | h
   ·split<;>lia
   ·have:=x0x h
    split<;>lia
theorem y4s{ns:List Int}{m:Int}(h:m∈ns)(g:∀a∈ns,a<=m):m=maxI ns:=Int.le_antisymm (x0x h) (g _ (y7k fun z=>by rw[z] at h;cases h))
noncomputable def y9b(ds:List D):R D:=match ds with
 | [.lst xs]=>(match ints? xs with | some (n::ns)=>.ok (.int (maxI (n::ns))) | _=>.no)
 | [.int i,.int j]=>.ok (.int (if j>i then j else i))
 | _=>.no
theorem z7q(n:Int)(ns:List Int):y9b [.lst (D.int n::ns.map D.int)] = .ok (.int (maxI (n::ns))):=by
 have h:=ints?_map (n::ns)
 rw[List.map_cons] at h
 simp only[y9b,h]
noncomputable def bigN:Nat:=10^1200
noncomputable def y7j(i j:Int):Prop:=i.natAbs<bigN/\j.natAbs<bigN
noncomputable instance (i j:Int):Decidable (y7j i j):=by unfold y7j;exact inferInstance
noncomputable def D.isNon:D->Bool
 | .non=>true
 | _=>false
noncomputable def y9a(x y:D):R D:=match y with
 | .non=>.ok (.bl (!x.isNon))
 | _=>.no
noncomputable def x2j(n:Int):Nat:=if n==0 then 0 else n.natAbs.log2+1
noncomputable def y9c(d:D):R D:=match d with
 | .int n=>.ok (.int (x2j n))
 | _=>.no
noncomputable def y6k(ga:G->R D):G->R D:=fun Γ=>ga Γ>>=y9c
noncomputable def dShr(x y:D):R D:=match x,y with
 | .int i,.int j=>R.guard (0<=i/\0<=j) (.ok (.int (i/2^j.toNat)))
 | _,_=>.no
noncomputable def z9w(ge:G->R D):D->D->G->R (Option D):=fun d d2 Γ=>ge (.ro d :: .ro d2::Γ)>>=fun e=>.ok (some e)
noncomputable def y2h(gc:G->R Bool)(ge:G->R D):D->D->G->R (Option D):=fun d d2 Γ=>gc (.ro d :: .ro d2::Γ)>>=fun k=>if k=true then ge (.ro d :: .ro d2::Γ)>>=fun e=>.ok (some e) else .ok none
noncomputable def z8s(f:D->D->G->R (Option D))(Γ:G)(d:D):R (Option D):=match d with
 | .tup [a,b]=>f a b Γ
 | _=>.no
noncomputable def z5u(gi:G->R (List D))(f:D->D->G->R (Option D)):G->R (List D):=fun Γ=>gi Γ>>=fun items=>R.guard (items.length<=100000) (z0w (z8s f Γ) items [])
noncomputable def zipD:List D->List D->List D
 | x::xs,y::ys=>.tup [x,y]::zipD xs ys
 | _,_=>[]
noncomputable def gZip(ga gb:G->R D):G->R (List D):=fun Γ=>ga Γ>>=fun a=>gb Γ>>=fun b=>dSeq a>>=fun xs=>dSeq b>>=fun ys=>R.guard (D.noLs xs=true/\D.noLs ys=true) (.ok (zipD xs ys))
noncomputable def z6h:Nat->List D->List D
 | _,[]=>[]
 | k,x::xs=>.tup [.int k,x]::z6h (k+1) xs
noncomputable def y4w(ga:G->R D):G->R (List D):=fun Γ=>ga Γ>>=fun a=>match a with
 | .lst xs=>R.guard (D.noLs xs=true) (.ok (z6h 0 xs))
 | _=>.no
noncomputable def x1q(ga:G->R D):G->R Bool:=fun Γ=>ga Γ>>=fun d=>match d with
 | .lst ds=>.ok (!ds.isEmpty)
 | _=>.no
noncomputable def y6n(ds:List D):R D:=match ds with
 | [.tup xs]=>(match ints? xs with | some ns=>.ok (.bl (ns.any (fun n=>n != 0))) | none=>.no)
 | _=>.no
theorem y1i(ns:List Int):y6n [.tup (ns.map D.int)] = .ok (.bl (ns.any (fun n=>n != 0))):=by simp only[y6n,ints?_map]
noncomputable def frzAt(i:Nat)(Γ:G):G:=match Γ[i]? with
 | some (.own ds)=>Γ.set i (.ro (.lst ds))
 | _=>Γ
noncomputable def gFrz(i:Nat)(g:G->R Fl):G->R Fl:=fun Γ=>g (frzAt i Γ)
noncomputable def y1f(φ:List D->R D)(gs:G->R (List D)):G->R D:=fun Γ=>gs Γ>>=fun ds=>match φ ds with | .ok d=>.ok d | _=>.no
noncomputable def y6m(ds:List D):R D:=match ds with
 | [.tup ys]=>(match ints? ys with | some ns=>.ok (.int ns.sum) | none=>.no)
 | _=>.no
theorem x2a(ns:List Int):y6m [.tup (ns.map D.int)] = .ok (.int ns.sum):=by simp only[y6m,ints?_map]
end L3
namespace L3
section
variable {Γ Γ':G}{i:Nat}{g gk:G->R D}{gs:G->R (List D)}{gc:G->R Bool}{t u e gb:G->R Fl}{r:R Fl}{d k:D}{ds:List D}{c:Er}
theorem z8i(h:t Γ = .ok (.nx Γ'))(h2:u Γ'=r):gSt t u Γ=r:=by unfold gSt;rw[h];exact h2
theorem y9i(h:t Γ = .ok (.rt d)):gSt t u Γ = .ok (.rt d):=by unfold gSt;rw[h];rfl
theorem w0a(h:t Γ = .ok (.ex c Γ')):gSt t u Γ = .ok (.ex c Γ'):=by unfold gSt;rw[h];rfl
theorem y1r(h:g Γ = .ok d):gSet i g Γ = .ok (.nx (Γ.set i (.ro d))):=by unfold gSet;rw[h];rfl
theorem x8l(h:gs Γ = .ok ds):z2s i gs Γ = .ok (.nx (Γ.set i (.own ds))):=by unfold z2s;rw[h];rfl
theorem x3w(ho:Γ[i]? = some (.own ds))(h:g Γ = .ok d)(hl:ds.length<=100000):gApp i g Γ = .ok (.nx (Γ.set i (.own (ds++[d])))):=by
 unfold gApp;rw[ho];simp only[h,z3e,z1m hl]
theorem x8n{j:Int}{n:Nat}(ho:Γ[i]? = some (.own ds))(h:g Γ = .ok d)(hk:gk Γ = .ok (.int j))(hn:ixN ds.length j=some n):gPut i gk g Γ = .ok (.nx (Γ.set i (.own (ds.set n d)))):=by
 unfold gPut;rw[ho];simp only[h,hk,z3e,hn]
theorem z9v(hc:gc Γ = .ok true)(h:t Γ=r):gIfS gc t u Γ=r:=by unfold gIfS;rw[hc];exact h
theorem x8o(hc:gc Γ = .ok false)(h:u Γ=r):gIfS gc t u Γ=r:=by unfold gIfS;rw[hc];exact h
theorem z8y(hc:gc Γ = .ok false):gIfS gc t z2r Γ = .ok (.nx Γ):=x8o hc rfl
theorem x1h(hi:gs Γ = .ok ds)(h:z3k gb i ds Γ=r):gFor i gs gb Γ=r:=by unfold gFor;rw[hi];exact h
theorem z2y(h:g Γ = .ok d):gRet g Γ = .ok (.rt d):=by unfold gRet;rw[h];rfl
theorem x4w(h:gs Γ = .ok ds):z8z gs Γ = .ok (.rtF ds):=by unfold z8z;rw[h];rfl
theorem x8m(h:Γ[i]? = some (.own ds)):z8f i Γ = .ok (.rtF ds):=by unfold z8f;rw[h]
theorem z1o(hg:g Γ = .ok d)(h:u (Γ.set i (.ro d))=r):gSt (gSet i g) u Γ=r:=z8i (y1r hg) h
theorem z3l(hg:gs Γ = .ok ds)(h:u (Γ.set i (.own ds))=r):gSt (z2s i gs) u Γ=r:=z8i (x8l hg) h
theorem z5n(hc:gc Γ = .ok false)(h:u Γ=r):gSt (gIfS gc t z2r) u Γ=r:=z8i (z8y hc) h
theorem x9b(hc:gc Γ = .ok true)(ht:t Γ = .ok (.nx Γ'))(h:u Γ'=r):gSt (gIfS gc t e) u Γ=r:=z8i (z9v hc ht) h
theorem y7w(hi:gs Γ = .ok ds)(hf:z3k gb i ds Γ = .ok (.nx Γ'))(h:u Γ'=r):gSt (gFor i gs gb) u Γ=r:=z8i (x1h hi hf) h
theorem z1p{p n:Nat}(hl:ds.length=p)(h:t (ini n ds) = .ok (.rt d)):fnC p n t ds = .ok d:=by rw[z1g hl,h];rfl
theorem x8w{p n:Nat}(hl:ds.length=p)(h:t (ini n ds) = .ok (.ex c Γ)):fnC p n t ds = .er c:=by rw[z1g hl,h];rfl
theorem y7q{p n:Nat}{es:List D}(hl:ds.length=p)(h:t (ini n ds) = .ok (.rtF es)):fnF p n t ds = .ok es:=by rw[y4y hl,h];rfl
noncomputable def Ends(r:R Fl)(I:G->Prop):Prop:=∃Γ',(r = .ok (.nx Γ')∨r = .ok (.ct Γ'))/\I Γ'
theorem Ends.nx{I:G->Prop}{r:R Fl}(h:r = .ok (.nx Γ))(hI:I Γ):Ends r I:=⟨Γ,.inl h,hI⟩
theorem forK(I:G->Prop)(h0:I Γ)(hq:∀d∈ds,∀Γ,I Γ->Ends (gb (Γ.set i (.ro d))) I):∃Γ',z3k gb i ds Γ = .ok (.nx Γ')/\I Γ':=y8x I h0 hq
theorem x7c(I:G->Prop)(hi:gs Γ = .ok ds)(h0:I Γ)(hq:∀d∈ds,∀Γ,I Γ->Ends (gb (Γ.set i (.ro d))) I)(h:∀Γ',I Γ'->u Γ'=r):gSt (gFor i gs gb) u Γ=r:=by
 obtain⟨Γ',e,h'⟩:=forK I h0 hq
 exact y7w hi e (h Γ' h')
theorem y1l(I:Nat->G->Prop)(hi:gs Γ = .ok ds)(h0:I 0 Γ)(hq:∀(j:Nat) (d:D) (Γ:G),ds[j]? = some d->I j Γ->Ends (gb (Γ.set i (.ro d))) (I (j+1)))(h:∀Γ',I ds.length Γ'->u Γ'=r):gSt (gFor i gs gb) u Γ=r:=by
 obtain⟨Γ',e,h'⟩:=z7m I ds 0 Γ h0 fun j d Γ hd hI=>by rw[Nat.zero_add] at hI ⊢;exact hq j d Γ hd hI
 rw[Nat.zero_add] at h'
 exact y7w hi e (h Γ' h')
end
noncomputable def sumN(f:Nat->Int):Nat->Int
 | 0=>0
 | n+1=>sumN f n+f n
theorem y9v(f:Nat->Int):sumN f 0=0:=rfl
theorem z1e(f:Nat->Int)(n:Nat):sumN f (n+1)=sumN f n+f n:=rfl
theorem z0l{f g:Nat->Int}:∀{n:Nat},(∀i,i<n->f i=g i)->sumN f n=sumN g n
 | 0,_=>rfl
 | n+1,h=>by rw[z1e,z1e,z0l fun i hi=>h i (by lia),h n (by lia)]
theorem z4x(f g:Nat->Int):∀n:Nat,sumN (fun i=>f i+g i) n=sumN f n+sumN g n
 | 0=>rfl
 | n+1=>by rw[z1e,z1e,z1e,z4x f g n];lia
theorem z3n(c:Int)(f:Nat->Int):∀n:Nat,sumN (fun i=>c*f i) n=c*sumN f n
 | 0=>by simp[sumN]
 | n+1=>by rw[z1e,z1e,z3n c f n,Int.mul_add]
theorem y9w(c:Int)(f:Nat->Int)(n:Nat):sumN (fun i=>f i*c) n=sumN f n*c:=by
 rw[z0l (g:=fun i=>c*f i) fun i _=>Int.mul_comm _ _,z3n,Int.mul_comm]
theorem z4i:∀n:Nat,sumN (fun _=>0) n=0
 | 0=>rfl
 | n+1=>by rw[z1e,z4i n];rfl
theorem y4a(f:Nat->Nat->Int)(m:Nat):∀n:Nat,sumN (fun i=>sumN (fun j=>f i j) m) n=sumN (fun j=>sumN (fun i=>f i j) n) m
 | 0=>by simp only[y9v,z4i]
 | n+1=>by
   rw[z1e,y4a f m n,<-z4x]
   rfl
theorem z2l{f:Nat->Int}{k:Nat}:∀{n:Nat},k<n->(∀i,i<n->i≠k->f i=0)->sumN f n=f k
 | 0,h,_=>absurd h (Nat.not_lt_zero _)
 | n+1,h,q=>by
   rw[z1e]
   by_cases e:k=n
   ·subst e
    rw[z0l (g:=fun _=>0) fun i hi=>q i (by lia) (by lia),z4i];lia
   ·rw[z2l (by lia) fun i hi hk=>q i (by lia) hk,q n (by lia) (Ne.symm e)];lia
theorem z4o{f:Nat->Int}{n:Nat}(q:∀i,i<n->f i=0):sumN f n=0:=by
 rw[z0l (g:=fun _=>0) q,z4i]
theorem z8k(f:Nat->Int):∀n:Nat,((List.range n).map f).sum=sumN f n
 | 0=>rfl
 | n+1=>by rw[List.range_succ,List.map_append,List.sum_append,z8k f n,z1e];simp
noncomputable def cg(P a b:Int):Prop:=a%P=b%P
theorem cg.refl{P a:Int}:cg P a a:=rfl
theorem cg.symm{P a b:Int}(h:cg P a b):cg P b a:=Eq.symm h
theorem cg.trans{P a b c:Int}(h:cg P a b)(g:cg P b c):cg P a c:=Eq.trans h g
theorem cg.of_eq{P a b:Int}(h:a=b):cg P a b:=by rw[h];exact cg.refl
theorem z5m{P a:Int}:cg P (a%P) a:=by unfold cg;exact Int.emod_emod_of_dvd a (Int.dvd_refl P)
theorem cg.add{P a b c d:Int}(h:cg P a b)(g:cg P c d):cg P (a+c) (b+d):=by unfold cg at *;rw[Int.add_emod,h,g,<-Int.add_emod]
theorem cg.sub{P a b c d:Int}(h:cg P a b)(g:cg P c d):cg P (a-c) (b-d):=by unfold cg at *;rw[Int.sub_emod,h,g,<-Int.sub_emod]
theorem cg.mul{P a b c d:Int}(h:cg P a b)(g:cg P c d):cg P (a*c) (b*d):=by unfold cg at *;rw[Int.mul_emod,h,g,<-Int.mul_emod]
theorem cg.neg{P a b:Int}(h:cg P a b):cg P (-a) (-b):=by
 have:=(cg.refl (P:=P) (a:=0)).sub h
 simpa using this
theorem cg.sumN{P:Int}{f g:Nat->Int}:∀{n:Nat},(∀i,i<n->cg P (f i) (g i))->cg P (L3.sumN f n) (L3.sumN g n)
 | 0,_=>cg.refl
 | n+1,h=>(cg.sumN fun i hi=>h i (by lia)).add (h n (by lia))
theorem cg.eq_of{P a b:Int}(h:cg P a b)(ha:0<=a)(ha':a<P)(hb:0<=b)(hb':b<P):a=b:=by
 unfold cg at h;rw[Int.emod_eq_of_lt ha ha',Int.emod_eq_of_lt hb hb'] at h;exact h
theorem x8z{P a b:Int}:cg P a b↔(a-b)%P=0:=by
 unfold cg
 constructor
 ·intro h;rw[Int.sub_emod,h,Int.sub_self,Int.zero_emod]
 ·intro h
  have:cg P (a-b+b) (0+b):=cg.add (by unfold cg;rw[h,Int.zero_emod]) cg.refl
  unfold cg at this
  rw[show a-b+b=a by lia,Int.zero_add] at this
  exact this
theorem z4c{w P:Int}(h:0<P):0<=w%P:=Int.emod_nonneg _ (by lia)
theorem z4d{w P:Int}(h:0<P):w%P<P:=Int.emod_lt_of_pos _ h
end L3
namespace L3
open PySem
noncomputable section
noncomputable def g_p:G->R Fl :=
 (gSt (gIfS (gT (gBin dLt (gV 1) (z0h dLen (gCons (gV 0) gNil)))) (gRet (gBin dIx (gV 0) (gV 1))) z2r)
 (gRet (gC (.int 0))))
noncomputable def c_p:List D->R D:=fnC 2 2 g_p
noncomputable def g_d:G->R Fl :=
 (gSt (z2s 3 (gLst gNil))
 (gSt (gFor 4 (z5q (gV 2))
 (gSt (gApp 3 (gNL (gBin dMod (gV 0) (gV 1))))
 (gSet 0 (gNL (gBin dDiv (gV 0) (gV 1))))))
 (gRet (z0h z2h (gCons (gV 3) gNil)))))
noncomputable def c_d:List D->R D:=fnC 3 5 g_d
noncomputable def g_h:G->R Fl :=
 (gSt (gIfS (gT (gBin dEq (gBin dMod (gV 0) (gC (.int 2))) (gC (.int 0)))) (gRet (gBin dIx (gTup (y1s [3,5,7,11,13,17,19,23])) (gBin dMod (gBin dDiv (gV 0) (gC (.int 2))) (gC (.int 8))))) z2r)
 (gSt (gSet 1 (gNL (gBin dAdd (gC (.int 3)) (gBin dMod (gBin dDiv (gV 0) (gC (.int 2))) (gC (.int 9971))))))
 (gSt (whGo (gT (z0h dAny (gCons (gL (z2t (z9j (gC (.int 2)) (gC (.int 100))) (z7o (gT (gBin dLt (gV 0) (gV 2))) (gNL (gBin dEq (gBin dMod (gV 2) (gV 0)) (gC (.int 0))))))) gNil))) (gSet 1 (gNL (gBin dAdd (gV 1) (gC (.int 1))))) 10000)
 (gRet (gV 1)))))
noncomputable def c_h:List D->R D:=fnC 1 2 g_h
noncomputable def g_on:G->R Fl :=
 (gRet (gBin dMod (gV 1) (gV 0)))
noncomputable def c_on:List D->R D:=fnC 2 2 g_on
noncomputable def g_G:G->R Fl :=
 (gSt (gSet 3 (gNL (z0h dLen (gCons (gV 2) gNil))))
 (gRet (z0h c_on (gCons (gV 0) (gCons (gBin dAdd (z0h dSum (gCons (gL (z2t (z5q (gV 3)) (fElt (gNL (gBin dMul (gBin dIx (gV 2) (gV 0)) (gBin dIx (gV 3) (gV 0))))))) gNil)) (gBin dIx (gV 1) (gV 3))) gNil)))))
noncomputable def c_G:List D->R D:=fnC 3 4 g_G
noncomputable def g_z:G->R Fl :=
 (gRet (z0h z2h (gCons (gL (z2t (z5z (gV 1)) (fElt (gNL (z0h (noEr c_G) (gCons (gV 1) (gCons (gV 0) (gCons (gV 3) gNil)))))))) gNil)))
noncomputable def c_z:List D->R D:=fnC 3 3 g_z
noncomputable def g_j:G->R Fl :=
 (gRet (gBin dMod (gBin dAdd (gBin dIx (gV 1) (gNeg (gC (.int 1)))) (z0h dSum (gCons (gL (z2t (z5q (z0h dLen (gCons (gV 2) gNil))) (fElt (gNL (gBin dMul (gBin dIx (gV 2) (gV 0)) (gBin dIx (gV 3) (gV 0))))))) gNil))) (gV 0)))
noncomputable def c_j:List D->R D:=fnC 3 3 g_j
noncomputable def g_e:G->R Fl :=
 (gRet (z0h z2h (gCons (gL (z2t (z5z (gV 1)) (fElt (gNL (z0h (noEr c_j) (gCons (gV 1) (gCons (gV 0) (gCons (gV 3) gNil)))))))) gNil)))
noncomputable def c_e:List D->R D:=fnC 3 3 g_e
noncomputable def g_i:G->R Fl :=
 (gRet (z0h dSum (gCons (gL (z2t (z5q (z0h dLen (gCons (gV 1) gNil))) (fElt (gNL (gBin dMul (gBin dIx (gV 1) (gV 0)) (gBin dIx (gBin dIx (gV 2) (gV 0)) (gV 3))))))) gNil)))
noncomputable def c_i:List D->R D:=fnC 3 3 g_i
noncomputable def g_n:G->R Fl :=
 (gSt (gSet 3 (gNL (z0h dLen (gCons (gV 1) gNil))))
 (gSt (z2s 4 (z2t (z5q (gBin dAdd (gV 3) (gC (.int 1)))) (fElt (gNL (z0h (noEr c_i) (gCons (gV 3) (gCons (gV 2) (gCons (gV 0) gNil))))))))
 (gSt (gPut 4 (gV 3) (gNL (gBin dAdd (gBin dIx (gV 4) (gV 3)) (gBin dIx (gV 2) (gV 3)))))
 (gRet (z0h z2h (gCons (gL (z2t (z5z (gV 4)) (fElt (gNL (z0h (noEr c_on) (gCons (gV 1) (gCons (gV 0) gNil))))))) gNil))))))
noncomputable def c_n:List D->R D:=fnC 3 5 g_n
noncomputable def g_J:G->R Fl :=
 (gRet (z0h z2h (gCons (gL (z2t (z5z (gV 2)) (fElt (gNL (z0h (noEr c_n) (gCons (gV 1) (gCons (gV 2) (gCons (gV 0) gNil)))))))) gNil)))
noncomputable def c_J:List D->R D:=fnC 3 3 g_J
noncomputable def g_B:G->R Fl :=
 (gRet (z0h z2h (gCons (gL (z2t (z5q (gV 0)) (fElt (gNL (gIf (gT (gBin dEq (gV 0) (gV 2))) (gC (.int 1)) (gC (.int 0))))))) gNil)))
noncomputable def c_B:List D->R D:=fnC 2 2 g_B
noncomputable def g_I:G->R Fl :=
 (gRet (z0h z2h (gCons (gL (z2t (z5q (gV 0)) (fElt (gNL (z0h (noEr c_B) (gCons (gBin dAdd (gV 1) (gC (.int 1))) (gCons (gV 0) gNil))))))) gNil)))
noncomputable def c_I:List D->R D:=fnC 1 1 g_I
noncomputable def g_x:G->R Fl :=
 (gSt (z2s 3 (z6w (z0h c_I (gCons (gV 0) gNil))))
 (gSt (gPut 3 (gV 1) (gNL (z0h z2h (gCons (gV 2) gNil))))
 (gRet (z0h z2h (gCons (gV 3) gNil)))))
noncomputable def c_x:List D->R D:=fnC 3 4 g_x
noncomputable def g_K:G->R Fl :=
 (gSt (gSet 2 (gNL (z0h c_on (gCons (gV 0) (gCons (gV 1) gNil)))))
 (gSt (gIfS (gT (gBin dEq (gV 2) (gC (.int 0)))) (z7l .noNumber) z2r)
 (gSt (gSet 3 (gNL (gC (.int 1))))
 (gSt (whGo (gT (gBin dNe (gV 2) (gC (.int 1)))) (gSt (gSet 3 (gNL (z0h c_on (gCons (gV 0) (gCons (gBin dMul (gNeg (gV 3)) (gBin dDiv (gV 0) (gV 2))) gNil)))))
 (gSet 2 (gNL (gBin dMod (gV 0) (gV 2))))) 100000)
 (gRet (gV 3))))))
noncomputable def c_K:List D->R D:=fnC 2 4 g_K
end
def wkL (e : String) : Lean.MacroM (Lean.TSyntax `tactic) := do let l <- (("L3.fin L3.finF L3.fnC L3.fnF L3.gV L3.gVr L3.gC L3.gNil L3.y1s L3.z2r L3.gSt L3.gSet L3.z2s L3.gNL L3.z0h L3.z4v L3.gCons L3.gRet L3.z8z L3.z8f L3.gBin L3.gL L3.z2t L3.z5q L3.z9j L3.y1e L3.fElt L3.z7o L3.gT L3.gAnd L3.gOr L3.gNot L3.gNeg L3.dNeg L3.gIf L3.gIfS L3.z6g L3.gTup L3.gLst L3.gSeq L3.z5z L3.dSeq L3.gFor L3.gApp L3.gPut L3.gIsi L3.dIsi L3.z7l L3.gSl L3.gON L3.gOS L3.dOS L3.dCut L3.gCat L3.z9k L3.y1u L3.z6w L3.y1t L3.D.ty L3.z7e L3.z4t L3.z2w L3.z3e L3.z5b L3.y3g L3.z8v L3.z6t L3.z8u L3.z5a L3.ini L3.dLen L3.z2h L3.dAdd L3.dSub L3.dMul L3.dDiv L3.dMod L3.dPow L3.dLt L3.dLe L3.dGt L3.dEq L3.dNe L3.dIx L3.dMin L3.noEr L3.z9c R.bind_ok R.bind_er R.bind_no L3.z1m L3.z3f L3.z4b Bool.not_true Bool.not_false if_true if_false Bool.false_eq_true beq_self_eq_true ite_true ite_false Int.reduceToNat L3.z0r L3.y3f L3.y3e L3.y3d L3.y3c L3.y3b L3.z2f L3.z4h L3.z6r L3.z6s L3.z4z L3.z5x L3.z8x and_true true_and and_self List.map_cons List.map_nil List.length_cons List.length_nil List.length_map List.length_range List.length_set List.length_append List.length_replicate List.cons_append List.nil_append List.append_assoc List.replicate List.set_cons_zero List.set_cons_succ List.getElem?_cons_zero List.getElem?_cons_succ L3.ints?_map L3.bools?_map L3.z4l L3.z5c L3.z6z L3.z9a Nat.reduceAdd Nat.reduceSub Nat.reduceMul Int.reduceAdd Int.reduceSub Int.reduceMul Int.reduceNeg Int.toNat_natCast L3.z2m L3.z3g L3.z4f L3.z5f L3.z5e L3.z3i Option.map_some Int.add_zero Nat.reduceEqDiff Nat.reduceLeDiff Nat.zero_add Nat.add_zero Nat.sub_zero Nat.sub_self" ++ e).splitOn " ").toArray.mapM fun n => `(Lean.Parser.Tactic.simpLemma| $(Lean.mkIdent n.toName):term); `(tactic| try simp (disch := first | decide | omega | exact z2f _ | exact z4h _ | exact z3q _ | exact z1b _ | exact z3z _ _ | exact z0x (by omega) | exact ⟨z0x (by omega), z0x (by omega)⟩ | exact z3o (by first | assumption | exact z1h (by omega)) | exact z3y (by first | assumption | exact z1h (by omega)) | assumption) only [$l,*])
local macro_rules | `(tactic| walk_at "ev") => wkL ""
noncomputable def z3p(ns:List Int)(k:Int):Int:=(ns[k.toNat]?).getD 0
theorem y6s{ns:List Int}{k:Int}(h0:0<=k)(h:k<(ns.length:Int)):atI (ns.map D.int) k=some (.int (z3p ns k)):=by
 rw[x5h h0,List.getElem?_map]
 unfold z3p
 rw[List.getElem?_eq_getElem (by lia)];rfl
theorem x4k{ns:List Int}{k:Int}(h0:0<=k)(h:¬k<(ns.length:Int)):z3p ns k=0:=by
 unfold z3p
 rw[List.getElem?_eq_none (by lia)];rfl
theorem z9p{ns:List Int}{k:Int}(h0:0<=k):c_p [.lst (ns.map D.int),.int k] = .ok (.int (z3p ns k)):=by
 unfold c_p g_p
 by_cases h:k<(ns.length:Int)
 ·have e1:=y6s h0 h
  have e2:decide (k<(ns.length:Int))=true:=decide_eq_true h
  walk_at "ev"
  simp only[e1,e2]
  walk_at "ev"
 ·have e2:decide (k<(ns.length:Int))=false:=decide_eq_false h
  have e3:=x4k h0 h
  walk_at "ev"
  simp only[e2,e3]
  walk_at "ev"
noncomputable def z4e(P:Int):Nat->Int->List Int
 | 0,_=>[]
 | n+1,c=>c%P::z4e P n (c/P)
theorem z4k(P:Int):∀(n:Nat) (c:Int),(z4e P n c).length=n
 | 0,_=>rfl
 | n+1,c=>by rw[z4e,List.length_cons,z4k P n]
noncomputable def onW(P:Int)(ns:List Int):Prop:=∀n∈ns,0<=n/\n<P
theorem z7x{P:Int}(hp:0<P):∀(n:Nat) (c:Int),onW P (z4e P n c)
 | 0,_=>fun x hx=>by simp[z4e] at hx
 | n+1,c=>fun x hx=>by
   rw[z4e] at hx
   rcases List.mem_cons.mp hx with e | e
   ·subst e;exact⟨z4c hp,z4d hp⟩
   ·exact z7x hp n _ x e
noncomputable def divs(P:Int):Nat->Int->Int
 | 0,c=>c
 | n+1,c=>divs P n c/P
noncomputable def digs(P:Int)(n:Nat)(c:Int):List Int:=(List.range n).map fun i=>divs P i c%P
theorem x1y(P:Int)(n:Nat)(c:Int):digs P (n+1) c=digs P n c++[divs P n c%P]:=by
 unfold digs;rw[List.range_succ,List.map_append];rfl
theorem x1x(P:Int):∀(n:Nat) (c:Int),divs P (n+1) c=divs P n (c/P)
 | 0,c=>rfl
 | n+1,c=>by rw[divs,x1x P n c];rfl
theorem x1z(P:Int):∀(n:Nat) (c:Int),digs P n c=z4e P n c
 | 0,c=>rfl
 | n+1,c=>by
   rw[z4e,<-x1z P n (c/P)]
   unfold digs
   rw[List.range_succ_eq_map,List.map_cons,List.map_map]
   congr 1
   apply List.map_congr_left
   intro i _
   show divs P (i+1) c%P=_
   rw[x1x]
theorem z5t{c P n:Int}(h1:0<P)(h2:P<1000000)(h3:0<=n)(h4:n<=20):c_d [.int c,.int P,.int n] = .ok (.tup ((z4e P n.toNat c).map D.int)):=by
 unfold c_d g_d
 walk_at "ev"
 rw[y6l (fun j=>[.ro (.int (divs P j c)),.ro (.int P),.ro (.int n),.own ((digs P j c).map D.int),(match j with | 0=>.no | k+1=>.ro (.int (0+(k:Int))))])]
 ·walk_at "ev"
  rw[x1z]
 ·rfl
 ·intro j hj
  have hl:(digs P j c).length<=100000:=by unfold digs;simp;lia
  walk_at "ev"
  rw[x1y]
  simp[divs]
noncomputable def z2k(n:Int):Bool:=((List.range 98).filterMap fun(i:Nat)=>if 2+(i:Int)<n then some (n%(2+(i:Int))==0) else none).any fun b=>b
theorem y8u(n:Int):z2k n=true↔∃b:Int,2<=b/\b<100/\b<n/\n%b=0:=by
 unfold z2k
 simp only[List.any_eq_true,List.mem_filterMap,List.mem_range]
 constructor
 ·rintro⟨x,⟨i,hi,e⟩,hx⟩
  by_cases q:2+(i:Int)<n
  ·rw[if_pos q] at e;cases e
   exact⟨2+i,by lia,by lia,q,by simpa using hx⟩
  ·rw[if_neg q] at e;cases e
 ·rintro⟨b,h1,h2,h3,h4⟩
  refine⟨true,⟨(b-2).toNat,by lia,?_⟩,rfl⟩
  have e:(2+(((b-2).toNat:Nat):Int))=b:=by lia
  rw[e,if_pos h3,h4];rfl
theorem y5d{f:D->R (Option D)}{lo:Int}{n:Nat}{h:Nat->Option Bool}(q:∀i,i<n->f (.int (lo+(i:Int))) = .ok ((h i).map D.bl)):z0w f (z3w lo n) [] = .ok (((List.range n).filterMap h).map D.bl):=by
 unfold z3w
 rw[y1v (h:=fun i=>(h i).map D.bl) fun i hi=>q i (List.mem_range.mp hi),List.map_filterMap]
theorem x4f{n c:Int}(Γ:G):gT (z0h dAny (gCons (gL (z2t (z9j (gC (.int 2)) (gC (.int 100))) (z7o (gT (gBin dLt (gV 0) (gV 2))) (gNL (gBin dEq (gBin dMod (gV 2) (gV 0)) (gC (.int 0))))))) gNil)) (.ro (.int c) :: .ro (.int n)::Γ) = .ok (z2k n):=by
 walk_at "ev"
 rw[y5d (h:=fun(i:Nat)=>if 2+(i:Int)<n then some (n%(2+(i:Int))==0) else none)]
 ·walk_at "ev";rfl
 ·intro i hi
  walk_at "ev"
  by_cases q:2+(i:Int)<n
  ·simp only[decide_eq_true q,if_pos q]
   walk_at "ev"
  ·simp only[decide_eq_false q,if_neg q]
   rfl
theorem y4h{k:Int}(h0:0<=k)(h1:k<8):∃p:Int,atI (([3,5,7,11,13,17,19,23]:List Int).map D.int) k=some (.int p)/\3<=p/\p<=23/\z2k p=false:=by
 have:k=0∨k=1∨k=2∨k=3∨k=4∨k=5∨k=6∨k=7:=by lia
 rcases this with rfl | rfl | rfl | rfl | rfl | rfl | rfl | rfl
 ·exact⟨3,rfl,by decide,by decide,by decide +kernel⟩
 ·exact⟨5,rfl,by decide,by decide,by decide +kernel⟩
 ·exact⟨7,rfl,by decide,by decide,by decide +kernel⟩
 ·exact⟨11,rfl,by decide,by decide,by decide +kernel⟩
 ·exact⟨13,rfl,by decide,by decide,by decide +kernel⟩
 ·exact⟨17,rfl,by decide,by decide,by decide +kernel⟩
 ·exact⟨19,rfl,by decide,by decide,by decide +kernel⟩
 ·exact⟨23,rfl,by decide,by decide,by decide +kernel⟩
theorem x5s(c:Int):∃p:Int,c_h [.int c] = .ok (.int p)/\3<=p/\p<=9973/\z2k p=false:=by
 unfold c_h g_h
 by_cases h:c%2=0
 ·have h0:0<=c/2%8:=by lia
  obtain⟨p,e,h1,h2,h3⟩:=y4h (k:=c/2%8) (by lia) (by lia)
  refine⟨p,?_,h1,by lia,h3⟩
  have hb:(c%2==0)=true:=by simpa using h
  have hm:0<=c/2%8/\c/2%8<8:=by lia
  walk_at "ev"
  simp only[hb]
  simp only[List.map_cons,List.map_nil] at e
  walk_at "ev"
  simp only[e]
  rfl
 ·have hb:(c%2==0)=false:=by simpa using h
  have key:∀(n m:Nat) (Γ:G),m<n->(∃z:Int,Γ=[.ro (.int c),.ro (.int z)]/\3<=z/\z<=9973/\(9973-z).toNat=m) ->
   ∃z:Int,whGo (gT (z0h dAny (gCons (gL (z2t (z9j (gC (.int 2)) (gC (.int 100))) (z7o (gT (gBin dLt (gV 0) (gV 2))) (gNL (gBin dEq (gBin dMod (gV 2) (gV 0)) (gC (.int 0))))))) gNil))) (gSet 1 (gNL (gBin dAdd (gV 1) (gC (.int 1))))) n Γ = .ok (.nx [.ro (.int c),.ro (.int z)])/\3<=z/\z<=9973/\z2k z=false:=by
   refine z9y _ (fun r=>∃z:Int,r = .ok (.nx [.ro (.int c),.ro (.int z)])/\3<=z/\z<=9973/\z2k z=false) ?_
   rintro m Γ ⟨z,rfl,h1,h2,h3⟩
   rw[x4f]
   cases q:z2k z with
   | false=>exact .inl ⟨rfl,z,rfl,h1,h2,q⟩
   | true =>
     have hz:z≠9973:=fun e=>by rw[e] at q;exact absurd q (by decide +kernel)
     refine .inr ⟨rfl,.inl ⟨[.ro (.int c),.ro (.int (z+1))],(9973-(z+1)).toNat,by lia,.inl ?_,z+1,rfl,by lia,by lia,rfl⟩⟩
     walk_at "ev"
  have hz:3<=3+c/2%9971/\3+c/2%9971<=9973:=by lia
  obtain⟨z,e,h1,h2,h3⟩:=key 10000 (9973-(3+c/2%9971)).toNat [.ro (.int c),.ro (.int (3+c/2%9971))] (by lia) ⟨_,rfl,hz.1,hz.2,rfl⟩
  refine⟨z,?_,h1,h2,h3⟩
  walk_at "ev"
  simp only[hb]
  walk_at "ev"
  rw[e]
  walk_at "ev"
noncomputable def z1i(f s:List Int):Int:=sumN (fun i=>(f[i]?).getD 0*(s[i]?).getD 0) s.length+(f[s.length]?).getD 0
theorem s_on{P n:Int}(h:0<P):c_on [.int P,.int n] = .ok (.int (n%P)):=by
 unfold c_on g_on
 walk_at "ev"
theorem atD{l:List Int}{i:Nat}(h:i<l.length):atI (l.map D.int) (i:Int)=some (.int ((l[i]?).getD 0)):=by
 rw[z3c,List.getElem?_map,List.getElem?_eq_getElem h];rfl
noncomputable def fits(l:List Int):Prop:=∀n∈l,z9l n
theorem y3o{l:List Int}(h:fits l)(i:Nat):z9l ((l[i]?).getD 0):=by
 by_cases q:i<l.length
 ·rw[List.getElem?_eq_getElem q];exact h _ (List.getElem_mem q)
 ·rw[List.getElem?_eq_none (by lia)];exact⟨by decide,by decide⟩
theorem onW.fits{P:Int}{l:List Int}(h:onW P l)(hp:P<18446744073709551616):fits l:=fun n hn=>by
 have:=h n hn
 exact⟨by lia,by lia⟩
theorem s_G{P:Int}{fs ss:List Int}(hp:0<P)(hf:fits fs)(hl:fs.length=ss.length+1)(hn:ss.length<=1000):c_G [.int P,.tup (fs.map D.int),.tup (ss.map D.int)] = .ok (.int (z1i fs ss%P)):=by
 unfold c_G g_G
 walk_at "ev"
 rw[z3b (h:=fun i=>D.int ((fs[i]?).getD 0*(ss[i]?).getD 0))]
 ·have e1:((List.range ss.length).map fun i=>D.int ((fs[i]?).getD 0*(ss[i]?).getD 0))=((List.range ss.length).map fun i=>(fs[i]?).getD 0*(ss[i]?).getD 0).map D.int:=by rw[List.map_map];rfl
  rw[e1]
  have e2:=atD (l:=fs) (i:=ss.length) (by lia)
  walk_at "ev"
  simp only[e2]
  walk_at "ev"
  rw[s_on hp,z8k]
  rfl
 ·intro i hi
  have e1:=atD (l:=fs) (i:=i) (by lia)
  have e2:=atD (l:=ss) (i:=i) (by lia)
  have e3:=y3o hf i
  walk_at "ev"
  simp only[Int.zero_add,e1,e2]
  walk_at "ev"
noncomputable def rowD(r:List Int):D:=.tup (r.map D.int)
theorem z0n(r:List Int):rowD r = .tup (r.map D.int):=rfl
theorem z0z(r:List Int):(rowD r).noL=true:=z3q r
theorem z4y(t:List (List Int)):D.noLs (t.map rowD)=true:=z8t fun r _=>z3q r
theorem z7h(t:List (List Int)):D.noL (.tup (t.map rowD))=true:=by rw[y3a];exact z4y t
theorem z8d(n:Nat)(r:List Int):D.lay (n+1) (rowD r)=true:=z3z n r
theorem x6k(n:Nat)(t:List (List Int)):D.lay (n+2) (.tup (t.map rowD))=true:=by
 rw[x1f,List.all_map,List.all_eq_true];intro x _;exact z3z n x
theorem x4t(r:List Int):D.pl (rowD r)=true:=x0o r
theorem x4s(t:List (List Int)):D.pl (.tup (t.map rowD))=true:=by
 rw[x4r,List.all_map,List.all_eq_true];intro x _;exact x0o x
theorem y0u:∀{a b:List Int},a.map D.int=b.map D.int->a=b
 | [],[],_=>rfl
 | [],_::_,h=>by simp at h
 | _::_,[],h=>by simp at h
 | x::a,y::b,h=>by simp at h;rw[h.1,y0u h.2]
theorem y2u{a b:List Int}(h:rowD a=rowD b):a=b:=y0u (by unfold rowD at h;simpa using h)
theorem y0t:∀{a b:List (List Int)},a.map rowD=b.map rowD->a=b
 | [],[],_=>rfl
 | [],_::_,h=>by simp at h
 | _::_,[],h=>by simp at h
 | x::a,y::b,h=>by simp only[List.map_cons,List.cons.injEq] at h;rw[y2u h.1,y0t h.2]
theorem z7p(a b:List Int):eqD (rowD a) (rowD b)=decide (a=b):=x1w (x4t a) (x4t b) ⟨y2u,fun h=>by rw[h]⟩
theorem z6y(a b:List Int):eqD (.tup (a.map D.int)) (.tup (b.map D.int))=decide (a=b):=z7p a b
theorem x6u(a b:List (List Int)):eqD (.tup (a.map rowD)) (.tup (b.map rowD))=decide (a=b):=x1w (x4s a) (x4s b) ⟨fun h=>y0t (by simpa using h),fun h=>by rw[h]⟩
theorem atT{t:List (List Int)}{i:Nat}(h:i<t.length):atI (t.map rowD) (i:Int)=some (rowD ((t[i]?).getD [])):=by
 rw[z3c,List.getElem?_map,List.getElem?_eq_getElem h];rfl
noncomputable def y8l(P:Int)(n:Nat)(r:List Int):Prop:=onW P r/\r.length=n+1
noncomputable def z3j(P:Int)(n:Nat)(t:List (List Int)):Prop:=t.length=n/\∀r∈t,y8l P n r
noncomputable def z3m(P:Int)(t:List (List Int))(s:List Int):List Int:=t.map fun r=>z1i r s%P
theorem z2x(P:Int)(t:List (List Int))(s:List Int):(z3m P t s).length=t.length:=by unfold z3m;simp
theorem x2x{P:Int}(hp:0<P)(t:List (List Int))(s:List Int):onW P (z3m P t s):=fun n hn=>by
 unfold z3m at hn
 obtain⟨r,_,rfl⟩:=List.mem_map.mp hn
 exact⟨z4c hp,z4d hp⟩
theorem s_z{P:Int}{ts:List (List Int)}{ss:List Int}(hp:0<P)(hp2:P<18446744073709551616)(ht:z3j P ss.length ts)(hn:ss.length<=1000):c_z [.int P,.tup (ts.map rowD),.tup (ss.map D.int)] = .ok (.tup ((z3m P ts ss).map D.int)):=by
 unfold c_z g_z
 have hlt:ts.length<=100000:=by rw[ht.1];lia
 have hnl:=z4y ts
 walk_at "ev"
 rw[z1f (h:=fun r=>D.int (z1i r ss%P))]
 ·walk_at "ev"
  unfold z3m
  rw[List.map_map];rfl
 ·intro r hr
  have q:=ht.2 r hr
  have e1:c_G [D.int P,rowD r,D.tup (ss.map D.int)]=R.ok (D.int (z1i r ss%P)):=s_G hp (q.1.fits hp2) q.2 hn
  rw[e1]
  walk_at "ev"
noncomputable def x9v(c:List D->R D):Prop:=∀ns:List Int,ns.length<=63->c [.lst (ns.map D.int)] = .ok (.bl true)
theorem y1d{α:Type}{l:List α}{i:Nat}{d:α}(h:i<l.length):(l[i]?).getD d=l[i]:=by rw[List.getElem?_eq_getElem h];rfl
noncomputable def z5p(P:Int)(t:List (List Int))(f:List Int):List Int:=(List.range (t.length+1)).map fun place =>
 (sumN (fun x=>(f[x]?).getD 0*(((t[x]?).getD [])[place]?).getD 0) t.length+(if place=t.length then (f[t.length]?).getD 0 else 0))%P
noncomputable def z4n(P:Int)(a b:List (List Int)):List (List Int):=b.map (z5p P a)
theorem y3u(P:Int)(t:List (List Int))(f:List Int):(z5p P t f).length=t.length+1:=by unfold z5p;simp
theorem x2q{P:Int}(hp:0<P)(t:List (List Int))(f:List Int):onW P (z5p P t f):=fun n hn=>by
 unfold z5p at hn
 obtain⟨r,_,rfl⟩:=List.mem_map.mp hn
 exact⟨z4c hp,z4d hp⟩
theorem z5r{P:Int}(hp:0<P){n:Nat}{a b:List (List Int)}(ha:a.length=n)(hb:b.length=n):z3j P n (z4n P a b):=by
 unfold z4n
 refine⟨by rw[List.length_map,hb],fun r hr=>?_⟩
 obtain⟨f,_,rfl⟩:=List.mem_map.mp hr
 exact⟨x2q hp _ _,by rw[y3u,ha]⟩
theorem y5o{P:Int}{t:List (List Int)}{f:List Int}{k:Nat}(h:k<=t.length):((z5p P t f)[k]?).getD 0=(sumN (fun x=>(f[x]?).getD 0*(((t[x]?).getD [])[k]?).getD 0) t.length+(if k=t.length then (f[t.length]?).getD 0 else 0))%P:=by
 unfold z5p
 rw[List.getElem?_map,List.getElem?_range (by lia)];rfl
theorem y5r{P:Int}{t:List (List Int)}{f s:List Int}(hs:s.length=t.length):cg P (z1i (z5p P t f) s) (z1i f (z3m P t s)):=by
 unfold z1i
 rw[z2x,hs]
 have h1:cg P (sumN (fun i=>((z5p P t f)[i]?).getD 0*(s[i]?).getD 0) t.length+((z5p P t f)[t.length]?).getD 0)
  (sumN (fun i=>sumN (fun x=>(f[x]?).getD 0*(((t[x]?).getD [])[i]?).getD 0) t.length*(s[i]?).getD 0) t.length+(sumN (fun x=>(f[x]?).getD 0*(((t[x]?).getD [])[t.length]?).getD 0) t.length+(f[t.length]?).getD 0)):=by
  refine cg.add (cg.sumN fun i hi=>cg.mul ?_ cg.refl) ?_
  ·rw[y5o (by lia),if_neg (by lia),Int.add_zero];exact z5m
  ·rw[y5o (Nat.le_refl _),if_pos rfl];exact z5m
 have h2:cg P (sumN (fun i=>(f[i]?).getD 0*((z3m P t s)[i]?).getD 0) t.length+(f[t.length]?).getD 0)
  (sumN (fun x=>(f[x]?).getD 0*(sumN (fun i=>(((t[x]?).getD [])[i]?).getD 0*(s[i]?).getD 0) t.length+(((t[x]?).getD [])[t.length]?).getD 0)) t.length+(f[t.length]?).getD 0):=by
  refine cg.add (cg.sumN fun x hx=>cg.mul cg.refl ?_) cg.refl
  unfold z3m
  rw[List.getElem?_map,List.getElem?_eq_getElem hx]
  show cg P (z1i t[x] s%P) _
  refine z5m.trans (cg.of_eq ?_)
  unfold z1i
  rw[hs];rfl
 refine h1.trans (cg.trans (cg.of_eq ?_) h2.symm)
 have e1:sumN (fun i=>sumN (fun x=>(f[x]?).getD 0*(((t[x]?).getD [])[i]?).getD 0) t.length*(s[i]?).getD 0) t.length=sumN (fun x=>(f[x]?).getD 0*sumN (fun i=>(((t[x]?).getD [])[i]?).getD 0*(s[i]?).getD 0) t.length) t.length:=by
  rw[z0l (g:=fun i=>sumN (fun x=>(f[x]?).getD 0*((((t[x]?).getD [])[i]?).getD 0*(s[i]?).getD 0)) t.length) fun i _=>by
   rw[<-y9w];exact z0l fun x _=>Int.mul_assoc _ _ _]
  rw[y4a]
  exact z0l fun x _=>z3n _ _ _
 rw[e1,z0l (f:=fun x=>(f[x]?).getD 0*(sumN (fun i=>(((t[x]?).getD [])[i]?).getD 0*(s[i]?).getD 0) t.length+(((t[x]?).getD [])[t.length]?).getD 0)) (g:=fun x=>(f[x]?).getD 0*sumN (fun i=>(((t[x]?).getD [])[i]?).getD 0*(s[i]?).getD 0) t.length+(f[x]?).getD 0*(((t[x]?).getD [])[t.length]?).getD 0) fun x _=>Int.mul_add _ _ _,z4x]
 lia
noncomputable def y5q(n:Nat):List Int:=List.replicate n 0
noncomputable def z4m(n k:Nat):List Int:=(List.range n).map fun i=>if i=k then 1 else 0
theorem z9o(n:Nat):(y5q n).length=n:=by unfold y5q;simp
theorem z3u(n k:Nat):(z4m n k).length=n:=by unfold z4m;simp
theorem x2u(n i:Nat):((y5q n)[i]?).getD 0=0:=by
 unfold y5q
 rw[List.getElem?_replicate];split<;>rfl
theorem z7t{n k i:Nat}(h:i<n):((z4m n k)[i]?).getD 0=if i=k then 1 else 0:=by
 unfold z4m
 rw[List.getElem?_map,List.getElem?_range h];rfl
theorem y1w(f:List Int)(n:Nat):z1i f (y5q n)=(f[n]?).getD 0:=by
 unfold z1i
 rw[z9o,z4o fun i _=>by rw[x2u,Int.mul_zero]];lia
theorem y1x(f:List Int){n k:Nat}(h:k<n):z1i f (z4m n k)=(f[k]?).getD 0+(f[n]?).getD 0:=by
 unfold z1i
 rw[z3u,z2l h fun i hi hk=>by rw[z7t hi,if_neg hk,Int.mul_zero]]
 rw[z7t h,if_pos rfl,Int.mul_one]
theorem z9h{P:Int}{f:List Int}(hp:0<P)(h:onW P f)(k:Nat):0<=(f[k]?).getD 0/\(f[k]?).getD 0<P:=by
 by_cases q:k<f.length
 ·rw[y1d q];exact h _ (List.getElem_mem q)
 ·rw[List.getElem?_eq_none (by lia)];exact⟨by simp,by simpa using hp⟩
theorem y3p{a b:List Int}(hl:a.length=b.length)(h:∀k,k<a.length->(a[k]?).getD 0=(b[k]?).getD 0):a=b:=by
 apply List.ext_getElem hl
 intro k h1 h2
 have:=h k h1
 rw[y1d h1,y1d h2] at this
 exact this
theorem x4c{P:Int}{n:Nat}{f g:List Int}(hp:0<P)(hf:y8l P n f)(hg:y8l P n g)(h0:cg P (z1i f (y5q n)) (z1i g (y5q n)))(h1:∀k,k<n->cg P (z1i f (z4m n k)) (z1i g (z4m n k))):f=g:=by
 have e0:(f[n]?).getD 0=(g[n]?).getD 0:=by
  rw[y1w,y1w] at h0
  exact h0.eq_of (z9h hp hf.1 n).1 (z9h hp hf.1 n).2 (z9h hp hg.1 n).1 (z9h hp hg.1 n).2
 refine y3p (by rw[hf.2,hg.2]) fun k hk=>?_
 rw[hf.2] at hk
 by_cases q:k=n
 ·rw[q];exact e0
 ·have hk':k<n:=by lia
  have h2:=h1 k hk'
  rw[y1x f hk',y1x g hk',e0] at h2
  have h3:=h2.sub (cg.refl (P:=P) (a:=(g[n]?).getD 0))
  rw[show(f[k]?).getD 0+(g[n]?).getD 0-(g[n]?).getD 0=(f[k]?).getD 0 by lia,show(g[k]?).getD 0+(g[n]?).getD 0-(g[n]?).getD 0=(g[k]?).getD 0 by lia] at h3
  exact h3.eq_of (z9h hp hf.1 k).1 (z9h hp hf.1 k).2 (z9h hp hg.1 k).1 (z9h hp hg.1 k).2
theorem turn_J{P:Int}{n:Nat}{a b:List (List Int)}{s:List Int}(ha:a.length=n)(hs:s.length=n):z3m P (z4n P a b) s=z3m P b (z3m P a s):=by
 unfold z4n
 show(b.map (z5p P a)).map (fun r=>z1i r s%P)=b.map fun r=>z1i r (z3m P a s)%P
 rw[List.map_map]
 apply List.map_congr_left
 intro f _
 exact y5r (by rw[hs,ha])
theorem y5s{P:Int}{n:Nat}{a b:List (List Int)}(hp:0<P)(ha:z3j P n a)(hb:z3j P n b)(h:∀s,s.length=n->z3m P a s=z3m P b s):a=b:=by
 apply List.ext_getElem (by rw[ha.1,hb.1])
 intro k h1 h2
 have hw:∀s,s.length=n->cg P (z1i a[k] s) (z1i b[k] s):=fun s hs=>by
  have e:=congrArg (fun l=>(l[k]?).getD 0) (h s hs)
  unfold z3m at e
  simp only[List.getElem?_map,List.getElem?_eq_getElem h1,List.getElem?_eq_getElem h2,Option.map_some,Option.getD_some] at e
  exact e
 exact x4c hp (ha.2 _ (List.getElem_mem h1)) (hb.2 _ (List.getElem_mem h2)) (hw _ (z9o n)) fun j _=>hw _ (z3u n j)
theorem y1y{P:Int}{n:Nat}{a b c:List (List Int)}(hp:0<P)(ha:a.length=n)(hb:b.length=n)(hc:c.length=n):z4n P (z4n P a b) c=z4n P a (z4n P b c):=by
 have h1:=(z5r hp ha hb).1
 have h2:=(z5r hp hb hc).1
 refine y5s hp (z5r hp h1 hc) (z5r hp ha h2) fun s hs=>?_
 rw[turn_J h1 hs,turn_J ha hs,turn_J ha hs,turn_J hb (by rw[z2x,ha])]
noncomputable def z5y(n:Nat):List (List Int):=(List.range n).map fun x=>z4m (n+1) x
theorem z2z(n:Nat):(z5y n).length=n:=by unfold z5y;simp
theorem y3l{P:Int}(hp:1<P)(n:Nat):z3j P n (z5y n):=by
 refine⟨z2z n,fun r hr=>?_⟩
 unfold z5y at hr
 obtain⟨x,_,rfl⟩:=List.mem_map.mp hr
 refine⟨fun z hz=>?_,by rw[z3u]⟩
 unfold z4m at hz
 obtain⟨i,_,rfl⟩:=List.mem_map.mp hz
 split<;>lia
theorem worth_I{n x:Nat}{s:List Int}(h:x<n)(hs:s.length=n):z1i (z4m (n+1) x) s=(s[x]?).getD 0:=by
 unfold z1i
 rw[hs,z2l h fun i hi hk=>by rw[z7t (by lia),if_neg hk,Int.zero_mul],z7t (by lia),if_pos rfl,z7t (by lia),if_neg (by lia)]
 lia
theorem turn_I{P:Int}{n:Nat}{s:List Int}(hs:s.length=n)(ho:onW P s):z3m P (z5y n) s=s:=by
 refine y3p (by rw[z2x,z2z,hs]) fun k hk=>?_
 rw[z2x,z2z] at hk
 have e:((z3m P (z5y n) s)[k]?).getD 0=z1i (z4m (n+1) k) s%P:=by
  unfold z3m z5y
  rw[List.map_map,List.getElem?_map,List.getElem?_range hk];rfl
 rw[e,worth_I hk hs]
 have h2:k<s.length:=by lia
 rw[y1d h2]
 have:=ho _ (List.getElem_mem h2)
 exact Int.emod_eq_of_lt this.1 this.2
theorem y9l{P:Int}{f s:List Int}:cg P (z1i f (s.map (·%P))) (z1i f s):=by
 unfold z1i
 rw[List.length_map]
 refine cg.add (cg.sumN fun i hi=>cg.mul cg.refl ?_) cg.refl
 rw[List.getElem?_map,List.getElem?_eq_getElem hi]
 exact z5m
theorem y6w{P:Int}{t:List (List Int)}{s:List Int}:z3m P t (s.map (·%P))=z3m P t s:=by
 unfold z3m
 exact List.map_congr_left fun r _=>y9l
theorem y8b{P:Int}{n:Nat}{s:List Int}(hp:0<P)(hs:s.length=n):z3m P (z5y n) s=s.map (·%P):=by
 rw[<-y6w,turn_I (by rw[List.length_map,hs])]
 intro z hz
 obtain⟨y,_,rfl⟩:=List.mem_map.mp hz
 exact⟨z4c hp,z4d hp⟩
theorem idle_J{P:Int}{n:Nat}{t:List (List Int)}(hp:1<P)(ht:z3j P n t):z4n P (z5y n) t=t:=by
 refine y5s (by lia) (z5r (by lia) (z2z n) ht.1) ht fun s hs=>?_
 rw[turn_J (z2z n) hs,y8b (by lia) hs,y6w]
theorem then_I{P:Int}{n:Nat}{t:List (List Int)}(hp:1<P)(ht:z3j P n t):z4n P t (z5y n)=t:=by
 refine y5s (by lia) (z5r (by lia) ht.1 (z2z n)) ht fun s hs=>?_
 rw[turn_J ht.1 hs,turn_I (by rw[z2x,ht.1]) (x2x (by lia) _ _)]
local macro_rules | `(tactic| walk_at "evs") => wkL " L3.z9p L3.z5t L3.s_on"
theorem z2n{α:Type}(l:List α)(f:α->Int):l.map (fun x=>D.int (f x))=(l.map f).map D.int:=by rw[List.map_map];rfl
theorem z3t{α:Type}(l:List α)(f:α->List Int):l.map (fun x=>rowD (f x))=(l.map f).map rowD:=by rw[List.map_map];rfl
theorem x7j{P:Int}{n k:Nat}{t:List (List Int)}(ht:z3j P n t)(hk:k<n):y8l P n ((t[k]?).getD []):=by
 rw[y1d (by rw[ht.1];exact hk)]
 exact ht.2 _ (List.getElem_mem _)
theorem s_i{P:Int}{n k:Nat}{f:List Int}{t:List (List Int)}(hf:fits f)(hl:n<=f.length)(ht:z3j P n t)(hn:n<=1000)(hk:k<=n):c_i [.tup (f.map D.int),.tup (t.map rowD),.int k] = .ok (.int (sumN (fun x=>(f[x]?).getD 0*(((t[x]?).getD [])[k]?).getD 0) n)):=by
 refine z1p rfl ?_
 delta g_i
 refine z2y ?_
 have htl:=ht.1
 walk_at "evs"
 rw[z3b (h:=fun x=>D.int ((f[x]?).getD 0*(((t[x]?).getD [])[k]?).getD 0)),z2n]
 ·walk_at "evs"
  rw[z8k,htl]
 ·intro x hx
  have hr:=x7j ht (k:=x) (by lia)
  have e1:=atD (l:=f) (i:=x) (by lia)
  have e2:=atT (t:=t) (i:=x) (by lia)
  have e3:=atD (l:=(t[x]?).getD []) (i:=k) (by rw[hr.2];lia)
  have e4:=y3o hf x
  walk_at "evs"
  simp only[Int.zero_add,e1,e2]
  walk_at "evs"
  simp only[z0n,e3]
  walk_at "evs"
theorem s_n{P:Int}{n:Nat}{f:List Int}{t:List (List Int)}(hp:0<P)(hp2:P<1000000)(hf:y8l P n f)(ht:z3j P n t)(hn:n<=100):c_n [.int P,.tup (t.map rowD),.tup (f.map D.int)] = .ok (rowD (z5p P t f)):=by
 have htl:=ht.1
 refine z1p rfl ?_
 delta g_n
 refine z1o (d:=.int n) (by walk_at "evs";rw[htl]) ?_
 refine z3l (ds:=((List.range (n+1)).map fun k=>sumN (fun x=>(f[x]?).getD 0*(((t[x]?).getD [])[k]?).getD 0) n).map D.int) ?_ ?_
 ·walk_at "evs"
  rw[show((n:Int)+1).toNat=n+1 by lia,z3b (h:=fun k=>D.int (sumN (fun x=>(f[x]?).getD 0*(((t[x]?).getD [])[k]?).getD 0) n)),z2n]
  intro k hk
  have e:=s_i (f:=f) (k:=k) (hf.1.fits (by lia)) (by rw[hf.2];lia) ht (by lia) (by lia)
  walk_at "evs"
  simp only[Int.zero_add,e]
  walk_at "evs"
 have e1:=atD (l:=f) (i:=n) (by rw[hf.2];lia)
 have e2:=atD (l:=(List.range (n+1)).map fun k=>sumN (fun x=>(f[x]?).getD 0*(((t[x]?).getD [])[k]?).getD 0) n) (i:=n) (by simp)
 have e3:((((List.range (n+1)).map fun k=>sumN (fun x=>(f[x]?).getD 0*(((t[x]?).getD [])[k]?).getD 0) n)[n]?).getD 0)=sumN (fun x=>(f[x]?).getD 0*(((t[x]?).getD [])[n]?).getD 0) n:=by
  rw[List.getElem?_map,List.getElem?_range (by lia)];rfl
 rw[e3] at e2
 generalize hL:((List.range (n+1)).map fun k=>sumN (fun x=>(f[x]?).getD 0*(((t[x]?).getD [])[k]?).getD 0) n)=L at *
 have hLl:L.length=n+1:=by rw[<-hL];simp
 refine z8i (x8n (ds:=L.map D.int) (j:=n) (n:=n) (d:=.int (sumN (fun x=>(f[x]?).getD 0*(((t[x]?).getD [])[n]?).getD 0) n+(f[n]?).getD 0)) ?_ ?_ ?_ ?_) ?_
 ·rfl
 ·walk_at "evs"
  simp only[e1,e2]
  walk_at "evs"
 ·walk_at "evs"
 ·rw[List.length_map,hLl]
  unfold ixN
  rw[if_pos (by lia),if_pos (by lia)];simp
 refine z2y ?_
 have e4:(L.map D.int).set n (.int (sumN (fun x=>(f[x]?).getD 0*(((t[x]?).getD [])[n]?).getD 0) n+(f[n]?).getD 0))=((List.range (n+1)).map fun k=>D.int (sumN (fun x=>(f[x]?).getD 0*(((t[x]?).getD [])[k]?).getD 0) n+(if k=n then (f[n]?).getD 0 else 0))):=by
  rw[<-hL]
  apply List.ext_getElem (by simp)
  intro k h1 h2
  rw[List.getElem_set]
  by_cases q:n=k
  ·subst q;simp
  ·rw[if_neg q];simp[Ne.symm q]
 walk_at "evs"
 rw[e4]
 have e5:D.noLs ((List.range (n+1)).map fun k=>D.int (sumN (fun x=>(f[x]?).getD 0*(((t[x]?).getD [])[k]?).getD 0) n+(if k=n then (f[n]?).getD 0 else 0)))=true:=z8t fun _ _=>z2f _
 rw[z1m e5]
 walk_at "evs"
 rw[z1f (h:=fun k=>D.int ((sumN (fun x=>(f[x]?).getD 0*(((t[x]?).getD [])[k]?).getD 0) n+(if k=n then (f[n]?).getD 0 else 0))%P))]
 ·walk_at "evs"
  unfold z5p
  rw[htl]
  unfold rowD
  rw[List.map_map];rfl
 ·intro k hk
  walk_at "evs"
theorem s_J{P:Int}{n:Nat}{a b:List (List Int)}(hp:0<P)(hp2:P<1000000)(ha:z3j P n a)(hb:z3j P n b)(hn:n<=100):c_J [.int P,.tup (a.map rowD),.tup (b.map rowD)] = .ok (.tup ((z4n P a b).map rowD)):=by
 refine z1p rfl ?_
 delta g_J
 refine z2y ?_
 have h1:=z4y b
 have h2:b.length<=100000:=by rw[hb.1];lia
 walk_at "evs"
 rw[z1f (h:=fun f=>rowD (z5p P a f))]
 ·walk_at "evs"
  unfold z4n
  rw[List.map_map];rfl
 ·intro f hf
  have e:=s_n hp hp2 (hb.2 f hf) ha hn
  have e2:=z0z (z5p P a f)
  walk_at "evs"
  simp only[z0n f,e]
  walk_at "evs"
theorem s_B{n x:Nat}(hn:n<=1000):c_B [.int n,.int x] = .ok (rowD (z4m n x)):=by
 refine z1p rfl ?_
 delta g_B
 refine z2y ?_
 walk_at "evs"
 rw[z3b (h:=fun i=>D.int (if i=x then 1 else 0)),z2n]
 ·walk_at "evs";rfl
 ·intro i hi
  walk_at "evs"
  by_cases q:i=x
  ·subst q
   have e:((0:Int)+(i:Int)==(i:Int))=true:=by simp
   simp only[e]
   walk_at "evs"
  ·have e:((0:Int)+(i:Int)==(x:Int))=false:=by simp;lia
   simp only[e,if_neg q]
   walk_at "evs"
theorem s_I{n:Nat}(hn:n<=100):c_I [.int n] = .ok (.tup ((z5y n).map rowD)):=by
 refine z1p rfl ?_
 delta g_I
 refine z2y ?_
 walk_at "evs"
 rw[z3b (h:=fun x=>rowD (z4m (n+1) x)),z3t]
 ·walk_at "evs";rfl
 ·intro x hx
  have e:=s_B (n:=n+1) (x:=x) (by lia)
  rw[show(((n+1:Nat):Int))=(n:Int)+1 by lia] at e
  have e2:=z0z (z4m (n+1) x)
  walk_at "evs"
  simp only[Int.zero_add,e]
  walk_at "evs"
theorem y2s{P:Int}{fs ss:List Int}(hp:0<P)(hf:fits fs)(hl:fs.length=ss.length+1)(hn:ss.length<=1000):c_j [.int P,.tup (fs.map D.int),.tup (ss.map D.int)] = .ok (.int (z1i fs ss%P)):=by
 refine z1p rfl ?_
 delta g_j
 refine z2y ?_
 have e0:atI (fs.map D.int) (-1)=some (.int ((fs[ss.length]?).getD 0)):=by
  rw[x2n (by lia) (by rw[List.length_map];lia),List.length_map,show(-1+(fs.length:Int)).toNat=ss.length by lia,List.getElem?_map,List.getElem?_eq_getElem (by lia)];rfl
 walk_at "evs"
 simp only[e0]
 walk_at "evs"
 rw[z3b (h:=fun i=>D.int ((fs[i]?).getD 0*(ss[i]?).getD 0)),z2n]
 ·walk_at "evs"
  rw[z8k,Int.add_comm];rfl
 ·intro i hi
  have e1:=atD (l:=fs) (i:=i) (by lia)
  have e2:=atD (l:=ss) (i:=i) (by lia)
  have e3:=y3o hf i
  walk_at "evs"
  simp only[Int.zero_add,e1,e2]
  walk_at "evs"
theorem x0h{P:Int}{ts:List (List Int)}{ss:List Int}(hp:0<P)(hp2:P<18446744073709551616)(ht:z3j P ss.length ts)(hn:ss.length<=1000):c_e [.int P,.tup (ts.map rowD),.tup (ss.map D.int)] = .ok (.tup ((z3m P ts ss).map D.int)):=by
 refine z1p rfl ?_
 delta g_e
 refine z2y ?_
 have hlt:ts.length<=100000:=by rw[ht.1];lia
 have hnl:=z4y ts
 walk_at "evs"
 rw[z1f (h:=fun r=>D.int (z1i r ss%P)),z2n]
 ·walk_at "evs";rfl
 ·intro r hr
  have q:=ht.2 r hr
  have e1:c_j [D.int P,rowD r,D.tup (ss.map D.int)]=R.ok (D.int (z1i r ss%P)):=y2s hp (q.1.fits hp2) q.2 hn
  rw[e1]
  walk_at "evs"
noncomputable def tabD(t:List (List Int)):D:=.tup (t.map rowD)
theorem x2y(t:List (List Int)):tabD t = .tup (t.map rowD):=rfl
theorem z6q(t:List (List Int)):(tabD t).noL=true:=z7h t
theorem y4r(l:List (List (List Int))):D.noLs (l.map tabD)=true:=z8t fun t _=>z7h t
theorem z6v(n:Nat)(t:List (List Int)):D.lay (n+2) (tabD t)=true:=x6k n t
theorem z6x(a b:List (List Int)):eqD (tabD a) (tabD b)=decide (a=b):=x6u a b
theorem y4e(lo st:Int)(n:Nat):(z9d lo st n).length=n:=by unfold z9d;simp
theorem x0a{lo st:Int}{n j:Nat}{d:D}(h:(z9d lo st n)[j]? = some d):j<n/\d = .int (lo+st*(j:Int)):=by
 have hj:j<n:=by
  have:=(List.getElem?_eq_some_iff.mp h).1
  rw[y4e] at this;exact this
 refine⟨hj,?_⟩
 unfold z9d at h
 rw[List.getElem?_map,List.getElem?_range hj] at h
 cases h;rfl
theorem z6p{lo:Int}{n j:Nat}{d:D}(h:(z3w lo n)[j]? = some d):j<n/\d = .int (lo+(j:Int)):=by
 have hj:j<n:=by
  have:=(List.getElem?_eq_some_iff.mp h).1
  rw[z0r] at this;exact this
 rw[z9e lo _ _ hj] at h
 cases h;exact⟨hj,rfl⟩
end L3
namespace L3
open PySem
local macro_rules | `(tactic| walk_at "evs") => wkL " L3.z9p L3.z5t L3.s_on L3.z6q L3.z6v L3.z6x L3.z8d L3.z7p L3.z6y L3.z0z"
theorem s_x{n x:Nat}{f:List Int}(hn:n<=100)(hx:x<n):c_x [.int n,.int x,rowD f] = .ok (tabD ((z5y n).set x f)):=by
 refine z1p rfl ?_
 delta g_x
 have e:=s_I hn
 have hnl:=z4y (z5y n)
 refine z3l (ds:=(z5y n).map rowD) (by walk_at "evs";simp only[e];walk_at "evs") ?_
 refine z8i (x8n (ds:=(z5y n).map rowD) (j:=x) (n:=x) (d:=rowD f) rfl (by simp only[z0n];walk_at "evs") (by walk_at "evs") ?_) ?_
 ·rw[List.length_map,z2z]
  unfold ixN
  rw[if_pos (by lia),if_pos (by lia)];simp
 refine z2y ?_
 walk_at "evs"
 unfold tabD
 rw[List.map_set]
noncomputable section
noncomputable def g_k:G->R Fl :=
 (gRet (gBin dIx (gL (gLst (gCons (gBin dMod (gBin dDiv (gV 0) (gC (.int 3))) (gC (.int 5))) (gCons (gBin dMod (gBin dDiv (gV 0) (gC (.int 3))) (gC (.int 1000))) (gCons (gBin dMod (gBin dDiv (gV 0) (gC (.int 3))) (gBin dAdd (gBin dPow (gC (.int 10)) (gC (.int 30))) (gC (.int 1)))) gNil))))) (gBin dMod (gV 0) (gC (.int 3)))))
noncomputable def c_k:List D->R D:=fnC 1 1 g_k
noncomputable def g_t:G->R Fl :=
 (gSt (gSet 4 (gNL (gBin dMod (gV 0) (gV 3))))
 (gSt (gSet 5 (gNL (z0h c_d (gCons (gV 1) (gCons (gV 2) (gCons (gBin dAdd (gV 3) (gC (.int 1))) gNil))))))
 (gSt (gIfS (gAnd (gT (gBin dEq (gBin dIx (gV 5) (gV 4)) (gC (.int 0)))) (gT (gBin dGt (gBin dMod (gBin dDiv (gV 0) (gC (.int 3))) (gC (.int 6))) (gC (.int 0))))) (gSet 5 (gNL (gBin dAdd (gBin dAdd (gSl (gV 5) gON (gOS (gV 4))) (gTup (gCons (gBin dAdd (gC (.int 1)) (gBin dMod (gBin dDiv (gV 0) (gC (.int 18))) (gBin dSub (gV 2) (gC (.int 1))))) gNil))) (gSl (gV 5) (gOS (gBin dAdd (gV 4) (gC (.int 1)))) gON)))) z2r)
 (gRet (gTup (gCons (gC (.str "set")) (gCons (gV 4) (gCons (gV 5) gNil))))))))
noncomputable def c_t:List D->R D:=fnC 4 6 g_t
noncomputable def g_o:G->R Fl :=
 (gSt (z2s 4 (gLst gNil))
 (gSt (z2s 5 (gLst gNil))
 (gSt (gFor 6 (y1e (gC (.int 0)) (gBin dSub (z0h dMin (gCons (z0h dLen (gCons (gV 0) gNil)) (gCons (gC (.int 60)) gNil))) (gC (.int 1))) (gC (.int 2)))
 (gSt (gSet 7 (gNL (gBin dSub (z0h dLen (gCons (gV 4) gNil)) (z0h dMin (gCons (gBin dMod (gBin dDiv (gBin dIx (gV 0) (gV 6)) (gC (.int 4))) (gC (.int 4))) (gCons (z0h dLen (gCons (gV 4) gNil)) gNil))))))
 (gSt (gSet 8 (gNL (gBin dAdd (gC (.int 1)) (z0h y9b (gCons (gL (z9k (gL (gLst (gCons (gC (.int 0)) gNil))) (gSl (gV 5) (gOS (gV 7)) gON))) gNil)))))
 (gIfS (gAnd (gT (gBin dEq (gBin dMod (gBin dIx (gV 0) (gV 6)) (gC (.int 4))) (gC (.int 3)))) (gAnd (gT (gBin dLt (gV 8) (gC (.int 4)))) (gT (gBin dGt (gV 3) (gC (.int 0)))))) (gSt (z2s 4 (z9k (gSl (gV 4) gON (gOS (gV 7))) (gL (gLst (gCons (gTup (gCons (gC (.str "again")) (gCons (z0h c_k (gCons (gBin dIx (gV 0) (gBin dAdd (gV 6) (gC (.int 1)))) gNil)) (gCons (z0h z2h (gCons (gSl (gV 4) (gOS (gV 7)) gON) gNil)) gNil)))) gNil)))))
 (gSt (z2s 5 (z9k (gSl (gV 5) gON (gOS (gV 7))) (gL (gLst (gCons (gV 8) gNil)))))
 (gSet 3 (gNL (gBin dSub (gV 3) (gC (.int 1))))))) (gSt (gApp 4 (gNL (z0h c_t (gCons (gBin dDiv (gBin dIx (gV 0) (gV 6)) (gC (.int 4))) (gCons (gBin dIx (gV 0) (gBin dAdd (gV 6) (gC (.int 1)))) (gCons (gV 1) (gCons (gV 2) gNil)))))))
 (gApp 5 (gNL (gC (.int 0)))))))))
 (gRet (z0h z2h (gCons (gV 4) gNil))))))
noncomputable def c_o:List D->R D:=fnC 4 9 g_o
end
noncomputable section
noncomputable def g_D:G->R Fl :=
 (gSt (z2s 3 (gLst gNil))
 (gSt (gSet 4 (gNL (gV 1)))
 (gSt (gFor 5 (z5q (y6k (gV 2)))
 (gSt (gApp 3 (gNL (gV 4)))
 (gSet 4 (gNL (z0h c_J (gCons (gV 0) (gCons (gV 4) (gCons (gV 4) gNil))))))))
 (z8f 3))))
noncomputable def c_D:List D->R (List D):=fnF 3 6 g_D
noncomputable def g_r:G->R Fl :=
 (z8z (z5u (y4w (gV 0)) (y2h (gT (gBin dEq (gBin dMod (gBin dShr (gV 3) (gV 0)) (gC (.int 2))) (gC (.int 1)))) (gNL (gV 1)))))
noncomputable def c_r:List D->R (List D):=fnF 2 2 g_r
noncomputable def g_E:G->R Fl :=
 (gSt (gSet 3 (gNL (z0h c_I (gCons (z0h dLen (gCons (gV 1) gNil)) gNil))))
 (gSt (gFor 4 (gSeq (gL (z4v c_r (gCons (gL (z4v c_D (gCons (gV 0) (gCons (gV 1) (gCons (gV 2) gNil))))) (gCons (gV 2) gNil)))))
 (gSet 3 (gNL (z0h c_J (gCons (gV 0) (gCons (gV 3) (gCons (gV 4) gNil)))))))
 (gRet (gV 3))))
noncomputable def c_E:List D->R D:=fnC 3 5 g_E
noncomputable def g_v(rec_v:List D->R D)(rec_b:List D->R D):G->R Fl :=
 (gSt (gSet 3 (gNL (z0h c_I (gCons (gV 1) gNil))))
 (gSt (gFor 4 (gSeq (gVr 2))
 (gSet 3 (gNL (z0h c_J (gCons (gV 0) (gCons (gV 3) (gCons (z0h rec_b (gCons (gV 0) (gCons (gV 1) (gCons (gV 4) gNil)))) gNil)))))))
 (gRet (gV 3))))
noncomputable def g_b(rec_v:List D->R D)(rec_b:List D->R D):G->R Fl :=
 (gSt (gIfS (gT (gBin dEq (gBin dIx (gV 2) (gC (.int 0))) (gC (.str "set")))) (gRet (z0h c_x (gCons (gV 1) (gCons (gBin dIx (gV 2) (gC (.int 1))) (gCons (gBin dIx (gV 2) (gC (.int 2))) gNil))))) z2r)
 (gRet (z0h c_E (gCons (gV 0) (gCons (z0h rec_v (gCons (gV 0) (gCons (gV 1) (gCons (gBin dIx (gV 2) (gC (.int 2))) gNil)))) (gCons (gBin dIx (gV 2) (gC (.int 1))) gNil))))))
mutual
noncomputable def c_v:Nat->List D->R D
 | 0=>fun _=>.no
 | n+1=>fnC 3 5 (g_v (c_v n) (c_b n))
noncomputable def c_b:Nat->List D->R D
 | 0=>fun _=>.no
 | n+1=>fnC 3 3 (g_b (c_v n) (c_b n))
end
noncomputable def g_H:G->R Fl :=
 (gRet (z0h c_z (gCons (gV 0) (gCons (z0h c_E (gCons (gV 0) (gCons (z0h (c_v 12) (gCons (gV 0) (gCons (gV 1) (gCons (gV 2) gNil)))) (gCons (gV 3) gNil)))) (gCons (gV 4) gNil)))))
noncomputable def c_H:List D->R D:=fnC 5 5 g_H
end
end L3
namespace L3
open PySem
local macro_rules | `(tactic| walk_at "evs") => wkL " L3.z9p L3.z5t L3.s_on L3.z6q L3.z6v L3.z6x L3.z8d L3.z7p L3.z6y L3.z0z L3.z7q L3.y6k L3.y9c"
inductive Item where
 | set (x:Int) (f:List Int)
 | again (n:Int) (its:List Item)
mutual
noncomputable def Item.d:Item->D
 | .set x f=>.tup [.str "set",.int x,rowD f]
 | .again n its=>.tup [.str "again",.int n,.tup (Item.ds its)]
noncomputable def Item.ds:List Item->List D
 | []=>[]
 | a::r=>a.d::Item.ds r
end
theorem Item.ds_map:∀its:List Item,Item.ds its=its.map Item.d
 | []=>rfl
 | a::r=>by rw[Item.ds,Item.ds_map r];rfl
mutual
noncomputable def Item.deep:Item->Nat
 | .set _ _=>0
 | .again _ its=>1+Item.deeps its
noncomputable def Item.deeps:List Item->Nat
 | []=>0
 | a::r=>max a.deep (Item.deeps r)
end
mutual
noncomputable def Item.many:Item->Nat
 | .set _ _=>1
 | .again _ its=>1+Item.manys its
noncomputable def Item.manys:List Item->Nat
 | []=>0
 | a::r=>a.many+Item.manys r
end
mutual
noncomputable def Item.ok(P many:Int):Item->Prop
 | .set x f=>0<=x/\x<many/\(f.length:Int)=many+1/\onW P f
 | .again n its=>0<=n/\n<=10^30/\Item.oks P many its
noncomputable def Item.oks(P many:Int):List Item->Prop
 | []=>True
 | a::r=>a.ok P many/\Item.oks P many r
end
theorem Item.oks_iff{P many:Int}:∀{its:List Item},Item.oks P many its↔∀a∈its,a.ok P many
 | []=>by simp[Item.oks]
 | a::r=>by simp[Item.oks,Item.oks_iff (its:=r)]
theorem Item.deeps_le{k:Nat}:∀{its:List Item},Item.deeps its<=k↔∀a∈its,a.deep<=k
 | []=>by simp[Item.deeps]
 | a::r=>by
   have:=Item.deeps_le (k:=k) (its:=r)
   simp only[Item.deeps,List.mem_cons,forall_eq_or_imp,<-this]
   lia
theorem Item.manys_append:∀{a b:List Item},Item.manys (a++b)=Item.manys a+Item.manys b
 | [],b=>by simp[Item.manys]
 | x::a,b=>by simp[Item.manys,Item.manys_append (a:=a)];lia
theorem Item.many_pos:∀a:Item,0<a.many
 | .set _ _=>by simp[Item.many]
 | .again _ _=>by simp[Item.many];lia
theorem Item.manys_length:∀its:List Item,its.length<=Item.manys its
 | []=>Nat.le_refl _
 | a::r=>by have:=a.many_pos;have:=Item.manys_length r;simp only[Item.manys,List.length_cons];lia
mutual
theorem Item.noL:∀a:Item,a.d.noL=true
 | .set x f=>by
   have:=z0z f
   simp[Item.d,D.noL,D.noLs,this]
 | .again n its=>by
   have:=Item.noLs its
   simp[Item.d,D.noL,D.noLs,this]
theorem Item.noLs:∀its:List Item,D.noLs (Item.ds its)=true
 | []=>rfl
 | a::r=>by
   have h1:=Item.noL a
   have h2:=Item.noLs r
   simp[Item.ds,D.noLs,h1,h2]
end
theorem Item.noLs'(its:List Item):D.noLs (its.map Item.d)=true:=by rw[<-Item.ds_map];exact Item.noLs its
theorem x5u(c:Int):∃n:Int,c_k [.int c] = .ok (.int n)/\0<=n/\n<=10^30:=by
 have hw:c%3=0∨c%3=1∨c%3=2:=by lia
 have t30:(0:Int)<10^30+1:=by decide
 have n3:D.noLs [D.int (c/3%5),D.int (c/3%1000),D.int (c/3%(10^30+1))]=true:=z1b [_,_,_]
 obtain⟨n,e,h1,h2⟩:∃n:Int,atI [D.int (c/3%5),D.int (c/3%1000),D.int (c/3%(10^30+1))] (c%3)=some (.int n)/\0<=n/\n<=10^30:=by
  rcases hw with w | w | w<;>rw[w]
  ·exact⟨_,rfl,by omega,by have:(5:Int)<=10^30:=by decide
                           lia⟩
  ·exact⟨_,rfl,by omega,by have:(1000:Int)<=10^30:=by decide
                           lia⟩
  ·refine⟨_,rfl,Int.emod_nonneg _ (by lia),?_⟩
   have:=Int.emod_lt_of_pos (c/3) t30
   exact Int.lt_add_one_iff.mp this
 refine⟨n,z1p rfl (z2y ?_),h1,h2⟩
 walk_at "evs"
 simp only[e]
theorem x5q{f:List Int}{x:Nat}{v P:Int}(hx:x<f.length)(hf:onW P f)(h0:0<=v)(hv:v<P):∃g:List Int,f.take x++[v]++f.drop (x+1)=g/\g.length=f.length/\onW P g/\g[x]? = some v:=by
 refine⟨_,rfl,?_,fun n hn=>?_,?_⟩
 ·simp only[List.length_append,List.length_take,List.length_drop,List.length_cons,List.length_nil];lia
 ·simp only[List.mem_append,List.mem_singleton] at hn
  rcases hn with (h | h) | h
  ·exact hf n (List.mem_of_mem_take h)
  ·rw[h];exact⟨h0,hv⟩
  ·exact hf n (List.mem_of_mem_drop h)
 ·rw[List.append_assoc,List.getElem?_append_right (by rw[List.length_take];lia),List.length_take,Nat.min_eq_left (by lia),Nat.sub_self];rfl
theorem x9e{c m P many:Int}(p1:3<=P)(p2:P<=9973)(m1:1<=many)(m2:many<=3):∃(x:Int) (f:List Int),c_t [.int c,.int m,.int P,.int many] = .ok (Item.set x f).d/\(Item.set x f).ok P many:=by
 have hl:=z4k P (many+1).toNat m
 have ho:=z7x (P:=P) (by lia) (many+1).toNat m
 have hx0:=z4c (w:=c) (P:=many) (by lia)
 have hx1:=z4d (w:=c) (P:=many) (by lia)
 generalize hf:z4e P (many+1).toNat m=f at hl ho
 obtain⟨x,ex⟩:∃x:Nat,c%many=(x:Int):=⟨(c%many).toNat,by lia⟩
 have hx:x<f.length:=by lia
 have start:∀u r,u [.ro (.int c),.ro (.int m),.ro (.int P),.ro (.int many),.ro (.int x),.ro (rowD f)]=r->gSt (gSet 4 (gNL (gBin dMod (gV 0) (gV 3)))) (gSt (gSet 5 (gNL (z0h c_d (gCons (gV 1) (gCons (gV 2) (gCons (gBin dAdd (gV 3) (gC (.int 1))) gNil)))))) u) [.ro (.int c),.ro (.int m),.ro (.int P),.ro (.int many),.no,.no]=r:=fun u r h=>by
  refine z1o (d:=.int x) (by walk_at "evs";rw[ex]) (z1o (d:=rowD f) (by walk_at "evs";rw[hf];rfl) h)
 have at0:atI (f.map D.int) (x:Int)=some (.int (f[x]'hx)):=by
  rw[x5h (by lia),List.getElem?_map,Int.toNat_natCast,List.getElem?_eq_getElem hx];rfl
 by_cases hz:(f[x]'hx==0&&decide (0<c/3%6))=true
 ·have hv0:=z4c (w:=c/18) (P:=P-1) (by lia)
  have hv1:=z4d (w:=c/18) (P:=P-1) (by lia)
  obtain⟨g,eg,gl,go,_⟩:=x5q (v:=1+c/18%(P-1)) hx ho (by lia) (by lia)
  rw[Bool.and_eq_true] at hz
  refine⟨x,g,z1p rfl ?_,by simp only[Item.ok];exact⟨by lia,by lia,by lia,go⟩⟩
  delta g_t
  refine start _ _ (x9b (Γ':=[.ro (.int c),.ro (.int m),.ro (.int P),.ro (.int many),.ro (.int x),.ro (rowD g)]) ?_ ?_ ?_)
  ·walk_at "evs"
   simp only[rowD,dIx,at0]
   walk_at "evs"
   simp only[hz.1,hz.2]
   walk_at "evs"
  ·refine(y1r (d:=rowD g) ?_).trans rfl
   have ex1:(x:Int)+1=((x+1:Nat):Int):=rfl
   have hlen:f.length<=4:=by lia
   walk_at "evs"
   simp only[rowD,dCut,R.bind_ok]
   rw[ex1,z9n,z6j,<-List.map_take,<-List.map_drop]
   have lt:(f.take x).length<=4:=by rw[List.length_take];lia
   have ld:(f.drop (x+1)).length<=4:=by rw[List.length_drop];lia
   have e2:(f.take x).map D.int++(D.int (1+c/18%(P-1))::(f.drop (x+1)).map D.int)=g.map D.int:=by rw[<-eg];simp
   have n2:=z3q g
   walk_at "evs"
   rw[e2]
   walk_at "evs"
  ·exact z2y (by walk_at "evs";rfl)
 ·refine⟨x,f,z1p rfl ?_,by simp only[Item.ok];exact⟨by lia,by lia,by lia,ho⟩⟩
  delta g_t
  refine start _ _ (z5n ?_ (z2y (by walk_at "evs";rfl)))
  walk_at "evs"
  simp only[rowD,dIx,at0]
  walk_at "evs"
  cases q:(f[x]'hx==0) with
  | false=>simp
  | true =>
    rw[q,Bool.true_and] at hz
    simp[hz]
noncomputable def z3a(its:List Item):List Int:=its.map fun a=>(a.deep:Int)
theorem y8z(its:List Item):maxI (0::z3a its)=(Item.deeps its:Int):=by
 refine Eq.symm (y4s ?_ ?_)
 ·induction its with
  | nil=>simp[Item.deeps]
  | cons a r ih =>
    simp only[Item.deeps,z3a,List.map_cons,List.mem_cons]
    by_cases h:Item.deeps r<=a.deep
    ·rw[Nat.max_eq_left h];exact .inr (.inl rfl)
    ·rw[Nat.max_eq_right (by lia)]
     rcases List.mem_cons.mp ih with e | e
     ·exact .inl e
     ·exact .inr (.inr e)
 ·intro b hb
  rcases List.mem_cons.mp hb with rfl | hb
  ·lia
  ·obtain⟨a,ha,rfl⟩:=List.mem_map.mp hb
   have:=Item.deeps_le.mp (Nat.le_refl (Item.deeps its)) a ha
   lia
theorem forI{gb:G->R Fl}{i:Nat}{ds:List D}{Γ:G}(I:Nat->G->Prop)(h0:I 0 Γ)(hq:∀(j:Nat) (d:D) (Γ:G),ds[j]? = some d->I j Γ->Ends (gb (Γ.set i (.ro d))) (I (j+1))):∃Γ',z3k gb i ds Γ = .ok (.nx Γ')/\I ds.length Γ':=by
 obtain⟨Γ',e,h'⟩:=z7m I ds 0 Γ h0 fun j d Γ hd hI=>by rw[Nat.zero_add] at hI ⊢;exact hq j d Γ hd hI
 rw[Nat.zero_add] at h'
 exact⟨Γ',e,h'⟩
theorem x2h{gs:G->R (List D)}{gb u:G->R Fl}{i:Nat}{ds:List D}{Γ:G}(T:R Fl->Prop)(I:Nat->G->Prop)(hi:gs Γ = .ok ds)(h0:I 0 Γ)(hq:∀(j:Nat) (d:D) (Γ:G),ds[j]? = some d->I j Γ->Ends (gb (Γ.set i (.ro d))) (I (j+1)))(h:∀Γ',I ds.length Γ'->T (u Γ')):T (gSt (gFor i gs gb) u Γ):=by
 obtain⟨Γ',e,h'⟩:=forI I h0 hq
 rw[y7w hi e rfl];exact h Γ' h'
theorem x3g{cs:List Int}{P many ag:Int}(p1:3<=P)(p2:P<=9973)(m1:1<=many)(m2:many<=3)(hcs:cs.length<=63) :
 ∃its:List Item,c_o [.lst (cs.map D.int),.int P,.int many,.int ag] = .ok (.tup (its.map Item.d))/\Item.oks P many its/\Item.deeps its<=3/\Item.manys its<=30/\2*Item.manys its<=cs.length:=by
 suffices h:∃its:List Item,g_o [.ro (.lst (cs.map D.int)),.ro (.int P),.ro (.int many),.ro (.int ag),.no,.no,.no,.no,.no] = .ok (.rt (.tup (its.map Item.d)))/\Item.oks P many its/\Item.deeps its<=3/\Item.manys its<=30/\2*Item.manys its<=cs.length by
  obtain⟨its,e,h'⟩:=h
  exact⟨its,z1p rfl e,h'⟩
 delta g_o
 rw[z3l (ds:=[]) (by walk_at "evs") rfl,z3l (ds:=[]) (by walk_at "evs") rfl]
 let I:Nat->G->Prop:=fun j Γ=>∃(its:List Item) (a:Int) (x6 x7 x8:En),Γ=[.ro (.lst (cs.map D.int)),.ro (.int P),.ro (.int many),.ro (.int a),.own (its.map Item.d),.own ((z3a its).map D.int),x6,x7,x8]/\Item.oks P many its/\Item.deeps its<=3/\Item.manys its<=j
 obtain⟨n,hn,hn2,en⟩:∃n:Nat,n<=30/\2*n<=cs.length/\z8m 0 ((if (60:Int)<cs.length then 60 else (cs.length:Int))-1) 2=n:=by
  refine⟨_,?_,?_,rfl⟩<;>unfold z8m<;>split<;>lia
 have hsl:(z9d 0 2 n).length=n:=by unfold z9d;simp
 refine x2h (ds:=z9d 0 2 n) (fun r=>∃its:List Item,r = .ok (.rt (.tup (its.map Item.d)))/\Item.oks P many its/\Item.deeps its<=3/\Item.manys its<=30/\2*Item.manys its<=cs.length) I ?_ ⟨[],ag,.no,.no,.no,rfl,True.intro,Nat.zero_le _,Nat.zero_le _⟩ ?turn ?_
 ·walk_at "evs"
  have r1:(-1073741824:Int)<=(if (60:Int)<cs.length then 60 else (cs.length:Int))-1/\(if (60:Int)<cs.length then 60 else (cs.length:Int))-1<1073741824:=by split<;>lia
  walk_at "evs"
  rw[en]
 case turn =>
  clear en hsl
  rintro j d Γ hd ⟨its,a,x6,x7,x8,rfl,h1,h2,h3⟩
  obtain⟨hj,rfl⟩:=x0a hd
  have hil:=Item.manys_length its
  have e0:(0:Int)+2*(j:Int)=((2*j:Nat):Int):=by lia
  rw[e0]
  have c0:=y6s (ns:=cs) (k:=((2*j:Nat):Int)) (by lia) (by lia)
  have c1:=y6s (ns:=cs) (k:=((2*j:Nat):Int)+1) (by lia) (by lia)
  generalize z3p cs ((2*j:Nat):Int)=y at c0
  generalize z3p cs (((2*j:Nat):Int)+1)=z at c1
  clear e0
  obtain⟨w,hw,ew⟩:∃w:Nat,w<=its.length/\(its.length:Int)-(if (its.length:Int)<y/4%4 then (its.length:Int) else y/4%4)=w:=by
   refine⟨((its.length:Int)-(if (its.length:Int)<y/4%4 then (its.length:Int) else y/4%4)).toNat,?_,?_⟩<;>split<;>lia
  have hd2:(z3a its).drop w=z3a (its.drop w):=by unfold z3a;rw[List.map_drop]
  have n0:D.noLs [D.int 0]=true:=z1b [0]
  have nd:D.noLs (D.int 0::(z3a (its.drop w)).map D.int)=true:=z1b (0::z3a (its.drop w))
  have ll:(z3a (its.drop w)).length<=30:=by unfold z3a;rw[List.length_map,List.length_drop];lia
  rw[z1o (d:=.int w) (by walk_at "evs";simp only[dIx,c0];walk_at "evs";rw[ew]) rfl]
  rw[z1o (d:=.int (1+(Item.deeps (its.drop w):Int))) (by
   walk_at "evs"
   rw[z6j,<-List.map_drop,hd2]
   walk_at "evs"
   rw[z1m ⟨by lia,nd⟩]
   walk_at "evs"
   rw[y8z]) rfl]
  generalize hk:Item.deeps (its.drop w)=lv
  by_cases hc:y%4=3/\lv<3/\0<a
  ·obtain⟨hc1,hc2,hc3⟩:=hc
   have b1:(y%4==3)=true:=by simpa using hc1
   have b2:decide (1+(lv:Int)<4)=true:=decide_eq_true (by lia)
   have b3:decide (0<a)=true:=decide_eq_true hc3
   obtain⟨m,em,m3,m4⟩:=x5u z
   have d4:(Item.again m (its.drop w)).d = .tup [.str "again",.int m,.tup ((its.drop w).map Item.d)]:=by rw[Item.d,Item.ds_map]
   have q4:D.noLs [(Item.again m (its.drop w)).d]=true:=by have:=Item.noL (Item.again m (its.drop w));simp only[D.noLs,this,Bool.and_true]
   have q5:D.noLs ((its.take w).map Item.d++[(Item.again m (its.drop w)).d])=true:=by have:=Item.noLs' (its.take w++[Item.again m (its.drop w)]);rwa [List.map_append] at this
   have l4:((its.take w).map Item.d).length<=30:=by rw[List.length_map,List.length_take];lia
   refine .nx (Γ:=[.ro (.lst (cs.map D.int)),.ro (.int P),.ro (.int many),.ro (.int (a-1)),.own ((its.take w++[Item.again m (its.drop w)]).map Item.d),.own ((z3a (its.take w++[Item.again m (its.drop w)])).map D.int),.ro (.int ((2*j:Nat):Int)),.ro (.int w),.ro (.int (1+(lv:Int)))]) (z9v ?_ (z3l (ds:=(its.take w++[Item.again m (its.drop w)]).map Item.d) ?_ (z3l (ds:=(z3a (its.take w++[Item.again m (its.drop w)])).map D.int) ?_ ((y1r (d:=.int (a-1)) ?_).trans rfl)))) ⟨_,_,_,_,_,rfl,?_,?_,?_⟩
   ·walk_at "evs"
    simp only[dIx,c0]
    walk_at "evs"
    simp only[b1,b2,b3]
    walk_at "evs"
   ·walk_at "evs"
    simp only[dIx,c1,R.bind_ok,em]
    walk_at "evs"
    rw[z6j,z9n,<-List.map_drop,<-List.map_take,<-d4,z1m q4]
    walk_at "evs"
    rw[z1m ⟨by rw[List.length_map] at l4;lia,q5⟩,List.map_append]
    rfl
   ·have n1:D.noLs [D.int (1+(lv:Int))]=true:=z1b [_]
    have e5:(z3a (its.take w++[Item.again m (its.drop w)])).map D.int=((z3a its).take w).map D.int++[D.int (1+(lv:Int))]:=by
     unfold z3a
     rw[List.map_append,List.map_append,List.map_take]
     simp only[List.map_cons,List.map_nil,Item.deep,hk]
     push_cast
     rfl
    have n5:=z1b (z3a (its.take w++[Item.again m (its.drop w)]))
    have l5:((z3a its).take w).length<=30:=by unfold z3a;rw[List.length_take,List.length_map];lia
    rw[e5] at n5 ⊢
    walk_at "evs"
    rw[z9n,<-List.map_take,z1m ⟨by rw[List.length_map];lia,n5⟩]
   ·walk_at "evs"
   ·rw[Item.oks_iff] at h1 ⊢
    intro b hb
    rcases List.mem_append.mp hb with hb | hb
    ·exact h1 b (List.mem_of_mem_take hb)
    ·rw[List.mem_singleton.mp hb,Item.ok]
     exact⟨m3,m4,Item.oks_iff.mpr fun b hb=>h1 b (List.mem_of_mem_drop hb)⟩
   ·rw[Item.deeps_le] at h2 ⊢
    intro b hb
    rcases List.mem_append.mp hb with hb | hb
    ·exact h2 b (List.mem_of_mem_take hb)
    ·rw[List.mem_singleton.mp hb,Item.deep,hk];lia
   ·have e1:Item.manys its=Item.manys (its.take w)+Item.manys (its.drop w):=by rw[<-Item.manys_append,List.take_append_drop]
    rw[Item.manys_append]
    simp only[Item.manys,Item.many]
    lia
  ·obtain⟨x,f,es,hx⟩:=x9e (c:=y/4) (m:=z) p1 p2 m1 m2
   have nx:=Item.noL (Item.set x f)
   have l6:(its.map Item.d).length<=30:=by rw[List.length_map];lia
   have l7:((z3a its).map D.int).length<=30:=by unfold z3a;rw[List.length_map,List.length_map];lia
   refine .nx (Γ:=[.ro (.lst (cs.map D.int)),.ro (.int P),.ro (.int many),.ro (.int a),.own ((its++[Item.set x f]).map Item.d),.own ((z3a (its++[Item.set x f])).map D.int),.ro (.int ((2*j:Nat):Int)),.ro (.int w),.ro (.int (1+(lv:Int)))]) (x8o ?_ (z8i (Γ':=[.ro (.lst (cs.map D.int)),.ro (.int P),.ro (.int many),.ro (.int a),.own ((its++[Item.set x f]).map Item.d),.own ((z3a its).map D.int),.ro (.int ((2*j:Nat):Int)),.ro (.int w),.ro (.int (1+(lv:Int)))]) ?_ ?_)) ⟨_,_,_,_,_,rfl,?_,?_,?_⟩
   ·walk_at "evs"
    simp only[dIx,c0]
    walk_at "evs"
    cases b1:(y%4==3) with
    | false=>rfl
    | true =>
      simp only[if_true]
      have:¬(1+(lv:Int)<4/\0<a):=fun z=>hc ⟨by simpa using b1,by lia,z.2⟩
      by_cases b2:1+(lv:Int)<4
      ·have b3:decide (0<a)=false:=decide_eq_false fun z=>this ⟨b2,z⟩
       simp only[decide_eq_true b2,b3,if_true]
      ·simp only[decide_eq_false b2]
       rfl
   ·rw[List.map_append]
    walk_at "evs"
    simp only[dIx,c0,c1]
    walk_at "evs"
    simp only[es]
    walk_at "evs"
   ·unfold z3a
    rw[List.map_append,List.map_append]
    simp only[List.map_cons,List.map_nil,Item.deep]
    walk_at "evs"
    simp
   ·rw[Item.oks_iff] at h1 ⊢
    intro b hb
    rcases List.mem_append.mp hb with hb | hb
    ·exact h1 b hb
    ·rw[List.mem_singleton.mp hb];exact hx
   ·rw[Item.deeps_le] at h2 ⊢
    intro b hb
    rcases List.mem_append.mp hb with hb | hb
    ·exact h2 b hb
    ·rw[List.mem_singleton.mp hb,Item.deep];lia
   ·rw[Item.manys_append]
    simp only[Item.manys,Item.many]
    lia
 ·rintro Γ ⟨its,a,x6,x7,x8,rfl,h1,h2,h3⟩
  rw[hsl] at h3
  exact⟨its,z2y (by walk_at "evs"),h1,h2,by lia,by lia⟩
theorem x5t{cs:List Int}{P many ag:Int}(p1:3<=P)(p2:P<=9973)(m1:1<=many)(m2:many<=3)(hcs:cs.length<=63) :
 ∃its:List Item,c_o [.lst (cs.map D.int),.int P,.int many,.int ag] = .ok (.tup (its.map Item.d))/\Item.oks P many its/\Item.deeps its<=3/\Item.manys its<=30 :=
 let ⟨its,e,h1,h2,h3,_⟩:=x3g (ag:=ag) p1 p2 m1 m2 hcs;⟨its,e,h1,h2,h3⟩
theorem y9x:((Str.ofString "set")==(Str.ofString "again"))=false:=by decide +kernel
theorem y9y:((Str.ofString "again")==(Str.ofString "set"))=false:=by decide +kernel
theorem y6h(n:Nat):D.lay n (.str (Str.ofString "set"))=true:=by rw[y1a];decide +kernel
theorem y1b(n:Nat):D.lay n (.str (Str.ofString "again"))=true:=by rw[y1a];decide +kernel
noncomputable def powZ(P:Int)(n:Nat)(t:List (List Int)):Nat->List (List Int)
 | 0=>z5y n
 | k+1=>z4n P (powZ P n t k) t
section
variable {P:Int}{n:Nat}{t:List (List Int)}
theorem z4r(hp:1<P)(ht:z3j P n t):∀k,z3j P n (powZ P n t k)
 | 0=>y3l hp n
 | k+1=>z5r (by lia) (z4r hp ht k).1 ht.1
theorem x3i(hp:1<P)(ht:z3j P n t):powZ P n t 1=t:=idle_J hp ht
theorem y2w(hp:1<P)(ht:z3j P n t)(a:Nat):∀b,powZ P n t (a+b)=z4n P (powZ P n t a) (powZ P n t b)
 | 0=>(then_I hp (z4r hp ht a)).symm
 | b+1=>by
   show z4n P (powZ P n t (a+b)) t=z4n P (powZ P n t a) (z4n P (powZ P n t b) t)
   rw[y2w hp ht a b,y1y (by lia) (z4r hp ht a).1 (z4r hp ht b).1 ht.1]
theorem y8n(hp:1<P)(ht:z3j P n t)(k:Nat):z4n P (powZ P n t k) (powZ P n t k)=powZ P n t (2*k):=by
 rw[<-y2w hp ht,Nat.two_mul]
end
noncomputable def figZ(n:Nat):Nat:=if n=0 then 0 else n.log2+1
theorem x5e{n j:Nat}:j<figZ n↔2^j<=n:=by
 unfold figZ
 by_cases h:n=0
 ·rw[if_pos h,h]
  have:0<2^j:=Nat.two_pow_pos j
  lia
 ·rw[if_neg h,Nat.lt_succ_iff,Nat.le_log2 h]
theorem x5f{n k:Nat}(h:n<2^k):figZ n<=k:=by
 rcases Nat.lt_or_ge k (figZ n) with z | z
 ·have:=x5e.mp z
  lia
 ·exact z
noncomputable def z7y(P:Int)(m:Nat)(t:List (List Int))(n:Nat):List (List (List Int)):=(List.range n).map fun j=>powZ P m t (2^j)
theorem y8k(P:Int)(m:Nat)(t:List (List Int))(n:Nat):z7y P m t (n+1)=z7y P m t n++[powZ P m t (2^n)]:=by
 unfold z7y;rw[List.range_succ,List.map_append];rfl
theorem x4m(n:Nat):x2j (n:Int)=figZ n:=by
 unfold x2j figZ
 by_cases h:n=0
 ·subst h;rfl
 ·rw[if_neg h,Int.natAbs_natCast,if_neg]
  intro z
  have:(n:Int)=0:=by simpa using z
  lia
theorem s_D{P:Int}{m n:Nat}{t:List (List Int)}(p1:3<=P)(p2:P<=9973)(hm:m<=3)(ht:z3j P m t)(hn:n<2^150):c_D [.int P,tabD t,.int n] = .ok ((z7y P m t (figZ n)).map tabD):=by
 refine y7q rfl ?_
 delta g_D
 have hp:1<P:=by lia
 have hF:=x5f hn
 refine z3l (ds:=[]) (by walk_at "evs") ?_
 refine z1o (d:=tabD (powZ P m t (2^0))) (by rw[Nat.pow_zero,x3i hp ht];walk_at "evs") ?_
 refine y1l (ds:=z3w 0 (figZ n)) (fun j Γ=>∃x5,Γ=[.ro (.int P),.ro (tabD t),.ro (.int n),.own ((z7y P m t j).map tabD),.ro (tabD (powZ P m t (2^j))),x5]) ?_ ⟨_,rfl⟩ ?_ ?_
 ·walk_at "evs"
  rw[x4m]
  walk_at "evs"
 ·rintro j d Γ hd ⟨x5,rfl⟩
  obtain⟨hj,rfl⟩:=z6p hd
  have hl:((z7y P m t j).map tabD).length<=200:=by unfold z7y;rw[List.length_map,List.length_map,List.length_range];lia
  have eth:=s_J (P:=P) (n:=m) (by lia) (by lia) (z4r hp ht (2^j)) (z4r hp ht (2^j)) (by lia)
  rw[y8n hp ht] at eth
  refine .nx (z8i (x3w (d:=tabD (powZ P m t (2^j))) rfl (by walk_at "evs") (by lia)) ((y1r (d:=tabD (powZ P m t (2^(j+1)))) ?_).trans ?_)) ⟨.ro (.int (0+(j:Int))),rfl⟩
  ·walk_at "evs"
   simp only[tabD,eth,Nat.pow_succ,Nat.mul_comm _ 2]
   have:=z7h (powZ P m t (2*2^j))
   walk_at "evs"
  ·rw[y8k,List.map_append]
   rfl
 ·rintro Γ ⟨x5,rfl⟩
  rw[z0r]
  walk_at "evs"
theorem x3p(n j:Nat):n%2^(j+1)=n%2^j+(n/2^j%2)*2^j:=by
 rw[Nat.pow_succ,Nat.mod_mul,Nat.mul_comm (2^j)]
theorem x6t(n:Nat):n%2^figZ n=n:=Nat.mod_eq_of_lt (by
 rcases Nat.lt_or_ge n (2^figZ n) with z | z
 ·exact z
 ·exact absurd (x5e.mpr z) (Nat.lt_irrefl _))
noncomputable def y0q(n j:Nat):Bool:=n/2^j%2==1
noncomputable def twos(n k:Nat):List Nat:=(List.range k).filter (y0q n)
noncomputable def z6c:List Nat->Nat
 | []=>0
 | j::js=>2^j+z6c js
theorem z6n:∀(a b:List Nat),z6c (a++b)=z6c a+z6c b
 | [],b=>(Nat.zero_add _).symm
 | j::a,b=>by rw[List.cons_append,z6c,z6c,z6n a b,Nat.add_assoc]
theorem y6v(n:Nat):∀k,z6c (twos n k)=n%2^k
 | 0=>by rw[Nat.pow_zero,Nat.mod_one];rfl
 | k+1=>by
   have h:twos n (k+1)=twos n k++(if y0q n k then [k] else []):=by
    unfold twos
    rw[List.range_succ,List.filter_append]
    cases q:y0q n k<;>simp[q]
   rw[h,z6n,y6v n k,x3p]
   have w:n/2^k%2=0∨n/2^k%2=1:=by lia
   rcases w with w | w
   ·have:y0q n k=false:=by unfold y0q;rw[w];rfl
    rw[this,w,Nat.zero_mul];rfl
   ·have:y0q n k=true:=by unfold y0q;rw[w];rfl
    rw[this,w,Nat.one_mul];rfl
noncomputable def y5x(p:Nat->Bool):Nat->List D->List D
 | _,[]=>[]
 | k,x::xs=>if p k=true then x::y5x p (k+1) xs else y5x p (k+1) xs
theorem y1k{f:D->D->G->R (Option D)}{Γ:G}(p:Nat->Bool):∀(xs:List D) (k:Nat) (acc:List D),(∀j x,xs[j]? = some x->f (.int ((k+j:Nat):Int)) x Γ = .ok (if p (k+j)=true then some x else none)) ->
 z0w (z8s f Γ) (z6h k xs) acc = .ok (acc++y5x p k xs)
 | [],k,acc,_=>by rw[z6h,y5x,List.append_nil];rfl
 | x::xs,k,acc,h=>by
   have h0:=h 0 x rfl
   have ih:=fun acc=>y1k p xs (k+1) acc (fun j y hy=>by
    have:=h (j+1) y hy
    rw[show k+1+j=k+(j+1) by lia];exact this)
   rw[z6h,z8g,show z8s f Γ (.tup [.int (k:Int),x])=f (.int (k:Int)) x Γ from rfl,show f (.int (k:Int)) x Γ=_ from h0]
   rw[Nat.add_zero,y5x]
   by_cases q:p k=true
   ·rw[if_pos q,if_pos q]
    show z0w (z8s f Γ) (z6h (k+1) xs) (acc++[x])=_
    rw[ih,List.append_assoc];rfl
   ·rw[if_neg q,if_neg q]
    exact ih acc
theorem y0n(p:Nat->Bool)(F:Nat->D):∀(l s:Nat),y5x p s ((List.range' s l).map F)=((List.range' s l).filter p).map F
 | 0,s=>rfl
 | l+1,s=>by
   rw[List.range'_succ,List.map_cons,y5x,y0n p F l (s+1),List.filter_cons]
   by_cases q:p s=true
   ·rw[if_pos q,if_pos q,List.map_cons]
   ·rw[if_neg q,if_neg q]
theorem x0i(P:Int)(m:Nat)(t:List (List Int))(k:Nat):(z7y P m t k).map tabD=(List.range k).map fun j=>tabD (powZ P m t (2^j)):=by
 unfold z7y;rw[List.map_map];rfl
theorem z9s:∀(k:Nat) (xs:List D),(z6h k xs).length=xs.length
 | _,[]=>rfl
 | k,a::xs=>by rw[z6h,List.length_cons,z9s (k+1) xs,List.length_cons]
theorem s_r{P:Int}{m n k:Nat}{t:List (List Int)}(hk:k<=1000):c_r [.lst ((z7y P m t k).map tabD),.int n] = .ok ((twos n k).map fun j=>tabD (powZ P m t (2^j))):=by
 refine y7q rfl (x4w ?_)
 have nt:=y4r (z7y P m t k)
 have hl:((z7y P m t k).map tabD).length=k:=by unfold z7y;simp
 show(y4w (gV 0) _>>=fun items=>R.guard _ _)=_
 have e1:y4w (gV 0) (ini 2 [.lst ((z7y P m t k).map tabD),.int n]) = .ok (z6h 0 ((z7y P m t k).map tabD)):=by
  show(R.guard _ _:R (List D))=_
  rw[z1m nt]
 rw[e1]
 show R.guard _ _=_
 rw[z1m (by rw[z9s,hl];lia),y1k (y0q n),List.nil_append,x0i,List.range_eq_range',y0n]
 ·unfold twos;rw[List.range_eq_range']
 ·intro j x hx
  have nx:D.noL x=true:=x3o nt (List.mem_of_getElem? hx)
  rw[Nat.zero_add]
  have e2:(n:Int)/2^j%2=((n/2^j%2:Nat):Int):=by
   rw[Int.natCast_emod,Int.natCast_ediv,Int.natCast_pow];rfl
  have e3:((n:Int)/2^j%2==1)=y0q n j:=by
   rw[e2];unfold y0q
   cases q:(n/2^j%2==1) with
   | true=>rw[beq_iff_eq] at q;rw[q];rfl
   | false =>
     have:n/2^j%2=0:=by
      have h1:n/2^j%2≠1:=by simpa using q
      lia
     rw[this];rfl
  have e4:dShr (.int (n:Int)) (.int ((j:Nat):Int)) = .ok (.int ((n:Int)/2^j)):=by
   show R.guard _ (R.ok (D.int ((n:Int)/2^((j:Nat):Int).toNat)))=_
   rw[z1m ⟨Int.natCast_nonneg n,Int.natCast_nonneg j⟩,Int.toNat_natCast]
  unfold y2h
  walk_at "evs"
  rw[e4]
  walk_at "evs"
  rw[e3]
  cases q:y0q n j with
  | true=>walk_at "evs"
  | false=>rfl
theorem x2v{n k i:Nat}{d:D}{F:Nat->D}(h:((twos n k).map F)[i]? = some d):∃j,(twos n k)[i]? = some j/\d=F j:=by
 rw[List.getElem?_map] at h
 cases q:(twos n k)[i]? with
 | none=>rw[q] at h;cases h
 | some j=>rw[q] at h;injection h with h;exact⟨j,rfl,h.symm⟩
theorem y5t{l:List Nat}{i j:Nat}(h:l[i]? = some j):z6c (l.take (i+1))=z6c (l.take i)+2^j:=by
 rw[List.take_add_one,h,z6n]
 show _+(2^j+0)=_
 rw[Nat.add_zero]
theorem s_E{P:Int}{m n:Nat}{t:List (List Int)}(p1:3<=P)(p2:P<=9973)(hm:m<=3)(ht:z3j P m t)(hn:n<2^150):c_E [.int P,tabD t,.int n] = .ok (tabD (powZ P m t n)):=by
 refine z1p rfl ?_
 delta g_E
 have hp:1<P:=by lia
 have el:=s_D p1 p2 hm ht hn
 have ei:=s_I (n:=m) (by lia)
 have hF:=x5f hn
 have er:=s_r (P:=P) (m:=m) (n:=n) (k:=figZ n) (t:=t) (by lia)
 refine z1o (d:=tabD (powZ P m t 0)) ?_ ?_
 ·have:=z7h (z5y m)
  simp only[tabD,powZ]
  walk_at "evs"
  rw[show(t.length:Int)=(m:Int) by rw[ht.1]]
  simp only[ei]
  walk_at "evs"
 refine y1l (ds:=(twos n (figZ n)).map fun j=>tabD (powZ P m t (2^j))) (fun i Γ=>∃x4,Γ=[.ro (.int P),.ro (tabD t),.ro (.int n),.ro (tabD (powZ P m t (z6c ((twos n (figZ n)).take i)))),x4]) ?_ ⟨_,rfl⟩ ?_ ?_
 ·have nt:=y4r (z7y P m t (figZ n))
  walk_at "evs"
  simp only[el]
  walk_at "evs"
  simp only[er]
  have nt2:D.noLs ((twos n (figZ n)).map fun j=>tabD (powZ P m t (2^j)))=true:=z8t fun j _=>z7h _
  walk_at "evs"
 ·rintro i d Γ hd ⟨x4,rfl⟩
  obtain⟨j,hj,rfl⟩:=x2v hd
  have eth:=s_J (P:=P) (n:=m) (by lia) (by lia) (z4r hp ht (z6c ((twos n (figZ n)).take i))) (z4r hp ht (2^j)) (by lia)
  rw[<-y2w hp ht,<-y5t hj] at eth
  refine .nx (y1r (d:=tabD (powZ P m t (z6c ((twos n (figZ n)).take (i+1))))) ?_) ⟨_,rfl⟩
  walk_at "evs"
  simp only[tabD,eth]
  have:=z7h (powZ P m t (z6c ((twos n (figZ n)).take (i+1))))
  walk_at "evs"
 ·rintro Γ ⟨x4,rfl⟩
  refine z2y ?_
  walk_at "evs"
  rw[show((twos n (figZ n)).take (twos n (figZ n)).length)=twos n (figZ n) from List.take_length,y6v,x6t]
end L3
namespace L3
open PySem
local macro_rules | `(tactic| walk_at "evs") => wkL " L3.z9p L3.z5t L3.s_on L3.z6q L3.z6v L3.z6x L3.z8d L3.z7p L3.z6y L3.z0z L3.z7q L3.y6k L3.y9c L3.Item.d L3.Item.ds_map L3.z9m L3.y9x L3.y9y L3.y6h L3.y1b"
mutual
noncomputable def Item.tab(P:Int)(m:Nat):Item->List (List Int)
 | .set x f=>(z5y m).set x.toNat f
 | .again n its=>powZ P m (Item.tabs P m its) n.toNat
noncomputable def Item.tabs(P:Int)(m:Nat):List Item->List (List Int)
 | []=>z5y m
 | a::r=>z4n P (a.tab P m) (Item.tabs P m r)
end
theorem y8h{P:Int}{m x:Nat}{f:List Int}(hp:1<P)(h:y8l P m f):z3j P m ((z5y m).set x f):=by
 obtain⟨h1,h2⟩:=y3l hp m
 refine⟨by rw[List.length_set];exact h1,fun r hr=>?_⟩
 rcases List.mem_or_eq_of_mem_set hr with z | z
 ·exact h2 r z
 ·rw[z];exact h
mutual
theorem Item.tab_ok{P:Int}{m:Nat}(hp:1<P):∀a:Item,a.ok P m->z3j P m (a.tab P m)
 | .set x f,h=>by
   simp only[Item.ok] at h
   exact y8h hp ⟨h.2.2.2,by lia⟩
 | .again n its,h=>by
   simp only[Item.ok] at h
   exact z4r hp (Item.tabs_ok hp its h.2.2) _
theorem Item.tabs_ok{P:Int}{m:Nat}(hp:1<P):∀its:List Item,Item.oks P m its->z3j P m (Item.tabs P m its)
 | [],_=>y3l hp m
 | a::r,h=>by
   simp only[Item.oks] at h
   exact z5r (by lia) (Item.tab_ok hp a h.1).1 (Item.tabs_ok hp r h.2).1
end
theorem Item.tabs_append{P:Int}{m:Nat}(hp:1<P):∀{a b:List Item},Item.oks P m a->Item.oks P m b->Item.tabs P m (a++b)=z4n P (Item.tabs P m a) (Item.tabs P m b)
 | [],b,_,hb=>(idle_J hp (Item.tabs_ok hp b hb)).symm
 | x::a,b,ha,hb=>by
   simp only[Item.oks] at ha
   show z4n P (x.tab P m) (Item.tabs P m (a++b))=z4n P (z4n P (x.tab P m) (Item.tabs P m a)) (Item.tabs P m b)
   rw[Item.tabs_append hp ha.2 hb,y1y (by lia) (Item.tab_ok hp x ha.1).1 (Item.tabs_ok hp a ha.2).1 (Item.tabs_ok hp b hb).1]
theorem Item.tabs_one{P:Int}{m:Nat}(hp:1<P){a:Item}(h:a.ok P m):Item.tabs P m [a]=a.tab P m:=then_I hp (Item.tab_ok hp a h)
theorem x1p{its:List Item}{j:Nat}{d:D}(h:(its.map Item.d)[j]? = some d):∃a:Item,its[j]? = some a/\d=a.d/\a∈its:=by
 rw[List.getElem?_map] at h
 cases q:its[j]? with
 | none=>rw[q] at h;cases h
 | some a=>rw[q] at h;cases h;exact⟨a,rfl,rfl,List.mem_of_getElem? q⟩
theorem y9q{α:Type}{l:List α}{j:Nat}{a:α}(h:l[j]? = some a):l.take (j+1)=l.take j++[a]:=by
 rw[List.take_add_one,h];rfl
theorem Item.oks_take{P many:Int}{its:List Item}(h:Item.oks P many its)(j:Nat):Item.oks P many (its.take j):=Item.oks_iff.mpr fun a ha=>Item.oks_iff.mp h a (List.mem_of_mem_take ha)
theorem x9m:(10:Int)^30<2^150:=by decide
theorem y7u{n:Int}(h0:0<=n)(h:n<=10^30):∃k:Nat,n=(k:Int)/\n.toNat=k/\k<2^150:=by
 have:=x9m
 exact⟨n.toNat,by lia,rfl,by lia⟩
theorem s_v{P:Int}{m:Nat}(p1:3<=P)(p2:P<=9973)(hm:m<=3):∀(k:Nat) (its:List Item),2*Item.deeps its+2<=k->Item.oks P m its->c_v k [.int P,.int m,.tup (its.map Item.d)] = .ok (tabD (Item.tabs P m its))
 | 0,_,h,_=>by lia
 | 1,_,h,_=>by lia
 | k+2,its,h,ho=>by
   have hp:1<P:=by lia
   show fnC 3 5 (g_v (c_v (k+1)) (c_b (k+1))) _=_
   refine z1p rfl ?_
   delta g_v
   have hn:=Item.noLs' its
   have ei:=s_I (n:=m) (by lia)
   refine z1o (d:=tabD (Item.tabs P m (its.take 0))) ?_ ?_
   ·have:=z7h (z5y m)
    walk_at "evs"
    simp only[ei]
    walk_at "evs"
    rfl
   refine y1l (ds:=its.map Item.d) (fun j Γ=>∃x4,Γ=[.ro (.int P),.ro (.int m),.ro (.tup (its.map Item.d)),.ro (tabD (Item.tabs P m (its.take j))),x4]) (by walk_at "evs") ⟨_,rfl⟩ ?_ ?_
   ·rintro j d Γ hd ⟨x4,rfl⟩
    obtain⟨a,ea,rfl,ha⟩:=x1p hd
    have oka:=Item.oks_iff.mp ho a ha
    have okt:=Item.oks_take ho j
    have e:c_b (k+1) [.int P,.int m,a.d] = .ok (tabD (a.tab P m)):=by
     show fnC 3 3 (g_b (c_v k) (c_b k)) _=_
     refine z1p rfl ?_
     delta g_b
     cases a with
     | set x f =>
       simp only[Item.ok] at oka
       obtain⟨y,rfl⟩:∃y:Nat,x=(y:Int):=⟨x.toNat,by lia⟩
       have es:=s_x (n:=m) (x:=y) (f:=f) (by lia) (by lia)
       refine y9i (z9v (by walk_at "evs") (z2y ?_))
       walk_at "evs"
       simp only[es]
       rfl
     | again n i =>
       have h1:=Item.deeps_le.mp (Nat.le_refl (Item.deeps its)) _ ha
       simp only[Item.deep] at h1
       simp only[Item.ok] at oka
       obtain⟨y,rfl,ey,hy⟩:=y7u oka.1 oka.2.1
       have ih:=s_v p1 p2 hm k i (by lia) oka.2.2
       have er:=s_E (n:=y) p1 p2 hm (Item.tabs_ok hp i oka.2.2) hy
       refine z5n (by walk_at "evs") (z2y ?_)
       walk_at "evs"
       simp only[ih]
       walk_at "evs"
       simp only[er]
       rfl
    have eth:=s_J (P:=P) (n:=m) (by lia) (by lia) (Item.tabs_ok hp _ okt) (Item.tab_ok hp a oka) (by lia)
    have et:Item.tabs P m (its.take (j+1))=z4n P (Item.tabs P m (its.take j)) (a.tab P m):=by
     rw[y9q ea,Item.tabs_append hp okt (by simp only[Item.oks];exact⟨oka,trivial⟩),Item.tabs_one hp oka]
    refine .nx (y1r (d:=tabD (Item.tabs P m (its.take (j+1)))) ?_) ⟨_,rfl⟩
    have:=z7h (z4n P (Item.tabs P m (its.take j)) (a.tab P m))
    walk_at "evs"
    simp only[e]
    walk_at "evs"
    simp only[tabD,eth,et]
    walk_at "evs"
   ·rintro Γ ⟨x4,rfl⟩
    refine z2y ?_
    walk_at "evs"
    rw[List.take_of_length_le (Nat.le_refl _)]
theorem s_H{P:Int}{m n:Nat}{its:List Item}{s:List Int}(p1:3<=P)(p2:P<=9973)(hm:m<=3)(hd:Item.deeps its<=5)(ho:Item.oks P m its)(hs:s.length=m)(hn:n<2^150):c_H [.int P,.int m,.tup (its.map Item.d),.int n,rowD s] = .ok (rowD (z3m P (powZ P m (Item.tabs P m its) n) s)):=by
 have hp:1<P:=by lia
 refine z1p rfl ?_
 delta g_H
 have et:=s_v p1 p2 hm 12 its (by lia) ho
 have ok:=Item.tabs_ok hp its ho
 have er:=s_E (n:=n) p1 p2 hm ok hn
 have ea:=s_z (P:=P) (ts:=powZ P m (Item.tabs P m its) n) (ss:=s) (by lia) (by lia) (by rw[hs];exact z4r hp ok n) (by lia)
 refine z2y ?_
 walk_at "evs"
 simp only[et]
 walk_at "evs"
 simp only[er]
 walk_at "evs"
 simp only[tabD,rowD,ea]
theorem x2b(ns:List Int)(lo hi:Option Int):cutL (ns.map D.int) lo hi=(cutL ns lo hi).map D.int:=x4g D.int ns lo hi
theorem x4h{α:Type}(xs:List α)(lo hi:Option Int):(cutL xs lo hi).length<=xs.length:=by
 unfold cutL;rw[List.length_take,List.length_drop];lia
theorem x0t(its:List Item):(D.tup (its.map Item.d)).noL=true:=by have:=Item.noLs' its;simpa [D.noL] using this
theorem x3s(c:Int):∃m:Nat,1+c%3=(m:Int)/\1<=m/\m<=3:=⟨(1+c%3).toNat,by lia,by lia,by lia⟩
end L3
namespace L3
open PySem
local macro_rules | `(tactic| walk_at "evs") => wkL " L3.z9p L3.z5t L3.s_on L3.z6q L3.z6v L3.z6x L3.z8d L3.z7p L3.z6y L3.z0z"
theorem x8j{P d:Int}(hp:z2k P=false)(h3:3<=P)(h:P<=9973)(h1:2<=d)(h2:d<P):P%d≠0:=by
 intro e
 have hn:¬∃b:Int,2<=b/\b<100/\b<P/\P%b=0:=fun q=>by rw[(y8u P).mpr q] at hp;cases hp
 by_cases hd:d<100
 ·exact hn ⟨d,h1,hd,h2,e⟩
 ·have e1:P=d*(P/d):=by have:=Int.emod_add_mul_ediv P d;lia
  generalize hq:P/d=q at *
  have q0:0<q:=by
   rcases Int.lt_trichotomy 0 q with z | z | z
   ·exact z
   ·rw[<-z] at e1;simp at e1;lia
   ·have:d*q<0:=Int.mul_neg_of_pos_of_neg (by lia) z
    lia
  have q1:q≠1:=fun z=>by rw[z] at e1;lia
  have q2:q<100:=by
   rcases Int.lt_or_le q 100 with z | z
   ·exact z
   ·have:100*100<=d*q:=Int.mul_le_mul (by lia) z (by lia) (by lia)
    lia
  refine hn ⟨q,by lia,q2,?_,?_⟩
  ·have:2*q<=d*q:=Int.mul_le_mul_of_nonneg_right h1 (by lia)
   lia
  ·rw[e1];exact Int.mul_emod_left d q
theorem x2k{P n0:Int}(hp:z2k P=false)(h3:3<=P)(h:P<=9973)(x1:En):∀(k m:Nat) (Γ:G),m<k ->
 (∃a b:Int,Γ=[.ro (.int P),x1,.ro (.int b),.ro (.int a)]/\1<=b/\b<P/\0<=a/\a<P/\cg P (a*n0) b/\b.toNat=m) ->
 ∃a:Int,whGo (gT (gBin dNe (gV 2) (gC (.int 1)))) (gSt (gSet 3 (gNL (z0h c_on (gCons (gV 0) (gCons (gBin dMul (gNeg (gV 3)) (gBin dDiv (gV 0) (gV 2))) gNil))))) (gSet 2 (gNL (gBin dMod (gV 0) (gV 2))))) k Γ = .ok (.nx [.ro (.int P),x1,.ro (.int 1),.ro (.int a)])/\0<=a/\a<P/\cg P (a*n0) 1:=by
 refine z9y _ (fun r=>∃a:Int,r = .ok (.nx [.ro (.int P),x1,.ro (.int 1),.ro (.int a)])/\0<=a/\a<P/\cg P (a*n0) 1) ?_
 rintro m Γ ⟨a,b,rfl,b1,b2,a1,a2,hc,hm⟩
 by_cases hb:b=1
 ·subst hb
  refine .inl ⟨by walk_at "evs",a,rfl,a1,a2,hc⟩
 ·have hbf:(b==1)=false:=by simpa using hb
  have hnd:=x8j hp h3 h (d:=b) (by lia) b2
  have r1:0<=P%b:=z4c (by lia)
  have r2:P%b<b:=z4d (by lia)
  have hq0:0<=P/b:=Int.ediv_nonneg (by lia) (by lia)
  have hq1:P/b<=P:=Int.ediv_le_self b (by lia)
  have he:P%b=P-b*(P/b):=by have:=Int.emod_add_mul_ediv P b;lia
  refine .inr ⟨by walk_at "evs";simp only[hbf];walk_at "evs",.inl ⟨[.ro (.int P),x1,.ro (.int (P%b)),.ro (.int ((-a*(P/b))%P))],(P%b).toNat,by lia,.inl ?_,_,_,rfl,by lia,by lia,z4c (by lia),z4d (by lia),?_,rfl⟩⟩
  ·refine z1o (d:=.int ((-a*(P/b))%P)) (by walk_at "evs") ?_
   refine y1r ?_
   walk_at "evs"
  ·have c1:cg P ((-a*(P/b))%P*n0) (-(P/b)*(a*n0)):=by
    refine(z5m.mul cg.refl).trans (cg.of_eq ?_)
    rw[Int.neg_mul,Int.neg_mul,Int.neg_mul,Int.mul_assoc,Int.mul_left_comm]
   have c2:cg P (-(P/b)*(a*n0)) (-(P/b)*b):=cg.mul cg.refl hc
   refine(c1.trans c2).trans ?_
   rw[he]
   have:cg P (-(P/b)*b) (P-b*(P/b)):=by
    rw[x8z]
    rw[show -(P/b)*b-(P-b*(P/b)) = -P by rw[Int.neg_mul,Int.mul_comm];lia]
    simp
   exact this
theorem s_K{P n:Int}(hp:z2k P=false)(h3:3<=P)(h:P<=9973):(n%P=0->c_K [.int P,.int n] = .er .noNumber)/\(n%P≠0->∃a:Int,c_K [.int P,.int n] = .ok (.int a)/\0<a/\a<P/\(a*n)%P=1):=by
 have r1:0<=n%P:=z4c (by lia)
 have r2:n%P<P:=z4d (by lia)
 refine⟨fun e=>?_,fun e=>?_⟩
 ·refine x8w (Γ:=[.ro (.int P),.ro (.int n),.ro (.int 0),.no]) rfl ?_
  delta g_K
  refine z1o (d:=.int 0) (by walk_at "evs";rw[e];walk_at "evs") ?_
  refine w0a (z9v (by walk_at "evs") ?_)
  rfl
 ·have hbf:(n%P==0)=false:=by simpa using e
  obtain⟨a,ea,a1,a2,ac⟩:=x2k (n0:=n%P) hp h3 h (.ro (.int n)) 100000 (n%P).toNat [.ro (.int P),.ro (.int n),.ro (.int (n%P)),.ro (.int 1)] (by lia) ⟨1,n%P,rfl,by lia,r2,by lia,by lia,cg.of_eq (by lia),rfl⟩
  have hc:cg P (a*n) 1:=(cg.mul cg.refl z5m.symm).trans ac
  have h1:(a*n)%P=1:=by
   unfold cg at hc
   rw[hc,Int.emod_eq_of_lt (by lia) (by lia)]
  have a0:a≠0:=fun z=>by rw[z] at h1;simp at h1
  refine⟨a,?_,by lia,a2,h1⟩
  refine z1p rfl ?_
  delta g_K
  refine z1o (d:=.int (n%P)) (by walk_at "evs") ?_
  refine z5n (by walk_at "evs";simp only[hbf];walk_at "evs") ?_
  refine z1o (d:=.int 1) (by walk_at "evs") ?_
  refine z8i ea ?_
  exact z2y (by walk_at "evs")
noncomputable def vec(r:List Int):Nat->Int:=fun i=>(r[i]?).getD 0
inductive Span (P:Int) (S:List (List Int)):(Nat->Int)->Prop
 | zero {v:Nat->Int}:(∀i,cg P (v i) 0)->Span P S v
 | add {u v:Nat->Int} {c:Int} {r:List Int}:r∈S->Span P S u->(∀i,cg P (v i) (u i+c*vec r i))->Span P S v
section
variable {P:Int}{S T:List (List Int)}{u v:Nat->Int}{c:Int}{r:List Int}
theorem Span.cong(h:Span P S u)(e:∀i,cg P (v i) (u i)):Span P S v:=by
 cases h with
 | zero z=>exact .zero fun i=>(e i).trans (z i)
 | add hr hu q=>exact .add hr hu fun i=>(e i).trans (q i)
theorem Span.of_mem(h:r∈S):Span P S (vec r):=.add (c:=1) h (.zero (v:=fun _=>0) fun _=>cg.refl) fun i=>cg.of_eq (by lia)
theorem Span.plus(h:Span P S u)(g:Span P S v):Span P S (fun i=>u i+v i):=by
 induction h with
 | zero z =>
   refine g.cong fun i=>?_
   have:=(z i).add (cg.refl (P:=P) (a:=v i))
   rw[Int.zero_add] at this;exact this
 | @add u' v' c' r' hr hu q ih =>
   refine .add (c:=c') hr ih fun i=>?_
   refine((q i).add cg.refl).trans (cg.of_eq ?_)
   lia
theorem Span.times(c:Int)(h:Span P S u):Span P S (fun i=>c*u i):=by
 induction h with
 | zero z =>
   refine .zero fun i=>?_
   have:=(cg.refl (P:=P) (a:=c)).mul (z i)
   rw[Int.mul_zero] at this;exact this
 | @add u' v' c' r' hr hu q ih =>
   refine .add (c:=c*c') hr ih fun i=>?_
   refine(cg.refl.mul (q i)).trans (cg.of_eq ?_)
   rw[Int.mul_add,Int.mul_assoc]
theorem Span.trans(h:∀r∈S,Span P T (vec r))(g:Span P S v):Span P T v:=by
 induction g with
 | zero z=>exact .zero z
 | add hr hu q ih=>exact(ih.plus ((h _ hr).times _)).cong q
theorem Span.sub(hu:Span P S u)(hv:Span P S v):Span P S (fun i=>u i-v i):=(hu.plus (hv.times (-1))).cong fun i=>cg.of_eq (by lia)
theorem Span.zero_at{j:Nat}(h:∀r∈S,cg P (vec r j) 0)(g:Span P S v):cg P (v j) 0:=by
 induction g with
 | zero z=>exact z j
 | @add u' v' c' r' hr hu q ih =>
   refine(q j).trans ?_
   have:=ih.add ((cg.refl (P:=P) (a:=c')).mul (h _ hr))
   rw[Int.mul_zero,Int.add_zero] at this
   exact this
end
noncomputable def z0k(r:List Int):Nat:=r.findIdx (fun x=>!(x==0))
theorem z2q{r:List Int}{i:Nat}(h:i<z0k r):vec r i=0:=by
 unfold z0k at h
 have hl:i<r.length:=Nat.lt_of_lt_of_le h List.findIdx_le_length
 have:=List.not_of_lt_findIdx h
 unfold vec
 rw[List.getElem?_eq_getElem hl]
 simpa using this
theorem y3i{r:List Int}(h:z0k r<r.length):vec r (z0k r)≠0:=by
 have:=List.findIdx_getElem (xs:=r) (p:=fun x=>!(x==0)) (w:=h)
 unfold vec
 have e:r[z0k r]? = some (r[z0k r]'h):=List.getElem?_eq_getElem h
 rw[e]
 intro z
 have z':r[r.findIdx (fun x=>!(x==0))]'h=0:=z
 simp[z'] at this
theorem y3h{r:List Int}{p:Nat}(h0:∀i,i<p->vec r i=0)(h1:vec r p≠0):z0k r=p:=by
 have hl:p<r.length:=by
  rcases Nat.lt_or_ge p r.length with z | z
  ·exact z
  ·exact absurd (by unfold vec;rw[List.getElem?_eq_none z];rfl) h1
 rcases Nat.lt_trichotomy (z0k r) p with z | z | z
 ·have h2:=y3i (r:=r) (by lia)
  exact absurd (h0 _ z) h2
 ·exact z
 ·exact absurd (z2q z) h1
structure Steps (P:Int) (w:Nat) (S:List (List Int)):Prop where
 row:∀r∈S,r.length=w/\onW P r/\z0k r<w/\vec r (z0k r)=1
 pair:S.Pairwise fun r r'=>z0k r<z0k r'/\vec r (z0k r')=0
noncomputable def comb(S:List (List Int))(v:Nat->Int)(i:Nat):Int:=(S.map fun r=>v (z0k r)*vec r i).sum
theorem z5s{α:Type}{f:α->Int}:∀{l:List α},(∀a∈l,f a=0)->(l.map f).sum=0
 | [],_=>rfl
 | a::l,h=>by rw[List.map_cons,List.sum_cons,h a List.mem_cons_self,z5s fun b hb=>h b (List.mem_cons_of_mem _ hb)];rfl
theorem y5f{α:Type}{P:Int}{f g:α->Int}:∀{l:List α},(∀a∈l,cg P (f a) (g a))->cg P (l.map f).sum (l.map g).sum
 | [],_=>cg.refl
 | a::l,h=>by rw[List.map_cons,List.sum_cons,List.map_cons,List.sum_cons];exact(h a List.mem_cons_self).add (y5f fun b hb=>h b (List.mem_cons_of_mem _ hb))
theorem y9t{α:Type}(f g:α->Int):∀l:List α,(l.map fun a=>f a+g a).sum=(l.map f).sum+(l.map g).sum
 | []=>rfl
 | a::l=>by simp only[List.map_cons,List.sum_cons,y9t f g l];lia
theorem y9s{α:Type}(c:Int)(f:α->Int):∀l:List α,(l.map fun a=>c*f a).sum=c*(l.map f).sum
 | []=>by simp
 | a::l=>by simp only[List.map_cons,List.sum_cons,y9s c f l,Int.mul_add]
theorem x2d{S:List (List Int)}(hp:S.Pairwise fun r r'=>z0k r<z0k r'/\vec r (z0k r')=0)(h1:∀r∈S,vec r (z0k r)=1){r0:List Int}(h:r0∈S)(i:Nat):comb S (vec r0) i=vec r0 i:=by
 induction S with
 | nil=>cases h
 | cons a S ih =>
   obtain⟨ha,hS⟩:=List.pairwise_cons.mp hp
   unfold comb
   rw[List.map_cons,List.sum_cons]
   rcases List.mem_cons.mp h with rfl | h
   ·rw[h1 _ List.mem_cons_self,z5s fun r hr=>by rw[(ha r hr).2,Int.zero_mul]];lia
   ·have hz:vec r0 (z0k a)=0:=z2q (ha r0 h).1
    have:=ih hS (fun r hr=>h1 r (List.mem_cons_of_mem _ hr)) h
    unfold comb at this
    rw[this,hz];lia
section
variable {P:Int}{w:Nat}{S T:List (List Int)}{v:Nat->Int}
theorem z9b(hS:Steps P w S)(h:Span P S v)(i:Nat):cg P (v i) (comb S v i):=by
 induction h with
 | zero z =>
   refine(z i).trans (cg.symm ?_)
   unfold comb
   have:cg P (S.map fun r=>_).sum (S.map fun _=>(0:Int)).sum:=y5f (f:=fun r=>_*vec r i) fun r hr=>by
    have:=(z (z0k r)).mul (cg.refl (P:=P) (a:=vec r i))
    rw[Int.zero_mul] at this;exact this
   rw[z5s (f:=fun _:List Int=>(0:Int)) fun _ _=>rfl] at this
   exact this
 | @add u v' c r hr hu q ih =>
   have e1:=x2d hS.pair (fun r hr=>(hS.row r hr).2.2.2) hr i
   have e2:cg P (comb S v' i) (comb S (fun k=>u k+c*vec r k) i):=y5f fun r' _=>(q (z0k r')).mul cg.refl
   have e3:comb S (fun k=>u k+c*vec r k) i=comb S u i+c*comb S (vec r) i:=by
    unfold comb
    rw[<-y9s,<-y9t]
    congr 1
    refine List.map_congr_left fun a _=>?_
    rw[Int.add_mul,Int.mul_assoc]
   refine(q i).trans (((ih.add (cg.refl (a:=c*vec r i))).trans ?_).trans e2.symm)
   rw[e3,e1]
   exact cg.refl
theorem y2g(hS:Steps P w S)(h:Span P S v){p:Nat}(h0:∀i,i<p->cg P (v i) 0)(h1:¬cg P (v p) 0):∃r∈S,z0k r=p:=by
 refine Classical.byContradiction fun hn=>h1 ?_
 refine(z9b hS h p).trans ?_
 unfold comb
 have:cg P (S.map fun r=>v (z0k r)*vec r p).sum (S.map fun _=>(0:Int)).sum:=y5f (f:=fun r=>v (z0k r)*vec r p) fun r hr=>by
  rcases Nat.lt_trichotomy (z0k r) p with z | z | z
  ·have:=(h0 _ z).mul (cg.refl (P:=P) (a:=vec r p))
   rw[Int.zero_mul] at this;exact this
  ·exact absurd ⟨r,hr,z⟩ hn
  ·rw[z2q z,Int.mul_zero];exact cg.refl
 rw[z5s (f:=fun _:List Int=>(0:Int)) fun _ _=>rfl] at this
 exact this
theorem y0s(hp:1<P):¬cg P 1 0:=fun h=>by
 unfold cg at h
 rw[Int.emod_eq_of_lt (by lia) hp,Int.zero_emod] at h
 lia
theorem y0w(hp:1<P)(hS:Steps P w S)(hT:Steps P w T)(h:∀t∈T,Span P S (vec t)){t:List Int}(ht:t∈T):∃r∈S,z0k r=z0k t:=by
 refine y2g hS (h t ht) (fun i hi=>by rw[z2q hi];exact cg.refl) ?_
 rw[(hT.row t ht).2.2.2]
 exact y0s hp
theorem x5b:∀{a b:List Nat},a.Pairwise (·<·)->b.Pairwise (·<·)->(∀x,x∈a↔x∈b)->a=b
 | [],[],_,_,_=>rfl
 | [],y::b,_,_,h=>by have:=(h y).mpr List.mem_cons_self;cases this
 | x::a,[],_,_,h=>by have:=(h x).mp List.mem_cons_self;cases this
 | x::a,y::b,ha,hb,h=>by
   obtain⟨ha1,ha2⟩:=List.pairwise_cons.mp ha
   obtain⟨hb1,hb2⟩:=List.pairwise_cons.mp hb
   have exy:x=y:=by
    rcases List.mem_cons.mp ((h x).mp List.mem_cons_self) with e | e
    ·exact e
    ·rcases List.mem_cons.mp ((h y).mpr List.mem_cons_self) with e' | e'
     ·exact e'.symm
     ·have:=ha1 y e'
      have:=hb1 x e
      lia
   subst exy
   rw[x5b ha2 hb2 fun z=>?_]
   constructor
   ·intro hz
    rcases List.mem_cons.mp ((h z).mp (List.mem_cons_of_mem _ hz)) with e | e
    ·have:=ha1 z hz;lia
    ·exact e
   ·intro hz
    rcases List.mem_cons.mp ((h z).mpr (List.mem_cons_of_mem _ hz)) with e | e
    ·have:=hb1 z hz;lia
    ·exact e
theorem x7s{a b:List Int}(hp:0<P)(la:a.length=w)(lb:b.length=w)(oa:onW P a)(ob:onW P b)(h:∀i,cg P (vec a i) (vec b i)):a=b:=by
 refine y3p (la.trans lb.symm) fun k hk=>?_
 have h1:=z9h hp oa k
 have h2:=z9h hp ob k
 exact(h k).eq_of h1.1 h1.2 h2.1 h2.2
theorem z7i(hS:Steps P w S){r r':List Int}(h:r∈S)(h':r'∈S)(e:z0k r≠z0k r'):vec r (z0k r')=0:=by
 have key:∀{S:List (List Int)},S.Pairwise (fun r r'=>z0k r<z0k r'/\vec r (z0k r')=0)->r∈S->r'∈S->vec r (z0k r')=0:=by
  intro S
  induction S with
  | nil=>intro _ h _;cases h
  | cons a S ih =>
    intro hp h h'
    obtain⟨h1,h2⟩:=List.pairwise_cons.mp hp
    rcases List.mem_cons.mp h with rfl | g
    ·rcases List.mem_cons.mp h' with rfl | g'
     ·exact absurd rfl e
     ·exact(h1 _ g').2
    ·rcases List.mem_cons.mp h' with rfl | g'
     ·exact z2q (h1 _ g).1
     ·exact ih h2 g g'
 exact key hS.pair h h'
theorem y4c(hp:1<P)(hS:Steps P w S)(hT:Steps P w T)(h1:∀t∈T,Span P S (vec t))(h2:∀r∈S,Span P T (vec r)):S=T:=by
 have incS:(S.map z0k).Pairwise (·<·):=List.pairwise_map.mpr (hS.pair.imp fun q=>q.1)
 have incT:(T.map z0k).Pairwise (·<·):=List.pairwise_map.mpr (hT.pair.imp fun q=>q.1)
 have el:S.map z0k=T.map z0k:=x5b incS incT fun x=>by
  constructor
  ·intro hx
   obtain⟨r,hr,rfl⟩:=List.mem_map.mp hx
   obtain⟨t,ht,e⟩:=y0w hp hT hS h2 hr
   exact List.mem_map.mpr ⟨t,ht,e⟩
  ·intro hx
   obtain⟨t,ht,rfl⟩:=List.mem_map.mp hx
   obtain⟨r,hr,e⟩:=y0w hp hS hT h1 ht
   exact List.mem_map.mpr ⟨r,hr,e⟩
 have er:∀r∈S,∀t∈T,z0k r=z0k t->r=t:=fun r hr t ht e=>by
  obtain⟨a1,a2,a3,a4⟩:=hS.row r hr
  obtain⟨b1,b2,b3,b4⟩:=hT.row t ht
  refine x7s (by lia) a1 b1 a2 b2 fun i=>?_
  have sp:=(Span.of_mem (P:=P) hr).sub (h1 t ht)
  have q:=z9b hS sp i
  have z:comb S (fun k=>vec r k-vec t k) i=0:=by
   refine z5s fun a ha=>?_
   have e0:vec r (z0k a)-vec t (z0k a)=0:=by
    by_cases ea:z0k r=z0k a
    ·rw[<-ea,a4,e,b4];rfl
    ·rw[z7i hS hr ha ea]
     obtain⟨t',ht',et'⟩:=y0w hp hT hS h2 ha
     rw[<-et',z7i hT ht ht' (by lia)];rfl
   show(vec r (z0k a)-vec t (z0k a))*vec a i=0
   rw[e0,Int.zero_mul]
  rw[z] at q
  have:=q.add (cg.refl (P:=P) (a:=vec t i))
  rw[Int.zero_add] at this
  exact cg.trans (cg.of_eq (by lia)) this
 have hl:S.length=T.length:=by have:=congrArg List.length el;simpa using this
 refine List.ext_getElem hl fun i hi hj=>?_
 refine er _ (List.getElem_mem hi) _ (List.getElem_mem hj) ?_
 have:=congrArg (fun l=>l[i]?) el
 simp only[List.getElem?_map,List.getElem?_eq_getElem hi,List.getElem?_eq_getElem hj,Option.map_some,Option.some.injEq] at this
 exact this
end
noncomputable def z2d(P:Int)(r:List Int)(c:Int):List Int:=r.map fun n=>(c*n)%P
noncomputable def z2b(P:Int)(r l:List Int)(p:Nat):List Int:=(r.zip l).map fun x=>(x.1-vec r p*x.2)%P
section
variable {P:Int}{w p:Nat}{r l:List Int}{c:Int}
theorem z6a(i:Nat):vec (z2d P r c) i=(c*vec r i)%P:=by
 unfold vec z2d
 rw[List.getElem?_map]
 cases r[i]? with
 | none=>simp
 | some x=>rfl
theorem z6b:(z2d P r c).length=r.length:=by unfold z2d;simp
theorem z8j(hp:0<P):onW P (z2d P r c):=fun n hn=>by
 obtain⟨x,_,rfl⟩:=List.mem_map.mp hn
 exact⟨z4c hp,z4d hp⟩
theorem z6k(hl:r.length=l.length)(i:Nat):vec (z2b P r l p) i=(vec r i-vec r p*vec l i)%P:=by
 show((z2b P r l p)[i]?).getD 0=_
 unfold z2b
 rw[List.getElem?_map]
 by_cases h:i<r.length
 ·rw[List.getElem?_eq_getElem (by rw[List.length_zip];lia),List.getElem_zip]
  show(r[i]-vec r p*l[i])%P=_
  rw[show vec r i=r[i] by unfold vec;rw[List.getElem?_eq_getElem h];rfl,show vec l i=l[i]'(by lia) by unfold vec;rw[List.getElem?_eq_getElem (by lia)];rfl]
 ·rw[List.getElem?_eq_none (by rw[List.length_zip];lia),show vec r i=0 by unfold vec;rw[List.getElem?_eq_none (by lia)];rfl,show vec l i=0 by unfold vec;rw[List.getElem?_eq_none (by lia)];rfl]
  simp
theorem y2m(hl:r.length=l.length):(z2b P r l p).length=r.length:=by unfold z2b;simp;lia
theorem y5e(hp:0<P):onW P (z2b P r l p):=fun n hn=>by
 obtain⟨x,_,rfl⟩:=List.mem_map.mp hn
 exact⟨z4c hp,z4d hp⟩
theorem x5m(hp:0<P)(h:onW P r)(i:Nat):vec r i%P=vec r i:=by
 have:=z9h hp h i
 exact Int.emod_eq_of_lt this.1 this.2
end
structure Gone (P:Int) (w p:Nat) (rows left steps:List (List Int)):Prop where
 lft:∀r∈left,r.length=w/\onW P r/\∀i,i<p->vec r i=0
 step:∀r∈steps,r.length=w/\onW P r/\z0k r<p/\vec r (z0k r)=1
 pair:steps.Pairwise fun r r'=>z0k r<z0k r'/\vec r (z0k r')=0
 ofL:∀r∈left,Span P rows (vec r)
 ofS:∀r∈steps,Span P rows (vec r)
 all:∀r∈rows,Span P (left++steps) (vec r)
section
variable {P:Int}{w p:Nat}{rows left steps:List (List Int)}
theorem Gone.skip(g:Gone P w p rows left steps)(h:∀r∈left,vec r p=0):Gone P w (p+1) rows left steps where
 lft:=fun r hr=>by
  obtain⟨h1,h2,h3⟩:=g.lft r hr
  refine⟨h1,h2,fun i hi=>?_⟩
  rcases Nat.lt_or_ge i p with z | z
  ·exact h3 i z
  ·rw[show i=p by lia];exact h r hr
 step:=fun r hr=>by obtain⟨h1,h2,h3,h4⟩:=g.step r hr;exact⟨h1,h2,by lia,h4⟩
 pair:=g.pair
 ofL:=g.ofL
 ofS:=g.ofS
 all:=g.all
theorem y2l{S:List (List Int)}{r l:List Int}(hl:r.length=l.length)(h1:Span P S (vec r))(h2:Span P S (vec l)):Span P S (vec (z2b P r l p)):=by
 refine(h1.sub (h2.times (vec r p))).cong fun i=>?_
 rw[z6k hl]
 exact z5m
theorem Gone.turn(g:Gone P w p rows left steps)(hp:1<P)(hw:p<w){r0:List Int}(h0:r0∈left){a:Int}(ha:(a*vec r0 p)%P=1){l:List Int}(el:l=z2d P r0 a):Gone P w (p+1) rows (left.map fun r=>z2b P r l p) ((steps.map fun r=>z2b P r l p)++[l]):=by
 obtain⟨l1,l2,l3⟩:=g.lft r0 h0
 have p0:0<P:=by lia
 have ll:l.length=w:=by rw[el,z6b];exact l1
 have lo:onW P l:=by rw[el];exact z8j p0
 have lv:∀i,vec l i=(a*vec r0 i)%P:=fun i=>by rw[el,z6a]
 have lz:∀i,i<p->vec l i=0:=fun i hi=>by rw[lv,l3 i hi];simp
 have lp:vec l p=1:=by rw[lv];exact ha
 have llead:z0k l=p:=y3h lz (by rw[lp];lia)
 have spl:Span P rows (vec l):=((g.ofL r0 h0).times a).cong fun i=>by rw[lv];exact z5m
 have sv:∀r∈steps,∀i,i<p->vec (z2b P r l p) i=vec r i:=fun r hr i hi=>by
  obtain⟨h1,h2,_⟩:=g.step r hr
  rw[z6k (by lia),lz i hi,Int.mul_zero,Int.sub_zero]
  exact x5m p0 h2 i
 have slead:∀r∈steps,z0k (z2b P r l p)=z0k r:=fun r hr=>by
  obtain⟨h1,h2,h3,h4⟩:=g.step r hr
  refine y3h (fun i hi=>?_) ?_
  ·rw[sv r hr i (by lia)];exact z2q hi
  ·rw[sv r hr _ h3,h4];lia
 have cp:∀r:List Int,r.length=w->vec (z2b P r l p) p=0:=fun r hr=>by
  rw[z6k (by lia),lp]
  simp
 refine⟨fun r' hr'=>?_,fun r' hr'=>?_,?_,fun r' hr'=>?_,fun r' hr'=>?_,fun r hr=>?_⟩
 ·obtain⟨r,hr,rfl⟩:=List.mem_map.mp hr'
  obtain⟨h1,h2,h3⟩:=g.lft r hr
  refine⟨by rw[y2m (by lia)];exact h1,y5e p0,fun i hi=>?_⟩
  rcases Nat.lt_or_ge i p with z | z
  ·rw[z6k (by lia),h3 i z,lz i z];simp
  ·rw[show i=p by lia];exact cp r h1
 ·rcases List.mem_append.mp hr' with hr' | hr'
  ·obtain⟨r,hr,rfl⟩:=List.mem_map.mp hr'
   obtain⟨h1,h2,h3,h4⟩:=g.step r hr
   refine⟨by rw[y2m (by lia)];exact h1,y5e p0,by rw[slead r hr];lia,?_⟩
   rw[slead r hr,sv r hr _ h3];exact h4
  ·rw[List.mem_singleton] at hr'
   subst hr'
   exact⟨ll,lo,by lia,by rw[llead];exact lp⟩
 ·refine List.pairwise_append.mpr ⟨?_,List.pairwise_singleton _ _,fun a' ha' b hb=>?_⟩
  ·refine List.pairwise_map.mpr (g.pair.imp_of_mem fun {r r'} hr hr' q=>?_)
   obtain⟨_,_,h3,_⟩:=g.step r' hr'
   rw[slead r hr,slead r' hr',sv r hr _ h3]
   exact q
  ·obtain⟨r,hr,rfl⟩:=List.mem_map.mp ha'
   rw[List.mem_singleton] at hb
   subst hb
   obtain⟨h1,h2,h3,h4⟩:=g.step r hr
   rw[slead r hr,llead]
   exact⟨h3,cp r h1⟩
 ·obtain⟨r,hr,rfl⟩:=List.mem_map.mp hr'
  exact y2l (by have:=(g.lft r hr).1;lia) (g.ofL r hr) spl
 ·rcases List.mem_append.mp hr' with hr' | hr'
  ·obtain⟨r,hr,rfl⟩:=List.mem_map.mp hr'
   exact y2l (by have:=(g.step r hr).1;lia) (g.ofS r hr) spl
  ·rw[List.mem_singleton] at hr'
   subst hr'
   exact spl
 ·refine Span.trans (fun r' hr'=>?_) (g.all r hr)
  have hlm:l∈(left.map fun r=>z2b P r l p)++((steps.map fun r=>z2b P r l p)++[l]):=by simp
  have undo:∀r:List Int,r.length=w->onW P r->z2b P r l p∈(left.map fun r=>z2b P r l p)++((steps.map fun r=>z2b P r l p)++[l])->Span P ((left.map fun r=>z2b P r l p)++((steps.map fun r=>z2b P r l p)++[l])) (vec r):=fun r h1 h2 h3=>by
   refine((Span.of_mem h3).plus ((Span.of_mem hlm).times (vec r p))).cong fun i=>?_
   rw[z6k (by lia)]
   have:=(z5m (P:=P) (a:=vec r i-vec r p*vec l i)).add (cg.refl (a:=vec r p*vec l i))
   rw[show vec r i-vec r p*vec l i+vec r p*vec l i=vec r i by lia] at this
   exact this.symm
  rcases List.mem_append.mp hr' with q | q
  ·obtain⟨h1,h2,_⟩:=g.lft r' q
   exact undo r' h1 h2 (List.mem_append_left _ (List.mem_map.mpr ⟨r',q,rfl⟩))
  ·obtain⟨h1,h2,_⟩:=g.step r' q
   exact undo r' h1 h2 (List.mem_append_right _ (List.mem_append_left _ (List.mem_map.mpr ⟨r',q,rfl⟩)))
structure StepsOf (P:Int) (w:Nat) (rows S:List (List Int)):Prop where
 steps:Steps P w S
 ofS:∀r∈S,Span P rows (vec r)
 all:∀r∈rows,Span P S (vec r)
theorem Gone.end(g:Gone P w w rows left steps):StepsOf P w rows steps where
 steps:=⟨g.step,g.pair⟩
 ofS:=g.ofS
 all:=fun r hr=>by
  refine Span.trans (fun r' hr'=>?_) (g.all r hr)
  rcases List.mem_append.mp hr' with q | q
  ·obtain⟨h1,_,h3⟩:=g.lft r' q
   refine .zero fun i=>?_
   rcases Nat.lt_or_ge i w with z | z
   ·rw[h3 i z];exact cg.refl
   ·unfold vec;rw[List.getElem?_eq_none (by lia)];exact cg.refl
  ·exact .of_mem q
theorem StepsOf.unique{S T:List (List Int)}(hp:1<P)(hS:StepsOf P w rows S)(hT:StepsOf P w rows T):S=T :=
 y4c hp hS.steps hT.steps (fun t ht=>Span.trans hS.all (hT.ofS t ht)) fun r hr=>Span.trans hT.all (hS.ofS r hr)
theorem StepsOf.span{S:List (List Int)}{v:Nat->Int}(h:StepsOf P w rows S)(g:Span P rows v):Span P S v:=Span.trans h.all g
theorem y8v(hp:0<P)(h:∀r∈rows,r.length=w):Gone P w 0 rows (rows.map fun r=>z2d P r 1) [] where
 lft:=fun r' hr'=>by
  obtain⟨r,hr,rfl⟩:=List.mem_map.mp hr'
  exact⟨by rw[z6b];exact h r hr,z8j hp,fun i hi=>by lia⟩
 step:=fun r hr=>by cases hr
 pair:=List.Pairwise.nil
 ofL:=fun r' hr'=>by
  obtain⟨r,hr,rfl⟩:=List.mem_map.mp hr'
  refine(Span.of_mem hr).cong fun i=>?_
  rw[z6a,Int.one_mul]
  exact z5m
 ofS:=fun r hr=>by cases hr
 all:=fun r hr=>by
  rw[List.append_nil]
  refine(Span.of_mem (List.mem_map.mpr ⟨r,hr,rfl⟩)).cong fun i=>?_
  rw[z6a,Int.one_mul]
  exact z5m.symm
end
noncomputable section
noncomputable def g_w:G->R Fl :=
 (gRet (z0h z2h (gCons (gL (z5u (gZip (gV 1) (gV 2)) (z9w (gNL (z0h (noEr c_on) (gCons (gV 2) (gCons (gBin dSub (gV 0) (gBin dMul (gBin dIx (gV 3) (gV 5)) (gV 1))) gNil))))))) gNil)))
noncomputable def c_w:List D->R D:=fnC 4 4 g_w
noncomputable def g_F:G->R Fl :=
 (gRet (z0h z2h (gCons (gL (z2t (z5z (gV 1)) (fElt (gNL (z0h (noEr c_on) (gCons (gV 1) (gCons (gBin dMul (gV 3) (gV 0)) gNil))))))) gNil)))
noncomputable def c_F:List D->R D:=fnC 3 3 g_F
noncomputable def g_u:G->R Fl :=
 (gSt (gFor 3 (gSeq (gVr 1))
 (gIfS (gT (gBin dNe (gBin dIx (gV 3) (gV 2)) (gC (.int 0)))) (gRet (z0h c_F (gCons (gV 0) (gCons (gV 3) (gCons (z0h c_K (gCons (gV 0) (gCons (gBin dIx (gV 3) (gV 2)) gNil))) gNil))))) z2r))
 (gRet (gC .non)))
noncomputable def c_u:List D->R D:=fnC 3 4 g_u
noncomputable def g_g:G->R Fl :=
 (gSt (z2s 2 (z2t (z5z (gV 1)) (fElt (gNL (z0h (noEr c_F) (gCons (gV 1) (gCons (gV 0) (gCons (gC (.int 1)) gNil))))))))
 (gSt (z2s 3 (gLst gNil))
 (gSt (gFor 4 (z5q (z0h dLen (gCons (gBin dIx (gV 1) (gC (.int 0))) gNil)))
 (gSt (gSet 5 (gNL (z0h c_u (gCons (gV 0) (gCons (gV 2) (gCons (gV 4) gNil))))))
 (gIfS (gT (gBin y9a (gV 5) (gC .non))) (gSt (z2s 2 (z2t (z5z (gV 2)) (fElt (gNL (z0h (noEr c_w) (gCons (gV 1) (gCons (gV 0) (gCons (gV 6) (gCons (gV 5) gNil)))))))))
 (gSt (z2s 3 (z2t (z5z (gV 3)) (fElt (gNL (z0h (noEr c_w) (gCons (gV 1) (gCons (gV 0) (gCons (gV 6) (gCons (gV 5) gNil)))))))))
 (gApp 3 (gNL (gV 5))))) z2r)))
 (z8f 3))))
noncomputable def c_g:List D->R (List D):=fnF 2 6 g_g
noncomputable def g_q:G->R Fl :=
 (gSt (gSet 2 (gNL (z0h dLen (gCons (gBin dIx (gV 1) (gC (.int 0))) gNil))))
 (gSt (z2s 3 (z5u (y4w (gV 1)) (z9w (gNL (gBin dAdd (z0h z2h (gCons (gV 1) gNil)) (z0h (noEr c_B) (gCons (z0h dLen (gCons (gV 3) gNil)) (gCons (gV 0) gNil))))))))
 (z8z (z2t (z5z (gL (z4v c_g (gCons (gV 0) (gCons (gV 3) gNil))))) (z7o (gNot (gT (z0h y6n (gCons (gSl (gV 0) gON (gOS (gV 3))) gNil)))) (gNL (gSl (gV 0) (gOS (gV 3)) gON)))))))
noncomputable def c_q:List D->R (List D):=fnF 2 4 g_q
noncomputable def g_m:G->R Fl :=
 (gSt (z2s 3 (z4v c_q (gCons (gV 0) (gCons (gL (gCat (gLst (gCons (gV 2) gNil)) (z6w (gV 1)))) gNil))))
 (gSt (gIfS (gOr (gNot (x1q (gV 3))) (gT (gBin dEq (gBin dIx (gBin dIx (gV 3) (gC (.int 0))) (gC (.int 0))) (gC (.int 0))))) (gRet (gC .non)) z2r)
 (gRet (z0h c_F (gCons (gV 0) (gCons (gSl (gBin dIx (gV 3) (gC (.int 0))) (gOS (gC (.int 1))) gON) (gCons (gNeg (gC (.int 1))) gNil)))))))
noncomputable def c_m:List D->R D:=fnC 3 4 g_m
end
noncomputable section
noncomputable def g_l:G->R Fl :=
 (gSt (gIfS (gOr (gNot (gT (gIsi z2w (gV 2)))) (gT (gBin dNe (z0h dLen (gCons (gV 2) gNil)) (gV 1)))) (gRet (gC (.bl false))) z2r)
 (gSt (gFor 3 (gSeq (gVr 2))
 (gIfS (gOr (gNot (gT (gIsi z7e (gV 3)))) (gOr (gT (gIsi z4t (gV 3))) (gNot (gT (z6g dLe dLt (gC (.int 0)) (gV 3) (gV 0)))))) (gRet (gC (.bl false))) z2r))
 (gRet (gC (.bl true)))))
noncomputable def c_l:List D->R D:=fnC 3 4 g_l
end
end L3
namespace L3
open PySem
local macro_rules | `(tactic| walk_at "evs") => wkL " L3.z9p L3.z5t L3.s_on L3.z6q L3.z6v L3.z6x L3.z8d L3.z7p L3.z6y L3.z0z L3.z7q L3.y6k L3.y9c L3.z5u L3.gZip L3.y4w L3.z9w L3.z8s L3.x1q L3.y1i L3.y9a L3.D.isNon"
theorem y2n:∀xs ys:List Int,zipD (xs.map D.int) (ys.map D.int)=(xs.zip ys).map fun p=>.tup [.int p.1,.int p.2]
 | [],_=>rfl
 | _::_,[]=>rfl
 | x::xs,y::ys=>by simp only[List.map_cons,zipD,List.zip_cons_cons,y2n xs ys]
theorem y2j{f:D->R (Option D)}{h:Int->Int->Int}{xs ys:List Int}(q:∀x∈xs,∀y∈ys,f (.tup [.int x,.int y]) = .ok (some (.int (h x y)))):z0w f (zipD (xs.map D.int) (ys.map D.int)) [] = .ok (((xs.zip ys).map fun p=>h p.1 p.2).map D.int):=by
 rw[y2n,z1f (h:=fun p=>D.int (h p.1 p.2)),z2n]
 intro p hp
 exact q p.1 (List.of_mem_zip hp).1 p.2 (List.of_mem_zip hp).2
theorem y0h(xs ys:List Int):(zipD (xs.map D.int) (ys.map D.int)).length=min xs.length ys.length:=by
 rw[y2n,List.length_map,List.length_zip]
theorem s_F{P c:Int}{r:List Int}(hp:0<P)(hc:z9l c)(hr:r.length<=1000):c_F [.int P,rowD r,.int c] = .ok (rowD (z2d P r c)):=by
 refine z1p rfl ?_
 delta g_F
 refine z2y ?_
 simp only[z0n]
 walk_at "evs"
 rw[z1f (h:=fun n=>D.int ((c*n)%P)),z2n]
 ·walk_at "evs"
  rfl
 ·intro n hn
  walk_at "evs"
theorem y0i{r:List Int}{p:Nat}(h:p<r.length):atI (r.map D.int) (p:Int)=some (.int (vec r p)):=atD h
theorem s_w{P:Int}{r l:List Int}{p:Nat}(hp:0<P)(hP:P<1000000)(hr:onW P r)(hl:r.length=l.length)(hw:r.length<=1000)(hpp:p<r.length):c_w [.int P,rowD r,rowD l,.int p] = .ok (rowD (z2b P r l p)):=by
 refine z1p rfl ?_
 delta g_w
 refine z2y ?_
 simp only[z0n]
 have hz:(zipD (r.map D.int) (l.map D.int)).length<=100000:=by rw[y0h];lia
 have n12:=And.intro (z1b r) (z1b l)
 have va:=y0i hpp
 have fv:z9l (vec r p):=y3o (hr.fits (by lia)) p
 walk_at "evs"
 rw[y2j (h:=fun x y=>(x-vec r p*y)%P)]
 ·walk_at "evs"
  rfl
 ·intro x hx y hy
  walk_at "evs"
  simp only[va]
  walk_at "evs"
theorem s_u{P:Int}{left:List (List Int)}{p w:Nat}(hp:z2k P=false)(p1:3<=P)(p2:P<=9973)(hl:∀r∈left,r.length=w/\onW P r)(hpw:p<w)(hw:w<=1000) :
 (c_u [.int P,.lst (left.map rowD),.int p] = .ok .non/\∀r∈left,vec r p=0)∨∃r0 a,r0∈left/\(a*vec r0 p)%P=1/\c_u [.int P,.lst (left.map rowD),.int p] = .ok (rowD (z2d P r0 a)):=by
 have key:(g_u [.ro (.int P),.ro (.lst (left.map rowD)),.ro (.int p),.no] = .ok (.rt .non)/\∀r∈left,vec r p=0)∨∃r0 a,r0∈left/\(a*vec r0 p)%P=1/\g_u [.ro (.int P),.ro (.lst (left.map rowD)),.ro (.int p),.no] = .ok (.rt (rowD (z2d P r0 a))):=by
  delta g_u
  have loop:∀(l:List (List Int)) (x3:En),(∀r∈l,r∈left) ->
   (∃x3',z3k (gIfS (gT (gBin dNe (gBin dIx (gV 3) (gV 2)) (gC (.int 0)))) (gRet (z0h c_F (gCons (gV 0) (gCons (gV 3) (gCons (z0h c_K (gCons (gV 0) (gCons (gBin dIx (gV 3) (gV 2)) gNil))) gNil))))) z2r) 3 (l.map rowD) [.ro (.int P),.ro (.lst (left.map rowD)),.ro (.int p),x3] = .ok (.nx [.ro (.int P),.ro (.lst (left.map rowD)),.ro (.int p),x3'])/\∀r∈l,vec r p=0) ∨
   ∃r0 a,r0∈left/\(a*vec r0 p)%P=1/\z3k (gIfS (gT (gBin dNe (gBin dIx (gV 3) (gV 2)) (gC (.int 0)))) (gRet (z0h c_F (gCons (gV 0) (gCons (gV 3) (gCons (z0h c_K (gCons (gV 0) (gCons (gBin dIx (gV 3) (gV 2)) gNil))) gNil))))) z2r) 3 (l.map rowD) [.ro (.int P),.ro (.lst (left.map rowD)),.ro (.int p),x3] = .ok (.rt (rowD (z2d P r0 a))):=by
   intro l
   induction l with
   | nil=>intro x3 _;exact .inl ⟨x3,rfl,fun r hr=>by cases hr⟩
   | cons r l ih =>
     intro x3 hs
     obtain⟨h1,h2⟩:=hl r (hs r List.mem_cons_self)
     have va:=y0i (r:=r) (p:=p) (by lia)
     have hv:0<=vec r p/\vec r p<P:=z9h (show 0<P by lia) h2 p
     rw[List.map_cons]
     by_cases hz:vec r p=0
     ·have e:gIfS (gT (gBin dNe (gBin dIx (gV 3) (gV 2)) (gC (.int 0)))) (gRet (z0h c_F (gCons (gV 0) (gCons (gV 3) (gCons (z0h c_K (gCons (gV 0) (gCons (gBin dIx (gV 3) (gV 2)) gNil))) gNil))))) z2r [.ro (.int P),.ro (.lst (left.map rowD)),.ro (.int p),.ro (rowD r)] = .ok (.nx [.ro (.int P),.ro (.lst (left.map rowD)),.ro (.int p),.ro (rowD r)]):=by
       refine z8y ?_
       simp only[z0n]
       walk_at "evs"
       simp only[va]
       walk_at "evs"
       rw[hz];rfl
      rw[z7v]
      simp only[List.set]
      rw[e]
      rcases ih (.ro (rowD r)) (fun r' h'=>hs r' (List.mem_cons_of_mem _ h')) with ⟨x',q1,q2⟩ | q
      ·refine .inl ⟨x',q1,fun r' hr'=>?_⟩
       rcases List.mem_cons.mp hr' with rfl | hr'
       ·exact hz
       ·exact q2 r' hr'
      ·exact .inr q
     ·have hm:vec r p%P≠0:=by rw[Int.emod_eq_of_lt hv.1 hv.2];exact hz
      obtain⟨a,ea,a0,a1,a2⟩:=(s_K (n:=vec r p) hp p1 p2).2 hm
      have et:=s_F (P:=P) (c:=a) (r:=r) (by lia) (z1h (by lia)) (by lia)
      refine .inr ⟨r,a,hs r List.mem_cons_self,a2,?_⟩
      rw[z7v]
      simp only[List.set]
      have e:gIfS (gT (gBin dNe (gBin dIx (gV 3) (gV 2)) (gC (.int 0)))) (gRet (z0h c_F (gCons (gV 0) (gCons (gV 3) (gCons (z0h c_K (gCons (gV 0) (gCons (gBin dIx (gV 3) (gV 2)) gNil))) gNil))))) z2r [.ro (.int P),.ro (.lst (left.map rowD)),.ro (.int p),.ro (rowD r)] = .ok (.rt (rowD (z2d P r a))):=by
       have bz:(!(vec r p==0))=true:=by simp[hz]
       refine z9v ?_ (z2y ?_)
       ·simp only[z0n]
        walk_at "evs"
        simp only[va]
        walk_at "evs"
        rw[bz]
       ·simp only[z0n] at et ⊢
        walk_at "evs"
        simp only[va]
        walk_at "evs"
        simp only[ea]
        walk_at "evs"
        simp only[et]
      rw[e]
  rcases loop left .no (fun r h=>h) with ⟨x',q1,q2⟩ | ⟨r0,a,q1,q2,q3⟩
  ·refine .inl ⟨?_,q2⟩
   exact y7w (ds:=left.map rowD) (by walk_at "evs") q1 (z2y (by walk_at "evs"))
  ·refine .inr ⟨r0,a,q1,q2,y9i (x1h (ds:=left.map rowD) (by walk_at "evs") q3)⟩
 rcases key with ⟨q1,q2⟩ | ⟨r0,a,q1,q2,q3⟩
 ·exact .inl ⟨z1p rfl q1,q2⟩
 ·exact .inr ⟨r0,a,q1,q2,z1p rfl q3⟩
theorem z1z(l:List (List Int)):D.noLs (l.map rowD)=true:=z4y l
theorem s_g{P:Int}{w:Nat}{rows:List (List Int)}(hp:z2k P=false)(p1:3<=P)(p2:P<=9973)(hne:rows≠[])(hr:∀r∈rows,r.length=w)(hw:w<=100)(hn:rows.length<=100) :
 ∃S,c_g [.int P,.lst (rows.map rowD)] = .ok (S.map rowD)/\StepsOf P w rows S:=by
 obtain⟨r0,rest,rfl⟩:∃r0 rest,rows=r0::rest:=by
  cases rows with
  | nil=>exact absurd rfl hne
  | cons a b=>exact⟨a,b,rfl⟩
 generalize hR:r0::rest=rows at *
 have at0:atI (rows.map rowD) 0=some (rowD r0):=by rw[<-hR];exact z3c 0
 have l0:r0.length=w:=hr r0 (by rw[<-hR];exact List.mem_cons_self)
 suffices h:∃S,g_g [.ro (.int P),.ro (.lst (rows.map rowD)),.no,.no,.no,.no] = .ok (.rtF (S.map rowD))/\StepsOf P w rows S by
  obtain⟨S,e,q⟩:=h
  exact⟨S,y7q rfl e,q⟩
 delta g_g
 have nr:=z1z rows
 have lr:(rows.map rowD).length<=100000:=by rw[List.length_map];lia
 rw[z3l (ds:=(rows.map fun r=>z2d P r 1).map rowD) (by
  walk_at "evs"
  rw[z1f (h:=fun r=>rowD (z2d P r 1)),z3t]
  intro r hrr
  have et:=s_F (P:=P) (c:=1) (r:=r) (by lia) (z1h (by lia)) (by have:=hr r hrr;lia)
  have:=z0z (z2d P r 1)
  walk_at "evs"
  simp only[et]
  walk_at "evs") rfl]
 rw[z3l (ds:=[]) (by walk_at "evs") rfl]
 refine x2h (ds:=z3w 0 w) (fun r=>∃S:List (List Int),r = .ok (.rtF (S.map rowD))/\StepsOf P w rows S) (fun j Γ=>∃(left steps:List (List Int)) (x4 x5:En),Γ=[.ro (.int P),.ro (.lst (rows.map rowD)),.own (left.map rowD),.own (steps.map rowD),x4,x5]/\Gone P w j rows left steps/\left.length<=100/\steps.length<=j) ?_ ⟨_,[],_,_,rfl,y8v (by lia) hr,by rw[List.length_map];exact hn,Nat.le_refl _⟩ ?_ ?_
 ·walk_at "evs"
  simp only[at0]
  simp only[z0n]
  walk_at "evs"
  rw[l0]
  walk_at "evs"
 ·rintro j d Γ hd ⟨left,steps,x4,x5,rfl,gn,ll,ls⟩
  obtain⟨hj,rfl⟩:=z6p hd
  have nl:=z1z left
  have ns:=z1z steps
  have hll:(left.map rowD).length<=100000:=by rw[List.length_map];lia
  have hls:(steps.map rowD).length<=100000:=by rw[List.length_map];lia
  have z0:(0:Int)+(j:Int)=(j:Int):=by lia
  rw[z0]
  rcases s_u (P:=P) (left:=left) (p:=j) (w:=w) hp p1 p2 (fun r hrr=>⟨(gn.lft r hrr).1,(gn.lft r hrr).2.1⟩) hj (by lia) with ⟨e,hz⟩ | ⟨r1,a,h0,ha,e⟩
  ·refine .nx (z1o (d:=.non) (by walk_at "evs";simp only[e];walk_at "evs") (z8y (by walk_at "evs"))) ⟨left,steps,_,_,rfl,gn.skip hz,ll,by lia⟩
  ·have g2:=gn.turn (by lia) hj h0 ha rfl
   have tl:(z2d P r1 a).length=w:=by rw[z6b];exact(gn.lft r1 h0).1
   have nt:=z0z (z2d P r1 a)
   have cl:∀r:List Int,r.length=w->onW P r->c_w [.int P,rowD r,rowD (z2d P r1 a),.int j] = .ok (rowD (z2b P r (z2d P r1 a) j)):=fun r h1 h2=>s_w (by lia) (by lia) h2 (by lia) (by lia) (by lia)
   generalize z2d P r1 a=l at e g2 tl nt cl
   refine .nx (z1o (d:=rowD l) (by walk_at "evs";simp only[e];walk_at "evs") (z9v (by simp only[z0n];walk_at "evs") (z3l (ds:=(left.map fun r=>z2b P r l j).map rowD) ?_ (z3l (ds:=(steps.map fun r=>z2b P r l j).map rowD) ?_ ((x3w (d:=rowD l) rfl (by walk_at "evs") (by rw[List.length_map,List.length_map];lia)).trans rfl))))) ⟨_,(steps.map fun r=>z2b P r l j)++[l],_,_,by rw[List.map_append];rfl,g2,by rw[List.length_map];exact ll,by rw[List.length_append,List.length_map,List.length_singleton];lia⟩
   ·walk_at "evs"
    rw[z1f (h:=fun r=>rowD (z2b P r l j)),z3t]
    intro r hrr
    have ec:=cl r (gn.lft r hrr).1 (gn.lft r hrr).2.1
    have:=z0z (z2b P r l j)
    walk_at "evs"
    simp only[ec]
    walk_at "evs"
   ·walk_at "evs"
    rw[z1f (h:=fun r=>rowD (z2b P r l j)),z3t]
    intro r hrr
    have ec:=cl r (gn.step r hrr).1 (gn.step r hrr).2.1
    have:=z0z (z2b P r l j)
    walk_at "evs"
    simp only[ec]
    walk_at "evs"
 ·rintro Γ ⟨left,steps,x4,x5,rfl,gn,ll,ls⟩
  rw[z0r] at gn
  exact⟨steps,x8m rfl,gn.end⟩
noncomputable def z0t(rows:List (List Int))(k:Nat):List Int:=(rows[k]?).getD []
noncomputable def sumW(rows:List (List Int))(c:Nat->Int)(i:Nat):Int:=sumN (fun k=>c k*vec (z0t rows k) i) rows.length
noncomputable def z4g(rows:List (List Int)):List (List Int):=(List.range rows.length).map fun k=>z0t rows k++z4m rows.length k
section
variable {P:Int}{w:Nat}{rows:List (List Int)}
theorem z1t{k:Nat}(h:k<rows.length):z0t rows k∈rows:=by
 unfold z0t;rw[List.getElem?_eq_getElem h];exact List.getElem_mem h
theorem y6e{k i:Nat}(hr:∀r∈rows,r.length=w)(hk:k<rows.length)(hi:i<w):vec (z0t rows k++z4m rows.length k) i=vec (z0t rows k) i:=by
 unfold vec
 rw[List.getElem?_append_left (by rw[hr _ (z1t hk)];exact hi)]
theorem y6f{k j:Nat}(hr:∀r∈rows,r.length=w)(hk:k<rows.length)(hj:j<rows.length):vec (z0t rows k++z4m rows.length k) (w+j)=if j=k then 1 else 0:=by
 have hl:=hr _ (z1t hk)
 unfold vec
 rw[List.getElem?_append_right (by lia),hl,show w+j-w=j by lia]
 exact z7t hj
theorem y2p(c d:Nat->Int)(i:Nat):sumW rows (fun k=>c k+d k) i=sumW rows c i+sumW rows d i:=by
 unfold sumW
 rw[<-z4x]
 exact z0l fun k _=>Int.add_mul _ _ _
theorem z9z(a:Int)(c:Nat->Int)(i:Nat):sumW rows (fun k=>a*c k) i=a*sumW rows c i:=by
 unfold sumW
 rw[<-z3n]
 exact z0l fun k _=>Int.mul_assoc _ _ _
theorem y2o{c d:Nat->Int}(h:∀k,k<rows.length->cg P (c k) (d k))(i:Nat):cg P (sumW rows c i) (sumW rows d i):=cg.sumN fun k hk=>(h k hk).mul cg.refl
theorem y6x{j:Nat}(hj:j<rows.length)(i:Nat):sumW rows (fun k=>if k=j then 1 else 0) i=vec (z0t rows j) i:=by
 unfold sumW
 rw[z2l hj fun k _ hk=>by show(if k=j then (1:Int) else 0)*_=0;rw[if_neg hk,Int.zero_mul]]
 show(if j=j then (1:Int) else 0)*_=_
 rw[if_pos rfl,Int.one_mul]
theorem y4t{v:Nat->Int}(hr:∀r∈rows,r.length=w)(h:Span P (z4g rows) v):∀i,i<w->cg P (v i) (sumW rows (fun k=>v (w+k)) i):=by
 induction h with
 | zero z =>
   intro i hi
   refine(z i).trans (cg.symm ?_)
   have:cg P (sumW rows (fun k=>_) i) (sumW rows (fun _=>0) i):=y2o (d:=fun _=>0) (fun k _=>z (w+k)) i
   refine this.trans (cg.of_eq ?_)
   unfold sumW
   exact z4o fun k _=>Int.zero_mul _
 | @add u v' c r hm hu q ih =>
   intro i hi
   obtain⟨j,hj,rfl⟩:=List.mem_map.mp hm
   have hj':=List.mem_range.mp hj
   have e1:cg P (sumW rows (fun k=>v' (w+k)) i) (sumW rows (fun k=>u (w+k)+c*(if k=j then 1 else 0)) i):=y2o (fun k hk=>by
    have:=q (w+k)
    rw[y6f hr hj' hk] at this
    exact this) i
   rw[y2p,z9z,y6x hj'] at e1
   refine(q i).trans (((ih i hi).add ?_).trans e1.symm)
   rw[y6e hr hj' hi]
   exact cg.refl
theorem y0b{S:List (List Int)}(c:Nat->Int):∀n,n<=S.length->Span P S (fun i=>sumN (fun k=>c k*vec (z0t S k) i) n)
 | 0,_=>.zero fun _=>cg.refl
 | n+1,h=>.add (c:=c n) (z1t (by lia)) (y0b c n (by lia)) fun i=>cg.refl
theorem y0j{S:List (List Int)}(a:List Int->Int):∀l:List (List Int),(∀r∈l,r∈S)->Span P S (fun i=>(l.map fun r=>a r*vec r i).sum)
 | [],_=>.zero fun _=>cg.refl
 | r::l,h=>.add (c:=a r) (h r List.mem_cons_self) (y0j a l fun b hb=>h b (List.mem_cons_of_mem _ hb)) fun i=>cg.of_eq (by simp only[List.map_cons,List.sum_cons];lia)
theorem y1z{f:List Int->Int}{q:List Int->Bool}:∀{l:List (List Int)},(∀r∈l,q r=false->cg P (f r) 0)->cg P (l.map f).sum ((l.filter q).map f).sum
 | [],_=>cg.refl
 | r::l,h=>by
   have ih:=y1z (l:=l) fun b hb=>h b (List.mem_cons_of_mem _ hb)
   rw[List.map_cons,List.sum_cons]
   cases e:q r with
   | true=>rw[List.filter_cons_of_pos e,List.map_cons,List.sum_cons];exact cg.refl.add ih
   | false =>
     rw[List.filter_cons_of_neg (by rw[e];exact Bool.false_ne_true)]
     have:=(h r List.mem_cons_self e).add ih
     rw[Int.zero_add] at this
     exact this
theorem z6m(r:List Int)(w k:Nat):vec (r.drop w) k=vec r (w+k):=by unfold vec;rw[List.getElem?_drop]
theorem x0c{S:List (List Int)}{v:Nat->Int}(h:Span P S v):Span P (S.map fun r=>r.drop w) (fun k=>v (w+k)):=by
 induction h with
 | zero z=>exact .zero fun k=>z (w+k)
 | @add u v' c r hm hu q ih=>exact .add (c:=c) (List.mem_map.mpr ⟨r,hm,rfl⟩) ih fun k=>by rw[z6m];exact q (w+k)
theorem y0y{r:List Int}(h:w<=z0k r)(hl:z0k r<r.length):z0k (r.drop w)=z0k r-w:=by
 refine y3h (fun i hi=>?_) ?_
 ·rw[z6m];exact z2q (by lia)
 ·rw[z6m,show w+(z0k r-w)=z0k r by lia];exact y3i hl
structure IdleOf (P:Int) (rows T:List (List Int)):Prop where
 steps:Steps P rows.length T
 idle:∀t∈T,∀i,cg P (sumW rows (vec t) i) 0
 all:∀c:Nat->Int,(∀i,cg P (sumW rows c i) 0)->Span P T (fun k=>if k<rows.length then c k else 0)
noncomputable def lowS(w:Nat)(S:List (List Int)):List (List Int):=(S.filter fun r=>decide (w<=z0k r)).map fun r=>r.drop w
theorem y6j{S:List (List Int)}(hr:∀r∈rows,r.length=w)(hS:StepsOf P (w+rows.length) (z4g rows) S):IdleOf P rows (lowS w S):=by
 have hrow:=hS.steps.row
 refine⟨⟨fun t ht=>?_,?_⟩,fun t ht i=>?_,fun c hc=>?_⟩
 ·obtain⟨r,hr',rfl⟩:=List.mem_map.mp ht
  obtain⟨hm,hd⟩:=List.mem_filter.mp hr'
  have hd:=of_decide_eq_true hd
  obtain⟨h1,h2,h3,h4⟩:=hrow r hm
  have el:=y0y hd (by lia)
  refine⟨by rw[List.length_drop];lia,fun n hn=>h2 n (List.mem_of_mem_drop hn),by rw[el];lia,?_⟩
  rw[el,z6m,show w+(z0k r-w)=z0k r by lia];exact h4
 ·refine List.pairwise_map.mpr ((hS.steps.pair.sublist List.filter_sublist).imp_of_mem fun {r r'} hm hm' q=>?_)
  obtain⟨m1,d1⟩:=List.mem_filter.mp hm
  obtain⟨m2,d2⟩:=List.mem_filter.mp hm'
  have d1:=of_decide_eq_true d1
  have d2:=of_decide_eq_true d2
  have e1:=y0y d1 (by have:=hrow r m1;lia)
  have e2:=y0y d2 (by have:=hrow r' m2;lia)
  rw[e1,e2,z6m,show w+(z0k r'-w)=z0k r' by lia]
  exact⟨by lia,q.2⟩
 ·obtain⟨r,hr',rfl⟩:=List.mem_map.mp ht
  obtain⟨hm,hd⟩:=List.mem_filter.mp hr'
  have hd:=of_decide_eq_true hd
  have sp:=hS.ofS r hm
  rcases Nat.lt_or_ge i w with z | z
  ·have:=y4t hr sp i z
   rw[z2q (by lia)] at this
   have e:sumW rows (vec (r.drop w)) i=sumW rows (fun k=>vec r (w+k)) i:=by unfold sumW;exact z0l fun k _=>by rw[z6m]
   rw[e]
   exact this.symm
  ·refine cg.of_eq ?_
   unfold sumW
   refine z4o fun k hk=>?_
   rw[show vec (z0t rows k) i=0 by unfold vec;rw[List.getElem?_eq_none (by rw[hr _ (z1t hk)];exact z)];rfl,Int.mul_zero]
 ·have lm:(z4g rows).length=rows.length:=by unfold z4g;simp
  have sp:Span P (z4g rows) (fun i=>if i<w then 0 else if i-w<rows.length then c (i-w) else 0):=by
   refine(y0b (S:=z4g rows) c rows.length (by lia)).cong fun i=>?_
   have ra:∀k,k<rows.length->z0t (z4g rows) k=z0t rows k++z4m rows.length k:=fun k hk=>by
    unfold z4g z0t
    rw[List.getElem?_map,List.getElem?_range hk]
    rfl
   rcases Nat.lt_or_ge i w with z | z
   ·rw[if_pos z]
    refine cg.symm ?_
    rw[z0l (g:=fun k=>c k*vec (z0t rows k) i) fun k hk=>by rw[ra k hk,y6e hr hk z]]
    exact hc i
   ·rw[if_neg (by lia)]
    by_cases hk:i-w<rows.length
    ·rw[if_pos hk,z0l (g:=fun k=>c k*(if i-w=k then 1 else 0)) fun k hk'=>by
      rw[ra k hk',show i=w+(i-w) by lia,y6f hr hk' hk,show w+(i-w)-w=i-w by lia]]
     rw[z2l hk fun k _ hne=>by rw[if_neg (Ne.symm hne),Int.mul_zero],if_pos rfl,Int.mul_one]
     exact cg.refl
    ·rw[if_neg hk]
     refine cg.of_eq (Eq.symm (z4o fun k hk'=>?_))
     rw[ra k hk']
     have:vec (z0t rows k++z4m rows.length k) i=0:=by
      unfold vec
      rw[List.getElem?_eq_none (by rw[List.length_append,z3u,hr _ (z1t hk')];lia)];rfl
     rw[this,Int.mul_zero]
  have s1:=hS.span sp
  have s2:Span P (S.filter fun r=>decide (w<=z0k r)) (fun i=>if i<w then 0 else if i-w<rows.length then c (i-w) else 0):=by
   refine(y0j (S:=S.filter fun r=>decide (w<=z0k r)) (fun r=>(fun i=>if i<w then 0 else if i-w<rows.length then c (i-w) else 0) (z0k r)) (S.filter fun r=>decide (w<=z0k r)) fun r h=>h).cong fun i=>?_
   refine(z9b hS.steps s1 i).trans (y1z fun r _ hq=>?_)
   have hq:=of_decide_eq_false hq
   show cg P ((if z0k r<w then 0 else _)*_) 0
   rw[if_pos (by lia),Int.zero_mul]
   exact cg.refl
  refine(x0c (w:=w) s2).cong fun k=>cg.of_eq ?_
  have e:(if w+k<w then (0:Int) else if w+k-w<rows.length then c (w+k-w) else 0)=if k<rows.length then c k else 0:=by
   rw[if_neg (show ¬w+k<w by lia),show w+k-w=k by lia]
  exact e.symm
end
theorem y1h:∀(rows:List (List Int)) (k:Nat),z6h k (rows.map rowD)=(List.range rows.length).map fun i=>.tup [.int ((k+i:Nat):Int),rowD (z0t rows i)]
 | [],_=>rfl
 | r::rows,k=>by
   rw[List.map_cons,z6h,y1h rows (k+1),List.length_cons,List.range_succ_eq_map,List.map_cons,List.map_map]
   congr 1
   refine List.map_congr_left fun i _=>?_
   show D.tup [.int ((k+1+i:Nat):Int),rowD (z0t rows i)] = .tup [.int ((k+(i+1):Nat):Int),rowD (z0t (r::rows) (i+1))]
   rw[show k+1+i=k+(i+1) by lia]
   rfl
theorem x4o{r:List Int}{w:Nat}(hw:w<=r.length):((r.take w).any fun n=>n != 0)=!decide (w<=z0k r):=by
 by_cases h:w<=z0k r
 ·rw[decide_eq_true h]
  refine List.any_eq_false.mpr fun x hx=>?_
  obtain⟨i,hi⟩:=List.getElem?_of_mem hx
  have hlt:=(List.getElem?_eq_some_iff.mp hi).1
  rw[List.length_take] at hlt
  rw[List.getElem?_take_of_lt (by lia)] at hi
  have:=z2q (r:=r) (i:=i) (by lia)
  unfold vec at this
  rw[hi] at this
  have:x=0:=this
  simp[this]
 ·rw[decide_eq_false h]
  have hl:z0k r<r.length:=by lia
  refine List.any_eq_true.mpr ⟨r[z0k r],?_,?_⟩
  ·refine List.mem_of_getElem? (i:=z0k r) ?_
   rw[List.getElem?_take_of_lt (by lia)];exact List.getElem?_eq_getElem hl
  ·have:=y3i hl
   unfold vec at this
   rw[List.getElem?_eq_getElem hl] at this
   have:r[z0k r]≠0:=this
   simpa using this
theorem y6p{α:Type}{f:D->R (Option D)}{k h:α->D}{q:α->Bool}{l:List α}(hq:∀x∈l,f (k x) = .ok (if q x=true then some (h x) else none)):z0w f (l.map k) [] = .ok ((l.filter q).map h):=by
 suffices H:∀(l:List α) (acc:List D),(∀x∈l,f (k x) = .ok (if q x=true then some (h x) else none))->z0w f (l.map k) acc = .ok (acc++(l.filter q).map h) by
  have:=H l [] hq;simpa using this
 intro l
 induction l with
 | nil=>intro acc _;simp[z0w]
 | cons x l ih =>
   intro acc hx
   rw[List.map_cons]
   unfold z0w
   rw[hx x List.mem_cons_self]
   cases e:q x with
   | true =>
     simp only[if_true]
     rw[ih _ fun y hy=>hx y (List.mem_cons_of_mem _ hy),List.filter_cons_of_pos e]
     simp
   | false =>
     simp only[Bool.false_eq_true,if_false]
     rw[ih _ fun y hy=>hx y (List.mem_cons_of_mem _ hy),List.filter_cons_of_neg (by rw[e];exact Bool.false_ne_true)]
theorem s_q{P:Int}{w:Nat}{rows:List (List Int)}(hp:z2k P=false)(p1:3<=P)(p2:P<=9973)(hne:rows≠[])(hr:∀r∈rows,r.length=w)(hw:w<=50)(hn:rows.length<=50) :
 ∃S,StepsOf P (w+rows.length) (z4g rows) S/\c_q [.int P,.lst (rows.map rowD)] = .ok ((lowS w S).map rowD):=by
 obtain⟨r0,rest,e0⟩:∃r0 rest,rows=r0::rest:=by
  cases rows with
  | nil=>exact absurd rfl hne
  | cons a b=>exact⟨a,b,rfl⟩
 have at0:atI (rows.map rowD) 0=some (rowD r0):=by rw[e0];exact z3c 0
 have l0:r0.length=w:=hr r0 (by rw[e0];exact List.mem_cons_self)
 have lm:(z4g rows).length=rows.length:=by unfold z4g;simp
 have hm:∀r∈z4g rows,r.length=w+rows.length:=fun r hr'=>by
  obtain⟨k,hk,rfl⟩:=List.mem_map.mp hr'
  rw[List.length_append,z3u,hr _ (z1t (List.mem_range.mp hk))]
 obtain⟨S,eS,hS⟩:=s_g (P:=P) (rows:=z4g rows) hp p1 p2 (by intro z;rw[z] at lm;have:=congrArg List.length e0;simp at this lm;lia) hm (by lia) (by lia)
 refine⟨S,hS,y7q rfl ?_⟩
 delta g_q
 have nr:=z1z rows
 have nS:=z1z S
 refine z1o (d:=.int w) (by
  walk_at "evs"
  simp only[at0]
  simp only[z0n]
  walk_at "evs"
  rw[l0]) ?_
 refine z3l (ds:=(z4g rows).map rowD) ?_ ?_
 ·walk_at "evs"
  have le:(z6h 0 (rows.map rowD)).length<=100000:=by rw[y1h,List.length_map,List.length_range];lia
  walk_at "evs"
  rw[y1h,z1f (h:=fun k=>rowD (z0t rows k++z4m rows.length k)),z3t]
  ·rfl
  ·intro k hk
   have hk:=List.mem_range.mp hk
   have eo:=s_B (n:=rows.length) (x:=k) (by lia)
   have lk:=hr _ (z1t hk)
   have nn:=z0z (z0t rows k++z4m rows.length k)
   have ul:=z3u rows.length k
   have em:(z0t rows k).map D.int++(z4m rows.length k).map D.int=(z0t rows k++z4m rows.length k).map D.int:=by rw[List.map_append]
   simp only[z0n] at eo nn ⊢
   rw[show 0+k=k by lia]
   walk_at "evs"
   simp only[eo]
   walk_at "evs"
   rw[em]
   walk_at "evs"
 ·have lS:S.length<=100000:=by
   have hinc:(S.map z0k).Pairwise (·<·):=List.pairwise_map.mpr (hS.steps.pair.imp fun q=>q.1)
   have:∀(l:List Nat) (b:Nat),l.Pairwise (·<·)->(∀x∈l,b<=x/\x<w+rows.length)->b<=w+rows.length->l.length+b<=w+rows.length:=by
    intro l
    induction l with
    | nil=>intro b _ _ hb;simpa using hb
    | cons x l ih =>
      intro b hpw hx hb
      obtain⟨h1,h2⟩:=List.pairwise_cons.mp hpw
      have hx0:=hx x List.mem_cons_self
      have:=ih (x+1) h2 (fun y hy=>⟨h1 y hy,(hx y (List.mem_cons_of_mem _ hy)).2⟩) (by lia)
      rw[List.length_cons];lia
   have:=this (S.map z0k) 0 hinc (fun x hx=>by
    obtain⟨r,hr',rfl⟩:=List.mem_map.mp hx
    exact⟨Nat.zero_le _,(hS.steps.row r hr').2.2.1⟩) (Nat.zero_le _)
   rw[List.length_map] at this
   lia
  refine x4w ?_
  have hSl:(S.map rowD).length<=100000:=by rw[List.length_map];exact lS
  walk_at "evs"
  simp only[eS]
  walk_at "evs"
  rw[y6p (q:=fun r=>decide (w<=z0k r)) (h:=fun r=>rowD (r.drop w))]
  ·unfold lowS
   rw[z3t]
  ·intro r hr'
   have lr:=(hS.steps.row r hr').1
   have ah:=x4o (r:=r) (w:=w) (by lia)
   have nd:=z0z (r.drop w)
   simp only[z0n] at nd ⊢
   rw[List.map_drop] at nd ⊢
   walk_at "evs"
   rw[z9n,z6j,<-List.map_take]
   walk_at "evs"
   rw[ah]
   cases hd:decide (w<=z0k r) with
   | true=>walk_at "evs"
   | false=>walk_at "evs"
theorem y7b{P:Int}{m:Nat}{s:List Int}(hs:s.length=m)(ho:onW P s)(hm:m<=1000):c_l [.int P,.int m,rowD s] = .ok (.bl true):=by
 refine z1p rfl ?_
 delta g_l
 have hl:(s.length:Int)=m:=by rw[hs]
 refine z5n (by simp only[z0n];walk_at "evs";simp only[hl];walk_at "evs") ?_
 refine x7c (ds:=s.map D.int) (fun Γ=>∃x3,Γ=[.ro (.int P),.ro (.int m),.ro (rowD s),x3]) (by simp only[z0n];walk_at "evs") ⟨_,rfl⟩ ?_ ?_
 ·rintro d hd Γ ⟨x3,rfl⟩
  obtain⟨z,hz,rfl⟩:=List.mem_map.mp hd
  have hz':=ho z hz
  have e1:decide (0<=z)=true:=decide_eq_true hz'.1
  have e2:decide (z<P)=true:=decide_eq_true hz'.2
  refine .nx (z8y ?_) ⟨_,rfl⟩
  walk_at "evs"
  simp only[e1,e2]
  walk_at "evs"
  rfl
 ·rintro Γ ⟨x3,rfl⟩
  rfl
section
variable {P c:Int}{r l:List Int}{w:Nat}
end
theorem z6d(f:Nat->Int):∀n,sumN f (n+1)=f 0+sumN (fun k=>f (k+1)) n
 | 0=>by simp[sumN]
 | n+1=>by rw[z1e,z6d f n,z1e];lia
theorem y3y(g:List Int)(rows:List (List Int))(c:Nat->Int)(i:Nat):sumW (g::rows) c i=c 0*vec g i+sumW rows (fun k=>c (k+1)) i:=by
 unfold sumW
 rw[List.length_cons,z6d]
 rfl
section
variable {P:Int}{w:Nat}{rows:List (List Int)}
theorem y4f{v:Nat->Int}(h:Span P rows v):∃c:Nat->Int,∀i,cg P (v i) (sumW rows c i):=by
 induction h with
 | zero z=>exact⟨fun _=>0,fun i=>(z i).trans (cg.of_eq (by unfold sumW;rw[z4o fun k _=>Int.zero_mul _]))⟩
 | @add u v' c0 r hm hu q ih =>
   obtain⟨c,hc⟩:=ih
   obtain⟨j,hj⟩:=List.getElem?_of_mem hm
   have hj':=(List.getElem?_eq_some_iff.mp hj).1
   have er:z0t rows j=r:=by unfold z0t;rw[hj];rfl
   refine⟨fun k=>c k+c0*(if k=j then 1 else 0),fun i=>?_⟩
   rw[y2p,z9z,y6x hj',er]
   exact(q i).trans ((hc i).add cg.refl)
theorem y4d{T:List (List Int)}(hT:Steps P w T):T.length<=w:=by
 have hinc:(T.map z0k).Pairwise (·<·):=List.pairwise_map.mpr (hT.pair.imp fun q=>q.1)
 have:∀(l:List Nat) (b:Nat),l.Pairwise (·<·)->(∀x∈l,b<=x/\x<w)->b<=w->l.length+b<=w:=by
  intro l
  induction l with
  | nil=>intro b _ _ hb;simpa using hb
  | cons x l ih =>
    intro b hpw hx hb
    obtain⟨h1,h2⟩:=List.pairwise_cons.mp hpw
    have hx0:=hx x List.mem_cons_self
    have:=ih (x+1) h2 (fun y hy=>⟨h1 y hy,(hx y (List.mem_cons_of_mem _ hy)).2⟩) (by lia)
    rw[List.length_cons];lia
 have:=this (T.map z0k) 0 hinc (fun x hx=>by
  obtain⟨r,hr',rfl⟩:=List.mem_map.mp hx
  exact⟨Nat.zero_le _,(hT.row r hr').2.2.1⟩) (Nat.zero_le _)
 rw[List.length_map] at this
 lia
theorem first_I{g:List Int}{T:List (List Int)}(hp:1<P)(hT:IdleOf P (g::rows) T)(sp:Span P rows (vec g)):∃t0 T',T=t0::T'/\vec t0 0=1:=by
 obtain⟨c,hc⟩:=y4f sp
 have hd:∀i,cg P (sumW (g::rows) (fun k=>if k=0 then -1 else c (k-1)) i) 0:=fun i=>by
  rw[y3y]
  have e:sumW rows (fun k=>(fun k=>if k=0 then -1 else c (k-1)) (k+1)) i=sumW rows c i:=by
   unfold sumW
   exact z0l fun k _=>by show(if k+1=0 then (-1:Int) else c (k+1-1))*_=_;rw[if_neg (by lia)];rfl
  rw[e,if_pos rfl]
  have:=(cg.refl (P:=P) (a:=-1*vec g i)).add (hc i).symm
  refine this.trans (cg.of_eq ?_)
  lia
 have s1:=hT.all _ hd
 obtain⟨r,hr,hz⟩:=y2g hT.steps s1 (p:=0) (fun i hi=>by lia) (by
  intro z
  rw[if_pos (by simp),if_pos rfl] at z
  have:=z.neg
  exact y0s hp (by simpa using this))
 cases T with
 | nil=>cases hr
 | cons t0 T' =>
   refine⟨t0,T',rfl,?_⟩
   obtain⟨h1,h2⟩:=List.pairwise_cons.mp hT.steps.pair
   rcases List.mem_cons.mp hr with rfl | hr'
   ·rw[<-hz];exact(hT.steps.row _ List.mem_cons_self).2.2.2
   ·have:=(h1 r hr').1;lia
theorem y7y{g t:List Int}(h:∀i,cg P (sumW (g::rows) (vec t) i) 0)(h0:vec t 0=1):∀i,cg P (vec g i) (sumW rows (vec (z2d P (t.drop 1) (-1))) i):=fun i=>by
 have e:=h i
 rw[y3y,h0,Int.one_mul] at e
 have e2:cg P (sumW rows (vec (z2d P (t.drop 1) (-1))) i) (sumW rows (fun k=>-1*vec t (k+1)) i):=y2o (fun k _=>by rw[z6a,z6m,Nat.add_comm 1 k];exact z5m) i
 rw[z9z] at e2
 have:=(e.add (cg.refl (a:=-1*sumW rows (fun k=>vec t (k+1)) i)))
 refine(cg.of_eq ?_).trans (this.trans ((cg.of_eq ?_).trans e2.symm))
 ·lia
 ·lia
end
theorem s_m{P:Int}{w:Nat}{rows:List (List Int)}{g:List Int}(hp:z2k P=false)(p1:3<=P)(p2:P<=9973)(hr:∀r∈rows,r.length=w)(hg:g.length=w)(hw:w<=40)(hn:rows.length<=40) :
 (∃ws:List Int,c_m [.int P,.lst (rows.map rowD),rowD g] = .ok (rowD ws)/\ws.length=rows.length/\onW P ws/\∀i,cg P (vec g i) (sumW rows (vec ws) i))∨(c_m [.int P,.lst (rows.map rowD),rowD g] = .ok .non/\¬Span P rows (vec g)):=by
 have p0:1<P:=by lia
 have hr':∀r∈g::rows,r.length=w:=fun r h=>(List.mem_cons.mp h).elim (fun z=>by rw[z];exact hg) (hr r)
 obtain⟨S,hS,eS⟩:=s_q (P:=P) (rows:=g::rows) hp p1 p2 (by simp) hr' (by lia) (by simp;lia)
 have hT:=y6j hr' hS
 generalize lowS w S=T at eS hT
 have nr:=z1z rows
 have nT:=z1z T
 have n1:D.noLs [rowD g]=true:=z4y [g]
 have start:∀u r,u [.ro (.int P),.ro (.lst (rows.map rowD)),.ro (rowD g),.own (T.map rowD)]=r->gSt (z2s 3 (z4v c_q (gCons (gV 0) (gCons (gL (gCat (gLst (gCons (gV 2) gNil)) (z6w (gV 1)))) gNil)))) u [.ro (.int P),.ro (.lst (rows.map rowD)),.ro (rowD g),.no]=r:=fun u r h=>by
  refine z3l (ds:=T.map rowD) ?_ h
  have ll:1+rows.length<=1000:=by lia
  simp only[List.map_cons] at eS
  walk_at "evs"
  try simp only[List.cons_append,List.nil_append,eS]
  walk_at "evs"
 by_cases hc:∃t0 T',T=t0::T'/\vec t0 0=1
 ·obtain⟨t0,T',rfl,h0⟩:=hc
  obtain⟨h1,h2,h3,h4⟩:=hT.steps.row t0 List.mem_cons_self
  rw[List.length_cons] at h1
  have at0:atI (rowD t0::T'.map rowD) 0=some (rowD t0):=z3c 0
  have va:=y0i (r:=t0) (p:=0) (by lia)
  rw[h0] at va
  have va0:atI (t0.map D.int) (0:Int)=some (.int 1):=va
  have et:=s_F (P:=P) (c:=-1) (r:=t0.drop 1) (by lia) (z1h (by lia)) (by rw[List.length_drop];lia)
  refine .inl ⟨z2d P (t0.drop 1) (-1),z1p rfl ?_,by rw[z6b,List.length_drop];lia,z8j (by lia),y7y (hT.idle t0 List.mem_cons_self) h0⟩
  delta g_m
  refine start _ _ (z5n ?_ (z2y ?_))
  ·walk_at "evs"
   try simp only[at0]
   simp only[z0n,List.isEmpty_cons]
   walk_at "evs"
   simp only[va0]
   walk_at "evs"
   try rfl
  ·have e1:cutL (t0.map D.int) (some 1) none=(t0.drop 1).map D.int:=by
    have:=z6j (t0.map D.int) 1
    rw[<-List.map_drop] at this
    exact this
   simp only[z0n] at et ⊢
   walk_at "evs"
   try simp only[at0]
   try simp only[z0n]
   walk_at "evs"
   rw[e1]
   walk_at "evs"
   try simp only[et]
 ·refine .inr ⟨z1p rfl ?_,fun sp=>hc (first_I p0 hT sp)⟩
  delta g_m
  refine start _ _ (y9i (z9v ?_ (z2y (by walk_at "evs"))))
  cases T with
  | nil=>walk_at "evs";rfl
  | cons t0 T' =>
    obtain⟨h1,h2,h3,h4⟩:=hT.steps.row t0 List.mem_cons_self
    rw[List.length_cons] at h1
    have at0:atI (rowD t0::T'.map rowD) 0=some (rowD t0):=z3c 0
    have va:=y0i (r:=t0) (p:=0) (by lia)
    have h0:vec t0 0=0:=by
     rcases Nat.eq_zero_or_pos (z0k t0) with z | z
     ·exact absurd ⟨t0,T',rfl,by rw[<-z];exact h4⟩ hc
     ·exact z2q z
    rw[h0] at va
    have va0:atI (t0.map D.int) (0:Int)=some (.int 0):=va
    walk_at "evs"
    try simp only[at0]
    simp only[z0n,List.isEmpty_cons]
    walk_at "evs"
    simp only[va0]
    walk_at "evs"
    try rfl
theorem x7b{i k:Nat}{gb u:G->R Fl}{Γ:G}{ds:List D}{r:R Fl}(ho:Γ[i]? = some (.own ds))(I:G->Prop)(h0:I (Γ.set i (.ro (.lst ds))))(hs:gSeq (gVr i) (Γ.set i (.ro (.lst ds))) = .ok ds)(hq:∀d∈ds,∀Γ,I Γ->Ends (gb (Γ.set k (.ro d))) I)(h:∀Γ',I Γ'->u Γ'=r):gSt (gFrz i (gFor k (gSeq (gVr i)) gb)) u Γ=r:=by
 have e:frzAt i Γ=Γ.set i (.ro (.lst ds)):=by unfold frzAt;rw[ho]
 obtain⟨Γ',e1,h1⟩:=forK I h0 hq
 refine z8i ?_ (h Γ' h1)
 unfold gFrz
 rw[e]
 exact x1h hs e1
noncomputable section
noncomputable def g_a:G->R Fl :=
 (gRet (z0h c_on (gCons (gV 0) (gCons (z0h dSum (gCons (gL (z5u (gZip (gV 1) (gV 2)) (z9w (gNL (gBin dMul (gV 0) (gV 1)))))) gNil)) gNil))))
noncomputable def c_a:List D->R D:=fnC 3 3 g_a
noncomputable def g_c:G->R Fl :=
 (gSt (z2s 3 (z2t (z5q (z0h dLen (gCons (gV 2) gNil))) (fElt (gNL (z0h z2h (gCons (gL (z2t (z5z (gV 2)) (fElt (gNL (gBin dIx (gV 0) (gV 1)))))) gNil))))))
 (gSt (gFor 4 (gSeq (gL (z4v c_q (gCons (gV 0) (gCons (gV 3) gNil)))))
 (gSt (gSet 5 (gNL (z0h c_a (gCons (gV 0) (gCons (gV 4) (gCons (gV 2) gNil))))))
 (gIfS (gT (gBin dNe (gV 5) (gC (.int 0)))) (gRet (z0h c_F (gCons (gV 0) (gCons (gV 4) (gCons (z0h c_K (gCons (gV 0) (gCons (gV 5) gNil))) gNil))))) z2r)))
 (gRet (gC .non))))
noncomputable def c_c:List D->R D:=fnC 3 6 g_c
noncomputable def g_A:G->R Fl :=
 (gSt (gSet 3 (gNL (z0h c_m (gCons (gV 0) (gCons (gV 1) (gCons (gV 2) gNil))))))
 (gSt (gIfS (gT (gBin y9a (gV 3) (gC .non))) (gRet (gTup (gCons (gC (.str "sum")) (gCons (gV 3) gNil)))) z2r)
 (gRet (gTup (gCons (gC (.str "shut")) (gCons (z0h c_c (gCons (gV 0) (gCons (gV 1) (gCons (gV 2) gNil)))) gNil))))))
noncomputable def c_A:List D->R D:=fnC 3 4 g_A
end
noncomputable def skp(i0 i:Nat):Nat:=if i<i0 then i else i+1
theorem y4b(f:Nat->Int):∀{n i0:Nat},i0<=n->sumN f (n+1)=f i0+sumN (fun i=>f (skp i0 i)) n
 | 0,i0,h=>by
   have:i0=0:=by lia
   subst this
   simp[sumN]
 | n+1,i0,h=>by
   by_cases e:i0=n+1
   ·subst e
    rw[z1e,z0l (f:=fun i=>f (skp (n+1) i)) (g:=f) fun i hi=>by unfold skp;rw[if_pos hi]]
    lia
   ·rw[z1e,y4b f (n:=n) (i0:=i0) (by lia),z1e (fun i=>f (skp i0 i))]
    have:skp i0 n=n+1:=by unfold skp;rw[if_neg (by lia)]
    rw[this]
    lia
theorem y2d{P a:Int}(hp:z2k P=false)(p1:3<=P)(p2:P<=9973)(h:¬cg P a 0):∃b:Int,cg P (b*a) 1:=by
 have hm:a%P≠0:=fun z=>h (by unfold cg;rw[z,Int.zero_emod])
 obtain⟨b,_,_,_,e⟩:=(s_K (n:=a) hp p1 p2).2 hm
 exact⟨b,by unfold cg;rw[e,Int.emod_eq_of_lt (by lia) (by lia)]⟩
theorem x3z{P:Int}(hp:z2k P=false)(p1:3<=P)(p2:P<=9973):∀(m n:Nat) (A:Nat->Nat->Int),m<n->∃c:Nat->Int,(∃i,i<n/\¬cg P (c i) 0)/\∀j,j<m->cg P (sumN (fun i=>c i*A i j) n) 0
 | 0,n,A,h=>⟨fun _=>1,⟨0,h,y0s (by lia)⟩,fun j hj=>by lia⟩
 | m+1,n,A,h=>by
   by_cases hz:∀i,i<n->cg P (A i m) 0
   ·obtain⟨c,h1,h2⟩:=x3z hp p1 p2 m n A (by lia)
    refine⟨c,h1,fun j hj=>?_⟩
    by_cases e:j=m
    ·subst e
     have:cg P (sumN (fun i=>c i*A i j) n) (sumN (fun _=>0) n):=cg.sumN fun i hi=>by
      have:=(cg.refl (P:=P) (a:=c i)).mul (hz i hi)
      rw[Int.mul_zero] at this;exact this
     rw[z4i] at this
     exact this
    ·exact h2 j (by lia)
   ·obtain⟨i0,hi0,hne⟩:∃i0,i0<n/\¬cg P (A i0 m) 0:=Classical.byContradiction fun q=>hz fun i hi=>Classical.byContradiction fun z=>q ⟨i,hi,z⟩
    obtain⟨b,hb⟩:=y2d hp p1 p2 hne
    obtain⟨n',rfl⟩:∃n',n=n'+1:=⟨n-1,by lia⟩
    obtain⟨c,⟨i1,hi1,hc1⟩,h2⟩:=x3z hp p1 p2 m n' (fun i j=>A (skp i0 i) j-A (skp i0 i) m*(b*A i0 j)) (by lia)
    let S:Int:=sumN (fun i=>c i*A (skp i0 i) m) n'
    let d:Nat->Int:=fun i=>if i=i0 then -(b*S) else if i<i0 then c i else c (i-1)
    have dsk:∀i,d (skp i0 i)=c i:=fun i=>by
     show(if skp i0 i=i0 then _ else if skp i0 i<i0 then _ else _)=_
     unfold skp
     by_cases q:i<i0
     ·rw[if_pos q,if_neg (by lia),if_pos q]
     ·rw[if_neg q,if_neg (by lia),if_neg (by lia),show i+1-1=i by lia]
    have d0:d i0 = -(b*S):=if_pos rfl
    refine⟨d,⟨skp i0 i1,by unfold skp;split<;>lia,by rw[dsk];exact hc1⟩,fun j hj=>?_⟩
    rw[y4b _ (i0:=i0) (by lia),d0,z0l (f:=fun i=>d (skp i0 i)*A (skp i0 i) j) (g:=fun i=>c i*A (skp i0 i) j) fun i _=>by rw[dsk]]
    by_cases e:j=m
    ·subst e
     show cg P (-(b*S)*A i0 j+S) 0
     have e1:-(b*S)*A i0 j+S=S-S*(b*A i0 j):=by
      rw[Int.neg_mul,Int.mul_comm b S,Int.mul_assoc];lia
     rw[e1]
     have:=(cg.refl (P:=P) (a:=S)).sub ((cg.refl (a:=S)).mul hb)
     rw[Int.mul_one,Int.sub_self] at this
     exact this
    ·have q:=h2 j (by lia)
     have e1:sumN (fun i=>c i*(A (skp i0 i) j-A (skp i0 i) m*(b*A i0 j))) n'=sumN (fun i=>c i*A (skp i0 i) j) n'+(-(b*A i0 j))*S:=by
      show _=_+_*sumN (fun i=>c i*A (skp i0 i) m) n'
      rw[<-z3n,<-z4x]
      refine z0l fun i _=>?_
      rw[Int.mul_sub,<-Int.mul_assoc,Int.neg_mul,Int.mul_comm (b*A i0 j)]
      lia
     rw[e1] at q
     refine(cg.of_eq ?_).trans q
     have:-(b*S)*A i0 j = -(b*A i0 j)*S:=by
      rw[Int.neg_mul,Int.neg_mul,Int.mul_assoc,Int.mul_assoc,Int.mul_comm S]
     rw[this]
     lia
section
variable {P:Int}{w:Nat}{rows S:List (List Int)}
theorem Span.mem_sumN{S:List (List Int)}(d:Nat->Int):Span P S (fun i=>sumN (fun k=>d k*vec (z0t S k) i) S.length):=y0b d S.length (Nat.le_refl _)
theorem x3c(hS:Steps P w S){j k:Nat}(hj:j<S.length)(hk:k<S.length):vec (z0t S k) (z0k (z0t S j))=if k=j then 1 else 0:=by
 by_cases e:k=j
 ·subst e;rw[if_pos rfl];exact(hS.row _ (z1t hk)).2.2.2
 ·rw[if_neg e]
  refine z7i hS (z1t hk) (z1t hj) fun z=>e ?_
  have ak:z0t S k=S[k]:=by unfold z0t;rw[List.getElem?_eq_getElem hk];rfl
  have aj:z0t S j=S[j]:=by unfold z0t;rw[List.getElem?_eq_getElem hj];rfl
  rw[ak,aj] at z
  have pw:=List.pairwise_iff_getElem.mp hS.pair
  rcases Nat.lt_trichotomy k j with q | q | q
  ·have:=(pw k j hk hj q).1;lia
  ·exact q
  ·have:=(pw j k hj hk q).1;lia
theorem y6o(hp:z2k P=false)(p1:3<=P)(p2:P<=9973)(hr:∀r∈rows,r.length=w)(hS:StepsOf P (w+rows.length) (z4g rows) S):S.length=rows.length:=by
 have lm:(z4g rows).length=rows.length:=by unfold z4g;simp
 have ra:∀k,k<rows.length->z0t (z4g rows) k=z0t rows k++z4m rows.length k:=fun k hk=>by
  unfold z4g z0t
  rw[List.getElem?_map,List.getElem?_range hk]
  rfl
 have hi:∀(c:Nat->Int) (k:Nat),k<rows.length->sumN (fun i=>c i*vec (z0t (z4g rows) i) (w+k)) rows.length=c k:=fun c k hk=>by
  rw[z0l (g:=fun i=>c i*(if k=i then 1 else 0)) fun i hi=>by rw[ra i hi,y6f hr hi hk]]
  rw[z2l hk fun i _ hne=>by rw[if_neg (Ne.symm hne),Int.mul_zero],if_pos rfl,Int.mul_one]
 rcases Nat.lt_trichotomy S.length rows.length with z | z | z
 ·exfalso
  obtain⟨c,⟨i,hi1,hne⟩,hc⟩:=x3z hp p1 p2 S.length rows.length (fun i j=>vec (z0t (z4g rows) i) (z0k (z0t S j))) z
  have sp:=hS.span (Span.mem_sumN (P:=P) (S:=z4g rows) c)
  rw[lm] at sp
  have zero:∀p,cg P (sumN (fun k=>c k*vec (z0t (z4g rows) k) p) rows.length) 0:=fun p=>by
   refine(z9b hS.steps sp p).trans ?_
   have:cg P (comb S (fun i=>sumN (fun k=>c k*vec (z0t (z4g rows) k) i) rows.length) p) (S.map fun _=>(0:Int)).sum:=y5f fun r hr'=>by
    obtain⟨j,hj⟩:=List.getElem?_of_mem hr'
    have hj':=(List.getElem?_eq_some_iff.mp hj).1
    have er:z0t S j=r:=by unfold z0t;rw[hj];rfl
    have:=hc j hj'
    rw[er] at this
    have:=this.mul (cg.refl (a:=vec r p))
    rw[Int.zero_mul] at this
    exact this
   rw[z5s (f:=fun _:List Int=>(0:Int)) fun _ _=>rfl] at this
   exact this
  have:=zero (w+i)
  rw[hi c i hi1] at this
  exact hne this
 ·exact z
 ·exfalso
  obtain⟨d,⟨j,hj,hne⟩,hd⟩:=x3z hp p1 p2 rows.length S.length (fun j k=>vec (z0t S j) (w+k)) z
  have sp1:=Span.mem_sumN (P:=P) (S:=S) d
  have sp2:Span P (z4g rows) (fun i=>sumN (fun k=>d k*vec (z0t S k) i) S.length):=Span.trans hS.ofS sp1
  have lowz:∀i,i<w->cg P (sumN (fun k=>d k*vec (z0t S k) i) S.length) 0:=fun i hi'=>by
   refine(y4t hr sp2 i hi').trans ?_
   have:cg P (sumW rows (fun k=>sumN (fun m=>d m*vec (z0t S m) (w+k)) S.length) i) (sumW rows (fun _=>0) i):=y2o (fun k hk=>hd k hk) i
   refine this.trans (cg.of_eq ?_)
   unfold sumW
   exact z4o fun k _=>Int.zero_mul _
  have lj:=(hS.steps.row _ (z1t hj)).2.2.1
  have ev:sumN (fun k=>d k*vec (z0t S k) (z0k (z0t S j))) S.length=d j:=by
   rw[z0l (g:=fun k=>d k*(if k=j then 1 else 0)) fun k hk=>by rw[x3c hS.steps hj hk]]
   rw[z2l hj fun k _ hne'=>by rw[if_neg hne',Int.mul_zero],if_pos rfl,Int.mul_one]
  refine hne ?_
  rw[<-ev]
  rcases Nat.lt_or_ge (z0k (z0t S j)) w with q | q
  ·exact lowz _ q
  ·have:=hd (z0k (z0t S j)-w) (by lia)
   rw[show w+(z0k (z0t S j)-w)=z0k (z0t S j) by lia] at this
   exact this
noncomputable def x6q(w:Nat)(S:List (List Int)):List (List Int):=(S.filter fun r=>!decide (w<=z0k r)).map fun r=>r.take w
theorem z6l(r:List Int)(w i:Nat):vec (r.take w) i=if i<w then vec r i else 0:=by
 unfold vec
 by_cases h:i<w
 ·rw[List.getElem?_take_of_lt h,if_pos h]
 ·rw[List.getElem?_take_eq_none (by lia),if_neg h];rfl
theorem y4g{v:Nat->Int}(h:Span P S v):Span P (S.map fun r=>r.take w) (fun i=>if i<w then v i else 0):=by
 induction h with
 | zero z =>
   refine .zero fun i=>?_
   split
   ·exact z i
   ·exact cg.refl
 | @add u v' c r hm hu q ih =>
   refine .add (c:=c) (List.mem_map.mpr ⟨r,hm,rfl⟩) ih fun i=>?_
   rw[z6l]
   by_cases h:i<w
   ·rw[if_pos h,if_pos h,if_pos h];exact q i
   ·rw[if_neg h,if_neg h,if_neg h];exact cg.of_eq (by lia)
theorem y0x{r:List Int}(h:z0k r<w)(hl:z0k r<r.length):z0k (r.take w)=z0k r:=by
 refine y3h (fun i hi=>?_) ?_
 ·rw[z6l];split
  ·exact z2q hi
  ·rfl
 ·rw[z6l,if_pos h];exact y3i hl
theorem y8f(hr:∀r∈rows,r.length=w)(hS:StepsOf P (w+rows.length) (z4g rows) S):StepsOf P w rows (x6q w S):=by
 have hrow:=hS.steps.row
 have low:∀r,(!decide (w<=z0k r))=true->z0k r<w:=fun r h=>by
  have:decide (w<=z0k r)=false:=by simpa using h
  have:=of_decide_eq_false this
  lia
 have tm:∀k,k<rows.length->(z0t rows k++z4m rows.length k).take w=z0t rows k:=fun k hk=>by
  rw[List.take_append_of_le_length (by rw[hr _ (z1t hk)];exact Nat.le_refl _),List.take_of_length_le (by rw[hr _ (z1t hk)];exact Nat.le_refl _)]
 refine⟨⟨fun t ht=>?_,?_⟩,fun t ht=>?_,fun r hr'=>?_⟩
 ·obtain⟨r,hr',rfl⟩:=List.mem_map.mp ht
  obtain⟨hm,hd⟩:=List.mem_filter.mp hr'
  obtain⟨h1,h2,h3,h4⟩:=hrow r hm
  have hd:=low r hd
  have el:=y0x hd (by lia)
  refine⟨by rw[List.length_take];lia,fun n hn=>h2 n (List.mem_of_mem_take hn),by rw[el];exact hd,?_⟩
  rw[el,z6l,if_pos hd];exact h4
 ·refine List.pairwise_map.mpr ((hS.steps.pair.sublist List.filter_sublist).imp_of_mem fun {r r'} hm hm' q=>?_)
  obtain⟨m1,d1⟩:=List.mem_filter.mp hm
  obtain⟨m2,d2⟩:=List.mem_filter.mp hm'
  have e1:=y0x (low r d1) (by have:=hrow r m1;lia)
  have e2:=y0x (low r' d2) (by have:=hrow r' m2;lia)
  rw[e1,e2,z6l,if_pos (low r' d2)]
  exact q
 ·obtain⟨r,hr',rfl⟩:=List.mem_map.mp ht
  obtain⟨hm,hd⟩:=List.mem_filter.mp hr'
  have sp:=y4g (w:=w) (hS.ofS r hm)
  refine Span.trans (fun q hq=>?_) (sp.cong fun i=>by rw[z6l];exact cg.refl)
  obtain⟨m,hm',rfl⟩:=List.mem_map.mp hq
  obtain⟨k,hk,rfl⟩:=List.mem_map.mp hm'
  rw[tm k (List.mem_range.mp hk)]
  exact .of_mem (z1t (List.mem_range.mp hk))
 ·obtain⟨k,hk⟩:=List.getElem?_of_mem hr'
  have hk':=(List.getElem?_eq_some_iff.mp hk).1
  have er:z0t rows k=r:=by unfold z0t;rw[hk];rfl
  have mm:z0t rows k++z4m rows.length k∈z4g rows:=List.mem_map.mpr ⟨k,List.mem_range.mpr hk',rfl⟩
  have sp:=y4g (w:=w) (hS.all _ mm)
  refine Span.trans (fun q hq=>?_) (sp.cong fun i=>?_)
  ·obtain⟨s,hs,rfl⟩:=List.mem_map.mp hq
   by_cases hd:w<=z0k s
   ·refine .zero fun i=>cg.of_eq ?_
    rw[z6l]
    split
    ·exact z2q (by lia)
    ·rfl
   ·exact .of_mem (List.mem_map.mpr ⟨s,List.mem_filter.mpr ⟨hs,by simp[hd]⟩,rfl⟩)
  ·by_cases h:i<w
   ·rw[if_pos h,y6e hr hk' h,er];exact cg.refl
   ·rw[if_neg h]
    refine cg.of_eq ?_
    unfold vec
    rw[List.getElem?_eq_none (by rw[hr r hr'];lia)];rfl
theorem y1g{α:Type}(q:α->Bool):∀l:List α,(l.filter q).length+(l.filter fun a=>!q a).length=l.length
 | []=>rfl
 | a::l=>by
   have:=y1g q l
   cases e:q a with
   | true=>rw[List.filter_cons_of_pos e,List.filter_cons_of_neg (by simp[e])];simp;lia
   | false=>rw[List.filter_cons_of_neg (by simp[e]),List.filter_cons_of_pos (by simp[e])];simp;lia
theorem count_I(hp:z2k P=false)(p1:3<=P)(p2:P<=9973)(hr:∀r∈rows,r.length=w)(hS:StepsOf P (w+rows.length) (z4g rows) S){T:List (List Int)}(hT:StepsOf P w rows T):(lowS w S).length+T.length=rows.length:=by
 have e:T=x6q w S:=hT.unique (by lia) (y8f hr hS)
 rw[e,<-y6o hp p1 p2 hr hS]
 unfold lowS x6q
 rw[List.length_map,List.length_map]
 exact y1g (fun r=>decide (w<=z0k r)) S
end
theorem y2f{gb:G->R Fl}{i:Nat}{I:G->Prop}{A B:D->Prop}:∀{ds:List D} {Γ:G},I Γ->(∀d∈ds,∀Γ,I Γ->(A d/\∃Γ',gb (Γ.set i (.ro d)) = .ok (.nx Γ')/\I Γ')∨∃v,gb (Γ.set i (.ro d)) = .ok (.rt v)/\B v)->((∃Γ',z3k gb i ds Γ = .ok (.nx Γ')/\I Γ')/\∀d∈ds,A d)∨∃v,z3k gb i ds Γ = .ok (.rt v)/\B v
 | [],Γ,h,_=>.inl ⟨⟨Γ,rfl,h⟩,fun d hd=>by cases hd⟩
 | d::ds,Γ,h,q=>by
   rw[z7v]
   rcases q d List.mem_cons_self Γ h with ⟨ha,Γ',e,h'⟩ | ⟨v,e,h'⟩
   ·rw[e]
    rcases y2f h' fun d' hd=>q d' (List.mem_cons_of_mem _ hd) with ⟨z1,z2⟩ | z
    ·refine .inl ⟨z1,fun d' hd=>?_⟩
     rcases List.mem_cons.mp hd with rfl | hd
     ·exact ha
     ·exact z2 d' hd
    ·exact .inr z
   ·rw[e];exact .inr ⟨v,rfl,h'⟩
noncomputable def dotZ(a b:List Int):Int:=((a.zip b).map fun p=>p.1*p.2).sum
theorem z6i:∀{a b:List Int},a.length=b.length->dotZ a b=sumN (fun k=>vec a k*vec b k) a.length
 | [],[],_=>rfl
 | [],_::_,h=>by simp at h
 | _::_,[],h=>by simp at h
 | x::a,y::b,h=>by
   have ih:=z6i (a:=a) (b:=b) (by simpa using h)
   rw[List.length_cons,z6d]
   unfold dotZ at ih ⊢
   rw[List.zip_cons_cons,List.map_cons,List.sum_cons,ih]
   rfl
section
variable {P:Int}{w:Nat}{rows S T:List (List Int)}
noncomputable def colZ(rows:List (List Int))(k:Nat):List Int:=rows.map fun r=>vec r k
noncomputable def z8h(rows:List (List Int))(w:Nat):List (List Int):=(List.range w).map (colZ rows)
theorem z4q:(z8h rows w).length=w:=by unfold z8h;simp
theorem x8y{k i:Nat}(hk:k<w):vec (z0t (z8h rows w) k) i=vec (z0t rows i) k:=by
 unfold z8h z0t
 rw[List.getElem?_map,List.getElem?_range hk]
 show vec (colZ rows k) i=_
 unfold colZ vec
 rw[List.getElem?_map]
 cases rows[i]? with
 | none=>rfl
 | some r=>rfl
theorem y3z(c:Nat->Int)(i:Nat):sumW (z8h rows w) c i=sumN (fun k=>c k*vec (z0t rows i) k) w:=by
 unfold sumW
 rw[z4q]
 exact z0l fun k hk=>by rw[x8y hk]
noncomputable def x1r(S:List (List Int))(p:Nat)(k:Nat):Int:=(if k=p then 1 else 0)-(S.map fun r=>vec r p*(if k=z0k r then 1 else 0)).sum
theorem y2a{v:Nat->Int}{p:Nat}:∀{l:List (List Int)},(∀r∈l,z0k r<w)->sumN (fun k=>(l.map fun r=>vec r p*(if k=z0k r then 1 else 0)).sum*v k) w=comb l v p
 | [],_=>by rw[z4o fun k _=>by simp];rfl
 | r::l,h=>by
   have ih:=y2a (v:=v) (p:=p) (l:=l) fun r' hr'=>h r' (List.mem_cons_of_mem _ hr')
   have e:∀k,((r::l).map fun r=>vec r p*(if k=z0k r then 1 else 0)).sum*v k=vec r p*((if k=z0k r then 1 else 0)*v k)+(l.map fun r=>vec r p*(if k=z0k r then 1 else 0)).sum*v k:=fun k=>by
    rw[List.map_cons,List.sum_cons,Int.add_mul,Int.mul_assoc]
   rw[z0l fun k _=>e k,z4x,z3n,ih,z2l (h r List.mem_cons_self) fun k _ hk=>by rw[if_neg hk,Int.zero_mul],if_pos rfl,Int.one_mul]
   unfold comb
   rw[List.map_cons,List.sum_cons,Int.mul_comm (vec r p)]
theorem y7p{v:Nat->Int}{p:Nat}(hp:p<w)(h:∀r∈S,z0k r<w):sumN (fun k=>x1r S p k*v k) w=v p-comb S v p:=by
 have e:∀k,x1r S p k*v k=(if k=p then 1 else 0)*v k + -1*((S.map fun r=>vec r p*(if k=z0k r then 1 else 0)).sum*v k):=fun k=>by
  unfold x1r
  rw[Int.sub_mul];lia
 rw[z0l fun k _=>e k,z4x,z3n,y2a h,z2l hp fun k _ hk=>by rw[if_neg hk,Int.zero_mul],if_pos rfl,Int.one_mul]
 lia
theorem y6z{u g:Nat->Int}(h:Span P T u)(ht:∀t∈T,cg P (sumN (fun k=>vec t k*g k) w) 0):cg P (sumN (fun k=>u k*g k) w) 0:=by
 induction h with
 | zero z =>
   have:cg P (sumN (fun k=>_*g k) w) (sumN (fun _=>0) w):=cg.sumN fun k _=>by
    have:=(z k).mul (cg.refl (a:=g k))
    rw[Int.zero_mul] at this;exact this
   rw[z4i] at this
   exact this
 | @add u v c r hm hu q ih =>
   have e:cg P (sumN (fun k=>v k*g k) w) (sumN (fun k=>u k*g k+c*(vec r k*g k)) w):=cg.sumN fun k _=>by
    have:=(q k).mul (cg.refl (a:=g k))
    rw[Int.add_mul,Int.mul_assoc] at this;exact this
   rw[z4x,z3n] at e
   have:=ih.add ((cg.refl (P:=P) (a:=c)).mul (ht r hm))
   rw[Int.mul_zero] at this
   exact e.trans this
theorem x0e{g:List Int}(hS:StepsOf P w rows S)(hr:∀r∈rows,r.length=w)(hg:g.length=w)(hT:IdleOf P (z8h rows w) T)(hn:¬Span P rows (vec g)):∃t∈T,¬cg P (sumN (fun k=>vec t k*vec g k) w) 0:=by
 refine Classical.byContradiction fun hc=>hn ?_
 have ht:∀t∈T,cg P (sumN (fun k=>vec t k*vec g k) w) 0:=fun t h=>Classical.byContradiction fun z=>hc ⟨t,h,z⟩
 have hl:∀r∈S,z0k r<w:=fun r h=>(hS.steps.row r h).2.2.1
 have key:∀p,cg P (vec g p) (comb S (vec g) p):=fun p=>by
  rcases Nat.lt_or_ge p w with hp | hp
  ·have h1:=hT.all (x1r S p) fun i=>by
    rw[y3z,y7p hp hl]
    by_cases hi:i<rows.length
    ·have:=z9b hS.steps (hS.all _ (z1t hi)) p
     have:=this.sub (cg.refl (a:=comb S (vec (z0t rows i)) p))
     rw[Int.sub_self] at this
     exact this
    ·have e:z0t rows i=[]:=by unfold z0t;rw[List.getElem?_eq_none (by lia)];rfl
     have e0:∀k,vec (z0t rows i) k=0:=fun k=>by rw[e];rfl
     refine cg.of_eq ?_
     unfold comb
     rw[e0,z5s fun r _=>by rw[e0,Int.zero_mul]]
     rfl
   have h2:=y6z (g:=vec g) (w:=w) h1 ht
   rw[z4q,z0l (g:=fun k=>x1r S p k*vec g k) fun k hk=>by rw[if_pos hk],y7p hp hl] at h2
   have:=h2.add (cg.refl (a:=comb S (vec g) p))
   rw[Int.zero_add,Int.sub_add_cancel] at this
   exact this
  ·refine cg.of_eq ?_
   unfold comb
   rw[show vec g p=0 by unfold vec;rw[List.getElem?_eq_none (by lia)];rfl,z5s fun r h=>by
    rw[show vec r p=0 by unfold vec;rw[List.getElem?_eq_none (by rw[(hS.steps.row r h).1];exact hp)];rfl,Int.mul_zero]]
 have sp:Span P S (vec g):=(y0j (S:=S) (fun r=>vec g (z0k r)) S fun _ h=>h).cong key
 exact Span.trans hS.ofS sp
end
theorem x9f{P:Int}{a b:List Int}(h:fits a)(hl:a.length<=1000):z5u (gZip (gV 1) (gV 2)) (z9w (gNL (gBin dMul (gV 0) (gV 1)))) [.ro (.int P),.ro (rowD a),.ro (rowD b)] = .ok (((a.zip b).map fun p=>p.1*p.2).map D.int):=by
 simp only[z0n]
 have hz:(zipD (a.map D.int) (b.map D.int)).length<=100000:=by rw[y0h];lia
 have n12:=And.intro (z1b a) (z1b b)
 walk_at "evs"
 rw[y2j (h:=fun x y=>x*y)]
 intro x hx y hy
 have fx:=z3o (j:=y) (h x hx)
 walk_at "evs"
theorem y8i{P:Int}{a b:List Int}(hp:0<P)(h:fits a)(hl:a.length<=1000):c_a [.int P,rowD a,rowD b] = .ok (.int (dotZ a b%P)):=by
 refine z1p rfl ?_
 delta g_a
 refine z2y ?_
 have e:=x9f (P:=P) (b:=b) h hl
 have eo:=s_on (P:=P) (n:=dotZ a b) hp
 have ls:((a.zip b).map fun p=>p.1*p.2).length<=1000:=by rw[List.length_map,List.length_zip];lia
 show(z0h c_on (gCons (gV 0) (gCons (z0h dSum (gCons (gL (z5u (gZip (gV 1) (gV 2)) (z9w (gNL (gBin dMul (gV 0) (gV 1)))))) gNil)) gNil))) [.ro (.int P),.ro (rowD a),.ro (rowD b)]=_
 simp only[z0h,gCons,gNil,gL]
 rw[e]
 walk_at "evs"
 rfl
theorem y8j{P:Int}{w:Nat}{rows:List (List Int)}{g:List Int}(hp:z2k P=false)(p1:3<=P)(p2:P<=9973)(hne:rows≠[])(hr:∀r∈rows,r.length=w)(hg:g.length=w)(w1:1<=w)(hw:w<=40)(hn:rows.length<=40)(hs:¬Span P rows (vec g)) :
 ∃s:List Int,c_c [.int P,.lst (rows.map rowD),rowD g] = .ok (rowD s)/\s.length=w/\onW P s/\(∀r∈rows,cg P (dotZ r s) 0)/\cg P (dotZ g s) 1:=by
 have p0:0<P:=by lia
 obtain⟨S0,_,hS0⟩:=s_g (P:=P) (w:=w) (rows:=rows) hp p1 p2 hne hr (by lia) (by lia)
 have cl:∀r∈z8h rows w,r.length=rows.length:=fun r h=>by
  unfold z8h at h
  obtain⟨k,_,rfl⟩:=List.mem_map.mp h
  unfold colZ;rw[List.length_map]
 have cne:z8h rows w≠[]:=by intro z;have:=z4q (rows:=rows) (w:=w);rw[z] at this;simp at this;lia
 obtain⟨S,hS,eS⟩:=s_q (P:=P) (w:=rows.length) (rows:=z8h rows w) hp p1 p2 cne cl (by lia) (by rw[z4q];lia)
 have hT:=y6j cl hS
 generalize lowS rows.length S=T at eS hT
 have hTs:=hT.steps
 rw[z4q] at hTs
 have nr:=z1z rows
 have nT:=z1z T
 have nC:=z1z (z8h rows w)
 obtain⟨t1,ht1,hd1⟩:=x0e hS0 hr hg hT hs
 have dots:∀t∈T,∀v:List Int,v.length=w->dotZ t v=sumN (fun k=>vec t k*vec v k) w:=fun t ht v hv=>by
  rw[z6i ((hTs.row t ht).1.trans hv.symm),(hTs.row t ht).1]
 have key:∃s:List Int,g_c [.ro (.int P),.ro (.lst (rows.map rowD)),.ro (rowD g),.no,.no,.no] = .ok (.rt (rowD s))/\s.length=w/\onW P s/\(∀r∈rows,cg P (dotZ r s) 0)/\cg P (dotZ g s) 1:=by
  delta g_c
  have loop:=y2f (i:=4) (gb:=(gSt (gSet 5 (gNL (z0h c_a (gCons (gV 0) (gCons (gV 4) (gCons (gV 2) gNil)))))) (gIfS (gT (gBin dNe (gV 5) (gC (.int 0)))) (gRet (z0h c_F (gCons (gV 0) (gCons (gV 4) (gCons (z0h c_K (gCons (gV 0) (gCons (gV 5) gNil))) gNil))))) z2r)))
   (I:=fun Γ=>∃x4 x5,Γ=[.ro (.int P),.ro (.lst (rows.map rowD)),.ro (rowD g),.own ((z8h rows w).map rowD),x4,x5])
   (A:=fun d=>∀t∈T,d=rowD t->cg P (dotZ t g) 0) (B:=fun v=>∃s:List Int,v=rowD s/\s.length=w/\onW P s/\(∀r∈rows,cg P (dotZ r s) 0)/\cg P (dotZ g s) 1)
   (ds:=T.map rowD) (Γ:=[.ro (.int P),.ro (.lst (rows.map rowD)),.ro (rowD g),.own ((z8h rows w).map rowD),.no,.no]) ⟨_,_,rfl⟩ (by
     rintro d hd Γ ⟨x4,x5,rfl⟩
     obtain⟨t,ht,rfl⟩:=List.mem_map.mp hd
     obtain⟨l1,l2,l3,l4⟩:=hTs.row t ht
     have eb:=y8i (P:=P) (a:=t) (b:=g) p0 (l2.fits (by lia)) (by lia)
     by_cases hz:dotZ t g%P=0
     ·refine .inl ⟨fun t' _ e=>?_,_,z1o (d:=.int (dotZ t g%P)) (by walk_at "evs";simp only[eb];walk_at "evs") (z8y ?_),⟨_,_,rfl⟩⟩
      ·have:t'=t:=y2u e.symm
       rw[this]
       unfold cg
       rw[hz,Int.zero_emod]
      ·rw[hz]
       walk_at "evs"
       try rfl
     ·have hm:(dotZ t g%P)%P≠0:=by rw[Int.emod_emod_of_dvd _ (Int.dvd_refl P)];exact hz
      obtain⟨a,ea,a0,a1,a2⟩:=(s_K (n:=dotZ t g%P) hp p1 p2).2 hm
      have et:=s_F (P:=P) (c:=a) (r:=t) (by lia) (z1h (by lia)) (by lia)
      have bz:(!(dotZ t g%P==0))=true:=by simp[hz]
      have sl:(z2d P t a).length=w:=z6b.trans l1
      have sd:∀v:List Int,v.length=w->cg P (dotZ v (z2d P t a)) (a*dotZ t v):=fun v hv=>by
       rw[z6i (hv.trans sl.symm),hv,dots t ht v hv,<-z3n]
       refine cg.sumN fun k _=>?_
       rw[z6a]
       refine((cg.refl (a:=vec v k)).mul z5m).trans (cg.of_eq ?_)
       rw[<-Int.mul_assoc,Int.mul_comm (vec v k),Int.mul_assoc,Int.mul_comm (vec v k)]
      refine .inr ⟨rowD (z2d P t a),z1o (d:=.int (dotZ t g%P)) (by walk_at "evs";simp only[eb];walk_at "evs") (z9v ?_ (z2y ?_)),z2d P t a,rfl,sl,z8j p0,fun r hr'=>?_,?_⟩
      ·walk_at "evs"
       rw[bz]
      ·walk_at "evs"
       simp only[ea]
       walk_at "evs"
       exact et
      ·refine(sd r (hr r hr')).trans ?_
       obtain⟨j,hj⟩:=List.getElem?_of_mem hr'
       have er:z0t rows j=r:=by unfold z0t;rw[hj];rfl
       have:=hT.idle t ht j
       rw[y3z,er,<-dots t ht r (hr r hr')] at this
       have:=(cg.refl (P:=P) (a:=a)).mul this
       rw[Int.mul_zero] at this
       exact this
      ·refine(sd g hg).trans ?_
       have:cg P (a*dotZ t g) (a*(dotZ t g%P)):=(cg.refl (a:=a)).mul z5m.symm
       refine this.trans ?_
       unfold cg
       rw[a2,Int.emod_eq_of_lt (by lia) (by lia)])
  rcases loop with ⟨_,hA⟩ | ⟨v,e,s,rfl,q⟩
  ·exfalso
   have:=hA (rowD t1) (List.mem_map.mpr ⟨t1,ht1,rfl⟩) t1 ht1 rfl
   rw[dots t1 ht1 g hg] at this
   exact hd1 this
  ·refine⟨s,?_,q⟩
   refine z3l (ds:=(z8h rows w).map rowD) ?_ (y9i (x1h (ds:=T.map rowD) ?_ e))
   ·have hl2:((w:Int)-0).toNat=w:=by lia
    have gw:(w:Int)<4611686018427387904:=by lia
    simp only[z0n g]
    walk_at "evs"
    rw[hg]
    walk_at "evs"
    try simp only[Int.toNat_natCast]
    rw[z3b (h:=fun k=>rowD (colZ rows k))]
    ·unfold z8h
     rw[z3t]
    ·intro k hk
     have hln:(rows.map rowD).length<=100000:=by rw[List.length_map];lia
     have nk:=z0z (colZ rows k)
     walk_at "evs"
     rw[z1f (h:=fun r=>D.int (vec r k))]
     ·walk_at "evs"
      unfold colZ at nk ⊢
      simp only[z0n] at nk ⊢
      rw[z2n]
      walk_at "evs"
     ·intro r hr'
      have va:=y0i (r:=r) (p:=k) (by rw[hr r hr'];exact hk)
      simp only[z0n]
      walk_at "evs"
      simp only[Int.zero_add,va]
      walk_at "evs"
   ·walk_at "evs"
    simp only[eS]
    walk_at "evs"
 obtain⟨s,e,q⟩:=key
 exact⟨s,z1p rfl e,q⟩
theorem s_A{P:Int}{w:Nat}{rows:List (List Int)}{g:List Int}(hp:z2k P=false)(p1:3<=P)(p2:P<=9973)(hne:rows≠[])(hr:∀r∈rows,r.length=w)(hg:g.length=w)(w1:1<=w)(hw:w<=40)(hn:rows.length<=40) :
 (∃ws:List Int,c_A [.int P,.lst (rows.map rowD),rowD g] = .ok (.tup [.str "sum",rowD ws])/\ws.length=rows.length/\onW P ws/\∀i,cg P (vec g i) (sumW rows (vec ws) i)) ∨
 ∃s:List Int,c_A [.int P,.lst (rows.map rowD),rowD g] = .ok (.tup [.str "shut",rowD s])/\s.length=w/\onW P s/\(∀r∈rows,cg P (dotZ r s) 0)/\cg P (dotZ g s) 1/\¬Span P rows (vec g):=by
 rcases s_m hp p1 p2 hr hg (by lia) (by lia) with ⟨ws,e,h1,h2,h3⟩ | ⟨e,h⟩
 ·refine .inl ⟨ws,z1p rfl ?_,h1,h2,h3⟩
  delta g_A
  refine z1o (d:=rowD ws) (by walk_at "evs";simp only[e];walk_at "evs") (y9i (z9v (by simp only[z0n];walk_at "evs") (z2y (by walk_at "evs"))))
 ·obtain⟨s,es,q1,q2,q3,q4⟩:=y8j hp p1 p2 hne hr hg w1 hw hn h
  refine .inr ⟨s,z1p rfl ?_,q1,q2,q3,q4,h⟩
  delta g_A
  refine z1o (d:=.non) (by walk_at "evs";simp only[e];walk_at "evs") (z5n (by walk_at "evs";try rfl) (z2y (by walk_at "evs";simp only[es];walk_at "evs")))
noncomputable section
noncomputable def g_s:G->R Fl :=
 (gRet (gBin dAdd (z0h z2h (gCons (gV 0) gNil)) (gTup (gCons (gC (.int 1)) gNil))))
noncomputable def c_s:List D->R D:=fnC 1 1 g_s
noncomputable def g_y:G->R Fl :=
 (gRet (z0h c_A (gCons (gV 0) (gCons (gL (z2t (z5z (gV 1)) (fElt (gNL (z0h (noEr c_s) (gCons (gV 0) gNil)))))) (gCons (z0h c_s (gCons (gV 2) gNil)) gNil)))))
noncomputable def c_y:List D->R D:=fnC 3 3 g_y
noncomputable def g_L:G->R Fl :=
 (gSt (gSet 4 (gNL (z0h (c_v 12) (gCons (gV 0) (gCons (gV 1) (gCons (gV 2) gNil))))))
 (gSt (z2s 5 (gLst (gCons (gV 3) gNil)))
 (gSt (gSet 6 (gNL (z0h c_z (gCons (gV 0) (gCons (gV 4) (gCons (gV 3) gNil))))))
 (gSt (gSet 7 (gNL (z0h c_y (gCons (gV 0) (gCons (gV 5) (gCons (gV 6) gNil))))))
 (gSt (whGo (gT (gBin dEq (gBin dIx (gV 7) (gC (.int 0))) (gC (.str "shut")))) (gSt (gApp 5 (gNL (gV 6)))
 (gSt (gSet 6 (gNL (z0h c_z (gCons (gV 0) (gCons (gV 4) (gCons (gV 6) gNil))))))
 (gSet 7 (gNL (z0h c_y (gCons (gV 0) (gCons (gV 5) (gCons (gV 6) gNil)))))))) 10)
 (gRet (gTup (gCons (gV 5) (gCons (gBin dIx (gV 7) (gC (.int 1))) gNil)))))))))
noncomputable def c_L:List D->R D:=fnC 4 8 g_L
noncomputable def g_C:G->R Fl :=
 (gSt (gSet 5 (gBin dIx (y1f c_L (gCons (gVr 0) (gCons (gVr 1) (gCons (gVr 2) (gCons (gVr 3) gNil))))) (gC (.int 0))))
 (gRet (z0h c_y (gCons (gV 0) (gCons (gV 5) (gCons (gV 4) gNil))))))
noncomputable def c_C:List D->R D:=fnC 5 6 g_C
end
noncomputable section
noncomputable def g_f:G->R Fl :=
 (gSt (gIfS (gOr (gNot (gT (z0h c_l (gCons (gV 0) (gCons (z0h dLen (gCons (gV 2) gNil)) (gCons (gV 3) gNil)))))) (gT (gBin dNe (gBin dMod (z0h y6m (gCons (gV 3) gNil)) (gV 0)) (gC (.int 1))))) (gRet (gC (.bl false))) z2r)
 (gSt (gFor 5 (z5q (gV 1))
 (gIfS (gT (gBin dNe (gBin dMod (z0h dSum (gCons (gL (z5u (gZip (gV 3) (gV 2)) (z9w (gNL (gBin dMul (gV 0) (gBin dIx (gV 1) (gV 7))))))) gNil)) (gV 0)) (gBin dIx (gV 4) (gV 5)))) (gRet (gC (.bl false))) z2r))
 (gRet (gC (.bl true)))))
noncomputable def c_f:List D->R D:=fnC 5 6 g_f
end
noncomputable def augZ(s:List Int):List Int:=s++[1]
theorem z7a{s:List Int}{m:Nat}(h:s.length=m):(augZ s).length=m+1:=by unfold augZ;simp[h]
theorem z5o{s:List Int}{m:Nat}(h:s.length=m)(i:Nat):vec (augZ s) i=if i<m then vec s i else if i=m then 1 else 0:=by
 unfold augZ vec
 by_cases q:i<m
 ·rw[if_pos q,List.getElem?_append_left (by lia)]
 ·rw[if_neg q,List.getElem?_append_right (by lia),h]
  by_cases q2:i=m
  ·rw[if_pos q2,q2,Nat.sub_self];rfl
  ·rw[if_neg q2,List.getElem?_eq_none (by simp;lia)];rfl
noncomputable def stZ(P:Int)(m:Nat)(t:List (List Int))(s:List Int)(j:Nat):List Int:=z3m P (powZ P m t j) s
theorem y6y{P:Int}{m:Nat}{t:List (List Int)}{s:List Int}(hs:s.length=m)(so:onW P s):stZ P m t s 0=s:=turn_I hs so
theorem y0a{P:Int}{m:Nat}{t:List (List Int)}{s:List Int}(hp:1<P)(ht:z3j P m t)(hs:s.length=m)(j:Nat):stZ P m t s (j+1)=z3m P t (stZ P m t s j):=by
 unfold stZ
 show z3m P (z4n P (powZ P m t j) t) s=_
 rw[turn_J (z4r hp ht j).1 hs]
theorem z6o{P:Int}{m:Nat}{t:List (List Int)}{s:List Int}(hp:1<P)(ht:z3j P m t)(j:Nat):(stZ P m t s j).length=m:=by unfold stZ;rw[z2x];exact(z4r hp ht j).1
noncomputable def z8w(t:List (List Int))(m:Nat)(v:Nat->Int)(i:Nat):Int:=if i<m then sumN (fun k=>vec (z0t t i) k*v k) (m+1) else if i=m then v m else 0
theorem y7n{P:Int}{m:Nat}{t:List (List Int)}{s:List Int}(ht:z3j P m t)(hs:s.length=m)(i:Nat):cg P (vec (augZ (z3m P t s)) i) (z8w t m (vec (augZ s)) i):=by
 have lt:(z3m P t s).length=m:=by rw[z2x];exact ht.1
 rw[z5o lt]
 unfold z8w
 by_cases q:i<m
 ·rw[if_pos q,if_pos q]
  have e:vec (z3m P t s) i=z1i (z0t t i) s%P:=by
   unfold vec z3m z0t
   rw[List.getElem?_map,List.getElem?_eq_getElem (by rw[ht.1];exact q)];rfl
  rw[e]
  refine z5m.trans (cg.of_eq ?_)
  have e2:z1i (z0t t i) s=sumN (fun k=>vec (z0t t i) k*vec s k) m+vec (z0t t i) m:=by rw[<-hs];rfl
  rw[e2,z1e,z5o hs m,if_neg (Nat.lt_irrefl m),if_pos rfl,Int.mul_one]
  congr 1
  exact z0l fun k hk=>by rw[z5o hs k,if_pos hk]
 ·rw[if_neg q,if_neg q]
  by_cases q2:i=m
  ·rw[if_pos q2,if_pos q2,z5o hs m,if_neg (Nat.lt_irrefl m),if_pos rfl]
   exact cg.refl
  ·rw[if_neg q2,if_neg q2];exact cg.refl
theorem x1b{P:Int}{t:List (List Int)}{m:Nat}{u v:Nat->Int}(h:∀i,cg P (u i) (v i))(i:Nat):cg P (z8w t m u i) (z8w t m v i):=by
 unfold z8w
 split
 ·exact cg.sumN fun k _=>cg.refl.mul (h k)
 ·split
  ·exact h m
  ·exact cg.refl
theorem x3t(t:List (List Int))(m:Nat)(u v:Nat->Int)(c:Int)(i:Nat):z8w t m (fun k=>u k+c*v k) i=z8w t m u i+c*z8w t m v i:=by
 unfold z8w
 split
 ·rw[<-z3n,<-z4x]
  exact z0l fun k _=>by grind
 ·split
  ·rfl
  ·lia
theorem x0z{P:Int}(t:List (List Int))(m:Nat){v:Nat->Int}(h:∀i,cg P (v i) 0)(i:Nat):cg P (z8w t m v i) 0:=by
 refine(x1b (v:=fun _=>0) h i).trans (cg.of_eq ?_)
 unfold z8w
 split
 ·exact z4o fun k _=>Int.mul_zero _
 ·split<;>rfl
theorem x1a{P:Int}{t rows:List (List Int)}{m:Nat}{v:Nat->Int}(h:Span P rows v)(hr:∀r∈rows,Span P rows (z8w t m (vec r))):Span P rows (z8w t m v):=by
 induction h with
 | zero z=>exact .zero fun i=>x0z t m z i
 | @add u v c r hm hu he ih =>
   refine Span.cong (ih.plus ((hr r hm).times c)) fun i=>?_
   refine(x1b he i).trans (cg.of_eq ?_)
   rw[x3t]
noncomputable def augs(P:Int)(m:Nat)(t:List (List Int))(s:List Int)(n:Nat):List (List Int):=(List.range n).map fun j=>augZ (stZ P m t s j)
theorem z3h(P:Int)(m:Nat)(t:List (List Int))(s:List Int)(n:Nat):(augs P m t s n).length=n:=by unfold augs;simp
theorem z7r{P:Int}{m:Nat}{t:List (List Int)}{s:List Int}(hp:1<P)(ht:z3j P m t)(n:Nat):∀r∈augs P m t s n,r.length=m+1:=fun r hr=>by
 obtain⟨j,_,rfl⟩:=List.mem_map.mp hr
 exact z7a (z6o hp ht j)
theorem x2m{P:Int}{m n k:Nat}{t:List (List Int)}{s:List Int}(hk:k<n):z0t (augs P m t s n) k=augZ (stZ P m t s k):=by
 unfold z0t augs
 rw[List.getElem?_map,List.getElem?_range hk];rfl
theorem y7x{P:Int}{m n:Nat}{t:List (List Int)}{s:List Int}(hp:1<P)(ht:z3j P m t)(hs:s.length=m)(n1:1<=n)(h:Span P (augs P m t s n) (vec (augZ (stZ P m t s n)))):∀j,Span P (augs P m t s n) (vec (augZ (stZ P m t s j)))
 | 0=>Span.of_mem (List.mem_map.mpr ⟨0,List.mem_range.mpr (by lia),rfl⟩)
 | j+1=>by
   have ih:=y7x hp ht hs n1 h j
   have hr:∀r∈augs P m t s n,Span P (augs P m t s n) (z8w t m (vec r)):=fun r hr=>by
    obtain⟨k,hk,rfl⟩:=List.mem_map.mp hr
    have hk':=List.mem_range.mp hk
    have e:Span P (augs P m t s n) (vec (augZ (stZ P m t s (k+1)))):=by
     by_cases q:k+1<n
     ·exact Span.of_mem (List.mem_map.mpr ⟨k+1,List.mem_range.mpr q,rfl⟩)
     ·rw[show k+1=n by lia];exact h
    rw[y0a hp ht hs] at e
    exact e.cong fun i=>(y7n ht (z6o hp ht k) i).symm
   rw[y0a hp ht hs]
   exact(x1a ih hr).cong fun i=>y7n ht (z6o hp ht j) i
noncomputable def z7s(P:Int)(rows:List (List Int)):Prop:=∀c:Nat->Int,(∀i,cg P (sumW rows c i) 0)->∀k,k<rows.length->cg P (c k) 0
theorem y3x(rows:List (List Int))(g:List Int)(c:Nat->Int)(i:Nat):sumW (rows++[g]) c i=sumW rows c i+c rows.length*vec g i:=by
 unfold sumW
 rw[List.length_append,List.length_singleton,z1e]
 congr 1
 ·refine z0l fun k hk=>?_
  unfold z0t
  rw[List.getElem?_append_left hk]
 ·unfold z0t
  rw[List.getElem?_append_right (Nat.le_refl _),Nat.sub_self];rfl
theorem y3w{P:Int}(rows:List (List Int))(c:Nat->Int):Span P rows (sumW rows c):=y0b c rows.length (Nat.le_refl _)
theorem z7s.nil(P:Int):z7s P []:=fun c _ k hk=>by simp at hk
theorem z7s.snoc{P:Int}{rows:List (List Int)}{g:List Int}(hD:z2k P=false)(p1:3<=P)(p2:P<=9973)(h:z7s P rows)(hg:¬Span P rows (vec g)):z7s P (rows++[g]):=fun c hc k hk=>by
 have last:cg P (c rows.length) 0:=by
  by_cases q:cg P (c rows.length) 0
  ·exact q
  ·exfalso
   obtain⟨b,hb⟩:=y2d hD p1 p2 q
   refine hg (((y3w rows c).times (-b)).cong fun i=>?_)
   have h1:=hc i
   rw[y3x] at h1
   have h2:=(cg.refl (P:=P) (a:=b)).mul h1
   rw[Int.mul_zero] at h2
   have h3:=hb.mul (cg.refl (P:=P) (a:=vec g i))
   rw[Int.one_mul] at h3
   have e:b*(sumW rows c i+c rows.length*vec g i)=b*sumW rows c i+b*c rows.length*vec g i:=by grind
   rw[e] at h2
   have h4:=((h3.symm).trans (cg.of_eq (by grind:b*c rows.length*vec g i=(b*sumW rows c i+b*c rows.length*vec g i) + -b*sumW rows c i))).trans (h2.add cg.refl)
   exact h4.trans (cg.of_eq (Int.zero_add _))
 rw[List.length_append,List.length_singleton] at hk
 by_cases q:k<rows.length
 ·refine h c (fun i=>?_) k q
  have h1:=hc i
  rw[y3x] at h1
  have h2:=last.mul (cg.refl (P:=P) (a:=vec g i))
  rw[Int.zero_mul] at h2
  have:=h1.sub h2
  rw[Int.add_sub_cancel,Int.sub_zero] at this
  exact this
 ·rw[show k=rows.length by lia];exact last
theorem z7s.idle{P:Int}{rows T:List (List Int)}(hp:1<P)(h:z7s P rows)(hT:IdleOf P rows T):T=[]:=by
 cases T with
 | nil=>rfl
 | cons c r =>
   exfalso
   obtain⟨_,_,ll,l1⟩:=hT.steps.row c List.mem_cons_self
   have:=h (vec c) (hT.idle c List.mem_cons_self) _ ll
   rw[l1] at this
   exact y0s hp this
theorem z7s.count{P:Int}{w:Nat}{rows R0:List (List Int)}(hD:z2k P=false)(p1:3<=P)(p2:P<=9973)(hne:rows≠[])(hr:∀r∈rows,r.length=w)(hw:w<=50)(hn:rows.length<=50)(h:z7s P rows)(hR:StepsOf P w rows R0):R0.length=rows.length:=by
 obtain⟨S,hS,_⟩:=s_q (P:=P) (w:=w) (rows:=rows) hD p1 p2 hne hr hw hn
 have e:=h.idle (by lia) (y6j hr hS)
 have cnt:=count_I hD p1 p2 hr hS hR
 rw[e,List.length_nil,Nat.zero_add] at cnt
 exact cnt
theorem dot_G{m:Nat}{s f:List Int}(hs:s.length=m)(hf:f.length=m+1):dotZ (augZ s) f=z1i f s:=by
 rw[z6i (by rw[z7a hs,hf]),z7a hs,z1e,z5o hs m,if_neg (Nat.lt_irrefl m),if_pos rfl,Int.one_mul]
 show _=sumN (fun i=>vec f i*vec s i) s.length+vec f s.length
 rw[hs]
 congr 1
 exact z0l fun k hk=>by rw[z5o hs k,if_pos hk,Int.mul_comm]
end L3
namespace L3
open PySem
local macro_rules | `(tactic| walk_at "evs") => wkL " L3.z9p L3.z5t L3.s_on L3.z6q L3.z6v L3.z6x L3.z8d L3.z7p L3.z6y L3.z0z L3.z7q L3.y6k L3.y9c L3.Item.d L3.Item.ds_map L3.z9m L3.y9x L3.y9y L3.y6h L3.y1b L3.z5u L3.gZip L3.y4w L3.z9w L3.z8s L3.x1q L3.y1i L3.y9a L3.D.isNon L3.y1f"
theorem s_s{s:List Int}(hs:s.length<=100):c_s [rowD s] = .ok (rowD (augZ s)):=by
 refine z1p rfl ?_
 delta g_s
 refine z2y ?_
 unfold augZ
 simp only[z0n,List.map_append,List.map_cons,List.map_nil]
 walk_at "evs"
theorem s_y{P:Int}{m n:Nat}{t:List (List Int)}{s g:List Int}{d:D}(p1:3<=P)(p2:P<=9973)(m3:m<=3)(ht:z3j P m t)(n8:n<=8)(hg:g.length=m)(h:c_A [.int P,.lst ((augs P m t s n).map rowD),rowD (augZ g)] = .ok d):c_y [.int P,.lst (((List.range n).map (stZ P m t s)).map rowD),rowD g] = .ok d:=by
 have h1:1<P:=by lia
 have ns:=z1z ((List.range n).map (stZ P m t s))
 have na:=z1z (augs P m t s n)
 have eg:=s_s (s:=g) (by lia)
 refine z1p rfl ?_
 delta g_y
 refine z2y ?_
 have ln:((List.range n).map (stZ P m t s)).length<=100:=by simp;lia
 have la:=z3h P m t s n
 walk_at "evs"
 rw[z1f (k:=rowD) (h:=fun u=>rowD (augZ u)) (l:=(List.range n).map (stZ P m t s))]
 ·rw[show((List.range n).map (stZ P m t s)).map (fun u=>rowD (augZ u))=(augs P m t s n).map rowD by unfold augs;rw[List.map_map,List.map_map];rfl]
  walk_at "evs"
  simp only[eg]
  walk_at "evs"
  simp only[h]
 ·intro u hu
  obtain⟨j,hj,rfl⟩:=List.mem_map.mp hu
  have:=s_s (s:=stZ P m t s j) (by rw[z6o h1 ht];lia)
  have nl:=z0z (augZ (stZ P m t s j))
  walk_at "evs"
  simp only[this]
  walk_at "evs"
theorem x2l(P:Int)(m:Nat)(t:List (List Int))(s:List Int)(n:Nat):augs P m t s (n+1)=augs P m t s n++[augZ (stZ P m t s n)]:=by
 unfold augs
 rw[List.range_succ,List.map_append];rfl
theorem y6i{P:Int}{m n:Nat}{t:List (List Int)}{s:List Int}(hD:z2k P=false)(p1:3<=P)(p2:P<=9973)(m3:m<=3)(ht:z3j P m t)(n1:1<=n)(n8:n<=8)(h:z7s P (augs P m t s n)):n<=m+1:=by
 have hne:augs P m t s n≠[]:=fun z=>by have:=congrArg List.length z;rw[z3h] at this;simp at this;lia
 have hw:=z7r (s:=s) (show 1<P by lia) ht n
 obtain⟨R0,_,hR⟩:=s_g (P:=P) (w:=m+1) (rows:=augs P m t s n) hD p1 p2 hne hw (by lia) (by rw[z3h];lia)
 have:=h.count hD p1 p2 hne hw (by lia) (by rw[z3h];lia) hR
 rw[z3h] at this
 have:=y4d hR.steps
 lia
theorem x7m:((Str.ofString "sum")==(Str.ofString "shut"))=false:=by decide +kernel
theorem x7l:((Str.ofString "shut")==(Str.ofString "shut"))=true:=by decide +kernel
theorem x1g(n:Nat):D.lay n (.str (Str.ofString "sum"))=true:=by rw[y1a];decide +kernel
theorem y3j(n:Nat):D.lay n (.str (Str.ofString "shut"))=true:=by rw[y1a];decide +kernel
structure HullOf (P:Int) (m:Nat) (t:List (List Int)) (s:List Int) (n:Nat) (ws:List Int):Prop where
 n1:1<=n
 n4:n<=m+1
 ind:z7s P (augs P m t s n)
 len:ws.length=n
 on:onW P ws
 sum:∀i,cg P (vec (augZ (stZ P m t s n)) i) (sumW (augs P m t s n) (vec ws) i)
theorem s_L{P:Int}{m:Nat}{its:List Item}{s:List Int}(hD:z2k P=false)(p1:3<=P)(p2:P<=9973)(m3:m<=3)(hd:Item.deeps its<=3)(ho:Item.oks P m its)(hs:s.length=m)(so:onW P s):∃n ws,HullOf P m (Item.tabs P m its) s n ws/\c_L [.int P,.int m,.tup (its.map Item.d),rowD s] = .ok (.tup [.lst (((List.range n).map (stZ P m (Item.tabs P m its) s)).map rowD),rowD ws]):=by
 have hp:1<P:=by lia
 have p0:0<P:=by lia
 have T1:=s_v p1 p2 m3 12 its (by lia) ho
 have ht:=Item.tabs_ok hp its ho
 generalize Item.tabs P m its=t at *
 have slen:∀j,(stZ P m t s j).length=m:=fun j=>z6o hp ht j
 have tw:∀n,1<=n->n<=8->(∃ws:List Int,c_y [.int P,.lst (((List.range n).map (stZ P m t s)).map rowD),rowD (stZ P m t s n)] = .ok (.tup [.str "sum",rowD ws])/\ws.length=n/\onW P ws/\∀i,cg P (vec (augZ (stZ P m t s n)) i) (sumW (augs P m t s n) (vec ws) i))∨∃f:List Int,c_y [.int P,.lst (((List.range n).map (stZ P m t s)).map rowD),rowD (stZ P m t s n)] = .ok (.tup [.str "shut",rowD f])/\¬Span P (augs P m t s n) (vec (augZ (stZ P m t s n))):=fun n n1 n8=>by
  have hne:augs P m t s n≠[]:=fun z=>by have:=congrArg List.length z;rw[z3h] at this;simp at this;lia
  rcases s_A (P:=P) (w:=m+1) (rows:=augs P m t s n) (g:=augZ (stZ P m t s n)) hD p1 p2 hne (z7r hp ht n) (z7a (slen n)) (by lia) (by lia) (by rw[z3h];lia) with ⟨ws,e,h1,h2,h3⟩ | ⟨f,e,h1,h2,h3,h4,h5⟩
  ·rw[z3h] at h1
   exact .inl ⟨ws,s_y p1 p2 m3 ht n8 (slen n) e,h1,h2,h3⟩
  ·exact .inr ⟨f,s_y p1 p2 m3 ht n8 (slen n) e,h5⟩
 have turn:∀j,c_z [.int P,tabD t,rowD (stZ P m t s j)] = .ok (rowD (stZ P m t s (j+1))):=fun j=>by
  rw[y0a hp ht hs]
  exact s_z (P:=P) (ts:=t) (ss:=stZ P m t s j) p0 (by lia) (by rw[slen];exact ht) (by rw[slen];lia)
 have tagT:∀(tg:String) (x:List Int),(D.tup [.str (Str.ofString tg),rowD x]).noL=true:=fun tg x=>by rw[y3a];simp only[D.noLs,D.noL,z0z];rfl
 suffices h:∃n ws,HullOf P m t s n ws/\g_L [.ro (.int P),.ro (.int m),.ro (.tup (its.map Item.d)),.ro (rowD s),.no,.no,.no,.no] = .ok (.rt (.tup [.lst (((List.range n).map (stZ P m t s)).map rowD),rowD ws])) by
  obtain⟨n,ws,h1,h2⟩:=h
  exact⟨n,ws,h1,z1p rfl h2⟩
 have loop:=z9y (gc:=gT (gBin dEq (gBin dIx (gV 7) (gC (.int 0))) (gC (.str "shut")))) (gb:=(gSt (gApp 5 (gNL (gV 6)))
 (gSt (gSet 6 (gNL (z0h c_z (gCons (gV 0) (gCons (gV 4) (gCons (gV 6) gNil))))))
 (gSet 7 (gNL (z0h c_y (gCons (gV 0) (gCons (gV 5) (gCons (gV 6) gNil)))))))))
  (fun μ Γ=>∃(n:Nat) (d:D),1<=n/\n<=m+1/\μ=m+1-n/\z7s P (augs P m t s n)/\c_y [.int P,.lst (((List.range n).map (stZ P m t s)).map rowD),rowD (stZ P m t s n)] = .ok d/\Γ=[.ro (.int P),.ro (.int m),.ro (.tup (its.map Item.d)),.ro (rowD s),.ro (tabD t),.own (((List.range n).map (stZ P m t s)).map rowD),.ro (rowD (stZ P m t s n)),.ro d])
  (fun r=>∃(n:Nat) (ws:List Int),HullOf P m t s n ws/\r = .ok (.nx [.ro (.int P),.ro (.int m),.ro (.tup (its.map Item.d)),.ro (rowD s),.ro (tabD t),.own (((List.range n).map (stZ P m t s)).map rowD),.ro (rowD (stZ P m t s n)),.ro (.tup [.str "sum",rowD ws])])) (by
    rintro μ Γ ⟨n,d,n1,n4,eμ,ind,et,rfl⟩
    rcases tw n n1 (by lia) with ⟨ws,e,h1,h2,h3⟩ | ⟨f,e,h5⟩
    ·rw[e] at et
     cases et
     refine .inl ⟨?_,n,ws,⟨n1,n4,ind,h1,h2,h3⟩,rfl⟩
     have l1:=x1g 40
     have l2:=y3j 40
     walk_at "evs"
     simp only[z9m,x7m,z1m (And.intro l1 l2)]
     rfl
    ·rw[e] at et
     cases et
     have ind2:z7s P (augs P m t s (n+1)):=by rw[x2l];exact ind.snoc hD p1 p2 h5
     have n5:=y6i hD p1 p2 m3 ht (by lia) (by lia) ind2
     have tn:=turn n
     obtain⟨d',ed',nd'⟩:∃d',c_y [.int P,.lst (((List.range (n+1)).map (stZ P m t s)).map rowD),rowD (stZ P m t s (n+1))] = .ok d'/\d'.noL=true:=by
      rcases tw (n+1) (by lia) (by lia) with ⟨ws,e,_⟩ | ⟨f,e,_⟩
      ·exact⟨_,e,tagT _ _⟩
      ·exact⟨_,e,tagT _ _⟩
     refine .inr ⟨?_,.inl ⟨_,m+1-(n+1),by lia,.inl ?_,n+1,d',by lia,by lia,rfl,ind2,ed',rfl⟩⟩
     ·have l1:=y3j 40
      walk_at "evs"
      try simp only[z9m,x7l,z1m (And.intro l1 l1)]
      try rfl
     ·have nl:=z0z (stZ P m t s n)
      have nl2:=z0z (stZ P m t s (n+1))
      have lo:(((List.range n).map (stZ P m t s)).map rowD).length<=100000:=by simp;lia
      have ea:((List.range n).map (stZ P m t s)).map rowD++[rowD (stZ P m t s n)]=((List.range (n+1)).map (stZ P m t s)).map rowD:=by rw[List.range_succ,List.map_append,List.map_append];rfl
      refine z8i (Γ':=[.ro (.int P),.ro (.int m),.ro (.tup (its.map Item.d)),.ro (rowD s),.ro (tabD t),.own (((List.range (n+1)).map (stZ P m t s)).map rowD),.ro (rowD (stZ P m t s n)),.ro (.tup [.str "shut",rowD f])]) ((x3w (d:=rowD (stZ P m t s n)) rfl (by walk_at "evs") lo).trans (by rw[ea];rfl)) (z1o (d:=rowD (stZ P m t s (n+1))) ?_ ((y1r (d:=d') ?_).trans rfl))
      ·walk_at "evs"
       simp only[tn]
       walk_at "evs"
      ·walk_at "evs"
       simp only[ed']
       walk_at "evs")
 have e0:=y6y (t:=t) hs so
 have nls:=z0z s
 have ns1:D.noLs [rowD s]=true:=z4y [s]
 have es1:[rowD s]=((List.range 1).map (stZ P m t s)).map rowD:=by
  show _=[rowD (stZ P m t s 0)]
  rw[e0]
 have t0:=turn 0
 rw[e0] at t0
 have nl1:=z0z (stZ P m t s 1)
 have ind1:z7s P (augs P m t s 1):=by
  have:augs P m t s 1=[]++[augZ (stZ P m t s 0)]:=rfl
  rw[this]
  refine(z7s.nil P).snoc hD p1 p2 fun z=>?_
  have h1:=Span.zero_at (j:=m) (fun r hr=>by simp at hr) z
  rw[z5o (slen 0),if_neg (Nat.lt_irrefl m),if_pos rfl] at h1
  exact y0s hp h1
 obtain⟨d1,ed1,nd1⟩:∃d',c_y [.int P,.lst (((List.range 1).map (stZ P m t s)).map rowD),rowD (stZ P m t s 1)] = .ok d'/\d'.noL=true:=by
  rcases tw 1 (by lia) (by lia) with ⟨ws,e,_⟩ | ⟨f,e,_⟩
  ·exact⟨_,e,tagT _ _⟩
  ·exact⟨_,e,tagT _ _⟩
 obtain⟨n,ws,H,el⟩:=loop 10 (m+1-1) _ (by lia) ⟨1,d1,by lia,by lia,rfl,ind1,ed1,rfl⟩
 refine⟨n,ws,H,?_⟩
 delta g_L
 refine z1o (d:=tabD t) (by walk_at "evs";simp only[T1];walk_at "evs") ?_
 refine z3l (ds:=((List.range 1).map (stZ P m t s)).map rowD) ?_ ?_
 ·rw[<-es1]
  walk_at "evs"
 refine z1o (d:=rowD (stZ P m t s 1)) ?_ ?_
 ·walk_at "evs"
  simp only[t0]
  walk_at "evs"
 refine z1o (d:=d1) ?_ ?_
 ·walk_at "evs"
  simp only[ed1]
  walk_at "evs"
 refine z8i el ?_
 refine z2y ?_
 walk_at "evs"
theorem y0g:∀(ws:List Int) (l:List (List Int)),zipD (ws.map D.int) (l.map rowD)=(ws.zip l).map fun p=>.tup [.int p.1,rowD p.2]
 | [],_=>by simp[zipD]
 | _::_,[]=>by simp[zipD]
 | w::ws,r::l=>by simp[zipD,y0g ws l]
theorem y9r{x:Nat}:∀{ws:List Int} {l:List (List Int)},ws.length=l.length->((ws.zip l).map fun p=>p.1*vec p.2 x).sum=sumN (fun k=>vec ws k*vec (z0t l k) x) l.length
 | [],[],_=>rfl
 | w::ws,r::l,h=>by
   rw[List.zip_cons_cons,List.map_cons,List.sum_cons,y9r (ws:=ws) (l:=l) (by simpa using h),List.length_cons,z6d]
   rfl
theorem x3b{P:Int}{m n x:Nat}{t:List (List Int)}{s ws:List Int}(hp:1<P)(ht:z3j P m t)(hw:ws.length=n)(hx:x<m):sumW (augs P m t s n) (vec ws) x=((ws.zip ((List.range n).map (stZ P m t s))).map fun p=>p.1*vec p.2 x).sum:=by
 rw[y9r (by simp[hw])]
 unfold sumW
 rw[z3h,List.length_map,List.length_range]
 refine z0l fun k hk=>?_
 rw[x2m hk,z5o (z6o hp ht k),if_pos hx]
 unfold z0t
 rw[List.getElem?_map,List.getElem?_range hk];rfl
theorem y7l:∀l:List Int,l.sum=sumN (vec l) l.length
 | []=>rfl
 | a::l=>by
   rw[List.sum_cons,y7l l,List.length_cons,z6d]
   rfl
theorem y9u{P:Int}{m n:Nat}{t:List (List Int)}{s ws:List Int}(hp:1<P)(ht:z3j P m t)(hw:ws.length=n):sumW (augs P m t s n) (vec ws) m=ws.sum:=by
 rw[y7l,hw]
 unfold sumW
 rw[z3h]
 refine z0l fun k hk=>?_
 rw[x2m hk,z5o (z6o hp ht k),if_neg (Nat.lt_irrefl m),if_pos rfl,Int.mul_one]
theorem x2t{x:Nat}{ws:List Int}{l:List (List Int)}{f:D->R (Option D)}(q:∀w∈ws,∀r∈l,f (.tup [.int w,rowD r]) = .ok (some (.int (w*vec r x)))):z0w f (zipD (ws.map D.int) (l.map rowD)) [] = .ok (((ws.zip l).map fun p=>p.1*vec p.2 x).map D.int):=by
 rw[y0g,z1f (h:=fun p=>D.int (p.1*vec p.2 x)),z2n]
 intro p hp
 exact q p.1 (List.of_mem_zip hp).1 p.2 (List.of_mem_zip hp).2
theorem y9k(ws:List Int)(l:List (List Int)):(zipD (ws.map D.int) (l.map rowD)).length=min ws.length l.length:=by
 rw[y0g,List.length_map,List.length_zip]
theorem z7w{P a b:Int}(h:cg P a b)(h0:0<=b)(hb:b<P):a%P=b:=by
 rw[show a%P=b%P from h,Int.emod_eq_of_lt h0 hb]
end L3
namespace L3
open PySem
local macro_rules | `(tactic| walk_at "evs") => wkL " L3.z9p L3.z5t L3.s_on L3.z6q L3.z6v L3.z6x L3.z8d L3.z7p L3.z6y L3.z0z L3.z7q L3.y6k L3.y9c L3.Item.d L3.Item.ds_map L3.z9m L3.y9x L3.y9y L3.y6h L3.y1b L3.z5u L3.gZip L3.y4w L3.z9w L3.z8s L3.x1q L3.y1i L3.y9a L3.D.isNon L3.y1f L3.x2a"
theorem s_C{P:Int}{m n:Nat}{its:List Item}{s g ws:List Int}(hD:z2k P=false)(p1:3<=P)(p2:P<=9973)(m3:m<=3)(ho:Item.oks P m its)(hg:g.length=m)(H:HullOf P m (Item.tabs P m its) s n ws)(eH:c_L [.int P,.int m,.tup (its.map Item.d),rowD s] = .ok (.tup [.lst (((List.range n).map (stZ P m (Item.tabs P m its) s)).map rowD),rowD ws])) :
 (∃vs:List Int,c_C [.int P,.int m,.tup (its.map Item.d),rowD s,rowD g] = .ok (.tup [.str "sum",rowD vs])/\vs.length=n/\onW P vs/\∀i,cg P (vec (augZ g) i) (sumW (augs P m (Item.tabs P m its) s n) (vec vs) i)) ∨
 ∃f:List Int,c_C [.int P,.int m,.tup (its.map Item.d),rowD s,rowD g] = .ok (.tup [.str "shut",rowD f])/\f.length=m+1/\onW P f/\(∀r∈augs P m (Item.tabs P m its) s n,cg P (dotZ r f) 0)/\cg P (dotZ (augZ g) f) 1/\¬Span P (augs P m (Item.tabs P m its) s n) (vec (augZ g)):=by
 have hp:1<P:=by lia
 have ht:=Item.tabs_ok hp its ho
 generalize Item.tabs P m its=t at *
 have n1:=H.n1
 have n4:=H.n4
 have hne:augs P m t s n≠[]:=fun z=>by have:=congrArg List.length z;rw[z3h] at this;simp at this;lia
 have pl:∀d,c_A [.int P,.lst ((augs P m t s n).map rowD),rowD (augZ g)] = .ok d->c_C [.int P,.int m,.tup (its.map Item.d),rowD s,rowD g] = .ok d:=fun d e=>by
  have et:=s_y (s:=s) p1 p2 m3 ht (show n<=8 by lia) hg e
  refine z1p rfl ?_
  delta g_C
  refine z1o (d:=.lst (((List.range n).map (stZ P m t s)).map rowD)) ?_ (z2y ?_)
  ·walk_at "evs"
   simp only[eH]
   walk_at "evs"
  ·walk_at "evs"
   simp only[et]
 rcases s_A (P:=P) (w:=m+1) (rows:=augs P m t s n) (g:=augZ g) hD p1 p2 hne (z7r hp ht n) (z7a hg) (by lia) (by lia) (by rw[z3h];lia) with ⟨vs,e,h1,h2,h3⟩ | ⟨f,e,h1,h2,h3,h4,h5⟩
 ·rw[z3h] at h1
  exact .inl ⟨vs,pl _ e,h1,h2,h3⟩
 ·exact .inr ⟨f,pl _ e,h1,h2,h3,h4,h5⟩
theorem x7k{P:Int}{rows:List (List Int)}{v:Nat->Int}{c:Nat->Int}(h:∀i,cg P (v i) (sumW rows c i)):Span P rows v:=(y3w rows c).cong h
noncomputable section
noncomputable def x6s:G->R Fl :=
 (gSt (gSet 1 (gNL (z0h c_h (gCons (z0h c_p (gCons (gV 0) (gCons (gC (.int 0)) gNil))) gNil))))
 (gSt (gSet 2 (gNL (gBin dAdd (gC (.int 1)) (gBin dMod (z0h c_p (gCons (gV 0) (gCons (gC (.int 1)) gNil))) (gC (.int 3))))))
 (gSt (gSet 3 (gNL (z0h c_d (gCons (z0h c_p (gCons (gV 0) (gCons (gC (.int 2)) gNil))) (gCons (gV 1) (gCons (gV 2) gNil))))))
 (gSt (gSet 4 (gNL (z0h c_d (gCons (gBin dDiv (z0h c_p (gCons (gV 0) (gCons (gC (.int 3)) gNil))) (gC (.int 2))) (gCons (gV 1) (gCons (gV 2) gNil))))))
 (gSt (gIfS (gT (gBin dEq (gBin dMod (z0h c_p (gCons (gV 0) (gCons (gC (.int 3)) gNil))) (gC (.int 2))) (gC (.int 1)))) (gSt (gSet 5 (gNL (gBin dMod (gBin dDiv (z0h c_p (gCons (gV 0) (gCons (gC (.int 3)) gNil))) (gC (.int 2))) (gV 2))))
 (gSet 4 (gNL (gBin dAdd (gBin dAdd (gSl (gV 3) gON (gOS (gV 5))) (gTup (gCons (gBin dMod (gBin dDiv (z0h c_p (gCons (gV 0) (gCons (gC (.int 3)) gNil))) (gC (.int 6))) (gV 1)) gNil))) (gSl (gV 3) (gOS (gBin dAdd (gV 5) (gC (.int 1)))) gON))))) z2r)
 (gSt (gSet 6 (gNL (gBin dMod (z0h c_p (gCons (gV 0) (gCons (gC (.int 4)) gNil))) (gBin dAdd (gBin dPow (gC (.int 10)) (gC (.int 30))) (gC (.int 1))))))
 (gSt (gSet 7 (gNL (gBin dMod (gBin dDiv (z0h c_p (gCons (gV 0) (gCons (gC (.int 1)) gNil))) (gC (.int 3))) (gC (.int 4)))))
 (gSt (gSet 8 (gNL (z0h c_o (gCons (gSl (gV 0) (gOS (gC (.int 5))) (gOS (gC (.int 63)))) (gCons (gV 1) (gCons (gV 2) (gCons (gC (.int 3)) gNil)))))))
 (gSt (gIfS (gT (gBin dGt (gV 7) (gC (.int 0)))) (gSet 8 (gNL (gSl (gV 8) gON (gOS (gV 7))))) z2r)
 (gSt (gSet 9 (gNL (z0h c_C (gCons (gV 1) (gCons (gV 2) (gCons (gV 8) (gCons (gV 3) (gCons (gV 4) gNil))))))))
 (gSt (gIfS (gOr (gNot (gT (gIsi z2w (gV 9)))) (gT (gBin dNe (z0h dLen (gCons (gV 9) gNil)) (gC (.int 2))))) (gRet (gC (.bl false))) z2r)
 (gSt (gIfS (gT (gBin dEq (gBin dIx (gV 9) (gC (.int 0))) (gC (.str "sum")))) (gRet (z0h c_f (gCons (gV 1) (gCons (gV 2) (gCons (gBin dIx (y1f c_L (gCons (gVr 1) (gCons (gVr 2) (gCons (gVr 8) (gCons (gVr 3) gNil))))) (gC (.int 0))) (gCons (gBin dIx (gV 9) (gC (.int 1))) (gCons (gV 4) gNil))))))) z2r)
 (gSt (gIfS (gOr (gT (gBin dNe (gBin dIx (gV 9) (gC (.int 0))) (gC (.str "shut")))) (gOr (gNot (gT (z0h c_l (gCons (gV 1) (gCons (gBin dAdd (gV 2) (gC (.int 1))) (gCons (gBin dIx (gV 9) (gC (.int 1))) gNil)))))) (gT (gBin dNe (z0h c_j (gCons (gV 1) (gCons (gBin dIx (gV 9) (gC (.int 1))) (gCons (gV 4) gNil)))) (gC (.int 1)))))) (gRet (gC (.bl false))) z2r)
 (gSt (gSet 10 (gNL (z0h (c_v 12) (gCons (gV 1) (gCons (gV 2) (gCons (gV 8) gNil))))))
 (gSt (z2s 11 (gLst (gCons (z0h c_H (gCons (gV 1) (gCons (gV 2) (gCons (gV 8) (gCons (gV 6) (gCons (gV 3) gNil)))))) (gCons (gV 3) gNil))))
 (gSt (gFor 12 (z5q (gC (.int 3)))
 (gApp 11 (gNL (z0h c_e (gCons (gV 1) (gCons (gV 10) (gCons (gBin dIx (gV 11) (gNeg (gC (.int 1)))) gNil)))))))
 (gSt (gFrz 11 (gFor 13 (gSeq (gVr 11))
 (gIfS (gOr (gT (gBin dNe (z0h c_j (gCons (gV 1) (gCons (gBin dIx (gV 9) (gC (.int 1))) (gCons (gV 13) gNil)))) (gC (.int 0)))) (gT (gBin dEq (gV 13) (gV 4)))) (gRet (gC (.bl false))) z2r)))
 (gRet (gC (.bl true))))))))))))))))))))
noncomputable def c_law:List D->R D:=fnC 1 14 x6s
end
theorem x5r{u:List Int}{y:Nat}{v:Int}(h:y<u.length):(u.take y).map D.int++(D.int v::(u.drop (y+1)).map D.int)=(u.set y v).map D.int:=by
 rw[List.set_eq_take_append_cons_drop,if_pos h,List.map_append,List.map_cons]
theorem x9c{t u:G->R Fl}{Γ:G}{r:R Fl}(Q:G->Prop)(h:∃Γ',t Γ = .ok (.nx Γ')/\Q Γ')(k:∀Γ',Q Γ'->u Γ'=r):gSt t u Γ=r:=let ⟨Γ',e,q⟩:=h;z8i e (k Γ' q)
theorem x3f{P:Int}{m n:Nat}{t:List (List Int)}{s g vs:List Int}(p1:3<=P)(p2:P<=9973)(m3:m<=3)(ok1:z3j P m t)(n4:n<=4)(lg:g.length=m)(og:onW P g)(lv:vs.length=n)(ov:onW P vs)(hv:∀i,cg P (vec (augZ g) i) (sumW (augs P m t s n) (vec vs) i)):c_f [.int P,.int m,.lst (((List.range n).map (stZ P m t s)).map rowD),rowD vs,rowD g] = .ok (.bl true):=by
 have hp:1<P:=by lia
 have p0:0<P:=by lia
 have slen:∀j,(stZ P m t s j).length=m:=fun j=>z6o hp ok1 j
 have nst:=z1z ((List.range n).map (stZ P m t s))
 have lt:=y7b (P:=P) (m:=n) (s:=vs) lv ov (by lia)
 have sum1:vs.sum%P=1:=by
  have:=hv m
  rw[z5o lg,if_neg (Nat.lt_irrefl m),if_pos rfl,y9u hp ok1 lv] at this
  exact z7w this.symm (by lia) (by lia)
 have b1:(vs.sum%P==1)=true:=by simp[sum1]
 refine z1p rfl ?_
 delta g_f
 refine z5n (by
  walk_at "evs"
  simp only[lt]
  walk_at "evs"
  simp only[z0n vs]
  walk_at "evs"
  rw[b1]
  try rfl) ?_
 refine y1l (ds:=z3w 0 m) (fun _ Γ=>∃x5,Γ=[.ro (.int P),.ro (.int m),.ro (.lst (((List.range n).map (stZ P m t s)).map rowD)),.ro (rowD vs),.ro (rowD g),x5]) (by walk_at "evs") ⟨_,rfl⟩ ?_ ?_
 ·rintro x d Γ hd' ⟨x5,rfl⟩
  obtain⟨hx,rfl⟩:=z6p hd'
  rw[Int.zero_add]
  have va:=y0i (r:=g) (p:=x) (by lia)
  have key:((vs.zip ((List.range n).map (stZ P m t s))).map fun p=>p.1*vec p.2 x).sum%P=vec g x:=by
   have:=hv x
   rw[z5o lg,if_pos hx,x3b hp ok1 lv hx] at this
   have hv:=z9h p0 og x
   exact z7w this.symm hv.1 hv.2
  have hz:(zipD (vs.map D.int) (((List.range n).map (stZ P m t s)).map rowD)).length<=100000:=by rw[y9k];lia
  have n12:=And.intro (z1b vs) nst
  have wf:=ov.fits (show P<18446744073709551616 by lia)
  refine .nx (z8y ?_) ⟨_,rfl⟩
  simp only[z0n vs]
  walk_at "evs"
  rw[x2t (x:=x)]
  ·simp only[R.bind_ok,z4l]
   walk_at "evs"
   simp only[z0n,dIx,va]
   walk_at "evs"
   rw[key]
   try simp
  ·intro w hw' r hr
   obtain⟨j,hj,rfl⟩:=List.mem_map.mp hr
   have vr:=y0i (r:=stZ P m t s j) (p:=x) (by rw[slen];exact hx)
   have fw:z9l w:=wf w hw'
   walk_at "evs"
   simp only[z0n,dIx,vr]
   walk_at "evs"
 ·rintro Γ ⟨x5,rfl⟩
  exact z2y (by walk_at "evs")
theorem law_k55:x9v c_law:=by
 intro ns hn
 obtain⟨P,eP,p1,p2,hD⟩:=x5s (z3p ns 0)
 obtain⟨m,em,m1,m3⟩:=x3s (z3p ns 1)
 have hp:1<P:=by lia
 have p0:0<P:=by lia
 refine z1p rfl ?_
 unfold x6s
 refine z1o (d:=.int P) (by walk_at "evs";simp only[eP];walk_at "evs") ?_
 refine z1o (d:=.int m) (by walk_at "evs";rw[em]) ?_
 have sl:=z4k P m (z3p ns 2)
 have so:=z7x (P:=P) p0 m (z3p ns 2)
 refine z1o (d:=rowD (z4e P m (z3p ns 2))) (by walk_at "evs";rfl) ?_
 generalize z4e P m (z3p ns 2)=s at sl so
 have gl0:=z4k P m (z3p ns 3/2)
 have go0:=z7x (P:=P) p0 m (z3p ns 3/2)
 refine z1o (d:=rowD (z4e P m (z3p ns 3/2))) (by walk_at "evs";rfl) ?_
 generalize z4e P m (z3p ns 3/2)=g0 at gl0 go0
 refine x9c (fun Γ=>∃(g:List Int) (x5:En),Γ=[.ro (.lst (ns.map D.int)),.ro (.int P),.ro (.int m),.ro (rowD s),.ro (rowD g),x5,.no,.no,.no,.no,.no,.no,.no,.no]/\g.length=m/\onW P g) ?_ ?_
 ·by_cases q:z3p ns 3%2=1
  ·have bq:(z3p ns 3%2==1)=true:=by simp[q]
   obtain⟨x,hx,ex⟩:∃x:Nat,x<m/\z3p ns 3/2%(m:Int)=x:=by
    have h1:=z4c (w:=z3p ns 3/2) (P:=(m:Int)) (by lia)
    have h2:=z4d (w:=z3p ns 3/2) (P:=(m:Int)) (by lia)
    exact⟨(z3p ns 3/2%(m:Int)).toNat,by lia,by lia⟩
   have x1:(x:Int)+1=((x+1:Nat):Int):=by lia
   have l3:(s.take x).length<=30:=by rw[List.length_take];lia
   have l4:(s.drop (x+1)).length<=30:=by rw[List.length_drop];lia
   have nS:=z0z (s.set x (z3p ns 3/6%P))
   refine⟨[.ro (.lst (ns.map D.int)),.ro (.int P),.ro (.int m),.ro (rowD s),.ro (rowD (s.set x (z3p ns 3/6%P))),.ro (.int x),.no,.no,.no,.no,.no,.no,.no,.no],z9v (by walk_at "evs";rw[bq]) (z1o (d:=.int x) (by walk_at "evs";rw[ex]) ((y1r (d:=rowD (s.set x (z3p ns 3/6%P))) ?_).trans rfl)),_,_,rfl,by rw[List.length_set];exact sl,fun z hz=>?_⟩
   ·simp only[z0n,<-x5r (v:=z3p ns 3/6%P) (show x<s.length by lia)] at nS ⊢
    walk_at "evs"
    rw[x1,z9n,z6j]
    simp only[<-List.map_take,<-List.map_drop]
    walk_at "evs"
   ·rcases List.mem_or_eq_of_mem_set hz with z' | z'
    ·exact so z z'
    ·rw[z'];exact⟨z4c p0,z4d p0⟩
  ·have bq:(z3p ns 3%2==1)=false:=by simp[q]
   exact⟨_,z8y (by walk_at "evs";rw[bq]),g0,_,rfl,gl0,go0⟩
 rintro Γ ⟨g,x5,rfl,lg,og⟩
 have t30:(0:Int)<10^30+1:=by decide
 have c0:=z4c (w:=z3p ns 4) t30
 have c1:=z4d (w:=z3p ns 4) t30
 obtain⟨k,ek,_,hk⟩:=y7u c0 (by lia)
 refine z1o (d:=.int k) (by walk_at "evs";rw[ek]) ?_
 clear ek c0 c1 t30 em eP gl0 go0
 obtain⟨fw,hfw,efw⟩:∃fw:Nat,fw<4/\z3p ns 1/3%4=(fw:Int):=⟨(z3p ns 1/3%4).toNat,by lia,by lia⟩
 refine z1o (d:=.int fw) (by walk_at "evs";rw[efw]) ?_
 obtain⟨its0,ei,ho0,hd0,hc0⟩:=x5t (cs:=cutL ns (some 5) (some 63)) (many:=m) (ag:=3) p1 p2 (by lia) (by lia) (Nat.le_trans (x4h ns _ _) hn)
 have nI0:=x0t its0
 refine z1o (d:=.tup (its0.map Item.d)) (by walk_at "evs";rw[x2b];simp only[ei];walk_at "evs") ?_
 obtain⟨its,ho,hd,eif⟩:∃its:List Item,Item.oks P m its/\Item.deeps its<=3/\(gIfS (gT (gBin dGt (gV 7) (gC (.int 0)))) (gSet 8 (gNL (gSl (gV 8) gON (gOS (gV 7))))) z2r) [.ro (.lst (ns.map D.int)),.ro (.int P),.ro (.int m),.ro (rowD s),.ro (rowD g),x5,.ro (.int k),.ro (.int fw),.ro (.tup (its0.map Item.d)),.no,.no,.no,.no,.no] = .ok (.nx [.ro (.lst (ns.map D.int)),.ro (.int P),.ro (.int m),.ro (rowD s),.ro (rowD g),x5,.ro (.int k),.ro (.int fw),.ro (.tup (its.map Item.d)),.no,.no,.no,.no,.no]):=by
  by_cases q:(0:Int)<(fw:Int)
  ·have bq:decide ((0:Int)<(fw:Int))=true:=decide_eq_true q
   have nI:=x0t (its0.take fw)
   refine⟨its0.take fw,Item.oks_take ho0 fw,Item.deeps_le.mpr fun a ha=>Item.deeps_le.mp hd0 a (List.mem_of_mem_take ha),z9v (by walk_at "evs";try rw[bq]) (y1r ?_)⟩
   walk_at "evs"
   rw[z9n,<-List.map_take]
   walk_at "evs"
  ·have bq:decide ((0:Int)<(fw:Int))=false:=decide_eq_false q
   exact⟨its0,ho0,hd0,z8y (by walk_at "evs";rw[bq])⟩
 refine z8i eif ?_
 clear eif ei ho0 hd0 hc0 nI0 efw hfw hn
 have T1:=s_v p1 p2 m3 12 its (by lia) ho
 have ok1:=Item.tabs_ok hp its ho
 obtain⟨n,ws,H,eH⟩:=s_L hD p1 p2 m3 hd ho sl so
 have A1:=s_H (n:=k) (its:=its) (s:=s) p1 p2 m3 (by lia) ho sl hk
 have PL:=s_C hD p1 p2 m3 ho lg H eH
 change c_H _ = .ok (rowD (stZ P m (Item.tabs P m its) s k)) at A1
 generalize Item.tabs P m its=t at *
 have n1:=H.n1
 have n4:=H.n4
 have slen:∀j,(stZ P m t s j).length=m:=fun j=>z6o hp ok1 j
 have spn:∀j,Span P (augs P m t s n) (vec (augZ (stZ P m t s j))):=y7x hp ok1 sl n1 (x7k H.sum)
 have s0:=y6y (t:=t) sl so
 have tagT:∀(tg:String) (x:List Int),(D.tup [.str (Str.ofString tg),rowD x]).noL=true:=fun tg x=>by rw[y3a];simp only[D.noLs,D.noL,z0z];rfl
 have lsum:=x1g 40
 have lshut:=y3j 40
 have eqs:eqD (.str (Str.ofString "sum")) (.str (Str.ofString "sum"))=true:=y7t (by simp[D.pl])
 have eqt:eqD (.str (Str.ofString "shut")) (.str (Str.ofString "shut"))=true:=y7t (by simp[D.pl])
 have eqn:eqD (.str (Str.ofString "shut")) (.str (Str.ofString "sum"))=false:=by rw[z9m];decide +kernel
 rcases PL with ⟨vs,eV,lv,ov,hv⟩ | ⟨f,eV,lf,of,hf0,hf1,hns⟩
 ·have nv:=tagT "sum" vs
  have SI:=x3f (t:=t) (s:=s) p1 p2 m3 ok1 (by lia) lg og lv ov hv
  refine z1o (d:=.tup [.str "sum",rowD vs]) (by walk_at "evs";simp only[eV];walk_at "evs") ?_
  refine z5n (by walk_at "evs") ?_
  refine y9i (z9v ?_ (z2y ?_))
  ·walk_at "evs"
   try rw[eqs]
   try rfl
  ·walk_at "evs"
   simp only[eH]
   walk_at "evs"
   simp only[SI]
 ·have nv:=tagT "shut" f
  have ff:=of.fits (show P<18446744073709551616 by lia)
  have wg:z1i f g%P=1:=by
   rw[dot_G lg lf] at hf1
   exact z7w hf1 (by lia) (by lia)
  have w0:∀j,z1i f (stZ P m t s j)%P=0:=fun j=>by
   have h1:=y6z (w:=m+1) (g:=vec f) (spn j) fun r hr=>by
    have:=hf0 r hr
    rw[z6i (by rw[z7r hp ok1 n r hr,lf]),z7r hp ok1 n r hr] at this
    exact this
   have h2:cg P (dotZ (augZ (stZ P m t s j)) f) 0:=by
    rw[z6i (by rw[z7a (slen j),lf]),z7a (slen j)];exact h1
   rw[dot_G (slen j) lf] at h2
   exact z7w h2 (by lia) (by lia)
  have lw1:=y2s (P:=P) (fs:=f) (ss:=g) p0 ff (by lia) (by lia)
  have lt:=y7b (P:=P) (m:=m+1) (s:=f) lf of (by lia)
  rw[show(((m+1:Nat)):Int)=(m:Int)+1 by lia] at lt
  have b1:(z1i f g%P==1)=true:=by simp[wg]
  refine z1o (d:=.tup [.str "shut",rowD f]) (by walk_at "evs";simp only[eV];walk_at "evs") ?_
  refine z5n (by walk_at "evs") ?_
  refine z5n (by
   have es:(Str.ofString "shut"==Str.ofString "sum")=false:=by decide +kernel
   walk_at "evs"
   rw[z1m (And.intro lshut lsum),es]
   rfl) ?_
  refine z5n (by
   walk_at "evs"
   try rw[eqt]
   try walk_at "evs"
   try simp only[lt]
   try walk_at "evs"
   simp only[z0n,lw1]
   walk_at "evs"
   rw[b1]
   try rfl) ?_
  refine z1o (d:=tabD t) (by walk_at "evs";simp only[T1];walk_at "evs") ?_
  have n2:D.noLs [rowD (stZ P m t s k),rowD (stZ P m t s 0)]=true:=z4y [stZ P m t s k,stZ P m t s 0]
  refine z3l (ds:=[rowD (stZ P m t s k),rowD (stZ P m t s 0)]) (by rw[s0] at n2 ⊢;walk_at "evs";simp only[A1];walk_at "evs") ?_
  refine y1l (ds:=z3w 0 3) (fun j Γ=>∃x12,Γ=[.ro (.lst (ns.map D.int)),.ro (.int P),.ro (.int m),.ro (rowD s),.ro (rowD g),x5,.ro (.int k),.ro (.int fw),.ro (.tup (its.map Item.d)),.ro (.tup [.str "shut",rowD f]),.ro (tabD t),.own ((stZ P m t s k::(List.range (j+1)).map (stZ P m t s)).map rowD),x12,.no]) (by walk_at "evs") ⟨_,rfl⟩ ?_ ?_
  ·rintro j d Γ hd' ⟨x12,rfl⟩
   obtain⟨hj,rfl⟩:=z6p hd'
   have tn:=x0h (P:=P) (ts:=t) (ss:=stZ P m t s j) p0 (by lia) (by rw[slen];exact ok1) (by rw[slen];lia)
   rw[<-y0a hp ok1 sl] at tn
   have nn:=z0z (stZ P m t s (j+1))
   have ll:((stZ P m t s k::(List.range (j+1)).map (stZ P m t s)).map rowD).length=j+2:=by simp
   have atl:atI ((stZ P m t s k::(List.range (j+1)).map (stZ P m t s)).map rowD) (-1)=some (rowD (stZ P m t s j)):=by
    rw[x2n (by lia) (by rw[ll];lia),ll,show(-1+((j+2:Nat):Int)).toNat=j+1 by lia,List.map_cons,List.getElem?_cons_succ,List.getElem?_map,List.getElem?_map,List.getElem?_range (by lia)];rfl
   refine .nx (Γ:=[.ro (.lst (ns.map D.int)),.ro (.int P),.ro (.int m),.ro (rowD s),.ro (rowD g),x5,.ro (.int k),.ro (.int fw),.ro (.tup (its.map Item.d)),.ro (.tup [.str "shut",rowD f]),.ro (tabD t),.own ((stZ P m t s k::(List.range (j+1+1)).map (stZ P m t s)).map rowD),.ro (.int (0+(j:Int))),.no]) ((x3w (d:=rowD (stZ P m t s (j+1))) rfl ?_ (by rw[ll];lia)).trans ?_) ⟨_,rfl⟩
   ·generalize ((stZ P m t s k::(List.range (j+1)).map (stZ P m t s)).map rowD)=ds at atl
    simp only[x2y,z0n (stZ P m t s (j+1))] at tn nn ⊢
    walk_at "evs"
    simp only[dIx,atl,z0n]
    walk_at "evs"
    simp only[tn]
    walk_at "evs"
   ·rw[List.range_succ (n:=j+1),List.map_append,<-List.cons_append,List.map_append];rfl
  ·rintro Γ ⟨x12,rfl⟩
   rw[z0r]
   have nall:=z1z (stZ P m t s k::(List.range (3+1)).map (stZ P m t s))
   refine x7b (ds:=(stZ P m t s k::(List.range (3+1)).map (stZ P m t s)).map rowD) rfl (fun Γ=>∃y13,Γ=[.ro (.lst (ns.map D.int)),.ro (.int P),.ro (.int m),.ro (rowD s),.ro (rowD g),x5,.ro (.int k),.ro (.int fw),.ro (.tup (its.map Item.d)),.ro (.tup [.str "shut",rowD f]),.ro (tabD t),.ro (.lst ((stZ P m t s k::(List.range (3+1)).map (stZ P m t s)).map rowD)),x12,y13]) ⟨_,rfl⟩ (by
    generalize ((stZ P m t s k::(List.range (3+1)).map (stZ P m t s)).map rowD)=ds
    simp only[List.set_cons_succ,List.set_cons_zero]
    walk_at "evs") ?_ ?_
   ·rintro d hd' Γ ⟨y13,rfl⟩
    obtain⟨u,hu,rfl⟩:=List.mem_map.mp hd'
    obtain⟨j,rfl⟩:∃j,u=stZ P m t s j:=by
     rcases List.mem_cons.mp hu with z | z
     ·exact⟨k,z⟩
     ·obtain⟨j,_,rfl⟩:=List.mem_map.mp z
      exact⟨j,rfl⟩
    have lj:=slen j
    have lw:=y2s (P:=P) (fs:=f) (ss:=stZ P m t s j) p0 ff (by lia) (by lia)
    have b0:(z1i f (stZ P m t s j)%P==0)=true:=by simp[w0 j]
    have hne:¬stZ P m t s j=g:=fun z=>by
     have:=w0 j
     rw[z,wg] at this
     lia
    have bd:decide (stZ P m t s j=g)=false:=decide_eq_false hne
    generalize ((stZ P m t s k::(List.range (3+1)).map (stZ P m t s)).map rowD)=ds
    refine .nx (z8y ?_) ⟨_,rfl⟩
    walk_at "evs"
    simp only[z0n f,z0n (stZ P m t s j),lw]
    try simp only[<-z0n]
    walk_at "evs"
    rw[b0]
    walk_at "evs"
    rw[bd]
    try rfl
   ·rintro Γ ⟨y13,rfl⟩
    exact z2y (by walk_at "evs")
end L3
namespace L3
open PySem PySem.Spec PyProof.Rows L2
noncomputable abbrev St:=L2.St
noncomputable instance:Monad R where
 pure:=R.ok
 bind:=R.bind
mutual
noncomputable def Is(K:PySem.W.Frag)(H:Hp):D->V->Prop
 | .non,v=>v = .non
 | .bl b,v=>v = .bl b
 | .int i,v=>v = .int i
 | .str x,v=>v = .str x
 | .tup ds,v=>∃a xs,v = .ref a/\SqT K H a xs/\IsAll K H ds xs
 | .lst ds,v=>∃a xs,v = .ref a/\SqL K H a xs/\IsAll K H ds xs
 | .dct,v=>∃a ob,v = .ref a/\H a=some (.frz ob (.own 0))/\ob.cls = .type "dict"
 | .exc c,v=>∃e oe C,v = .ref e/\H e=some (.frz oe (.own 0))/\oe.cls = .ref C/\PySem.W.nsIn K mainGlobals c.nm=some (some (.ref C))
noncomputable def IsAll(K:PySem.W.Frag)(H:Hp):List D->List V->Prop
 | [],xs=>xs=[]
 | d::ds,xs=>∃x r,xs=x::r/\Is K H d x/\IsAll K H ds r
end
structure Sub (K:PySem.W.Frag) (H H':Hp):Prop where
 t:∀a xs,SqT K H a xs->SqT K H' a xs
 l:∀a xs,SqL K H a xs->SqL K H' a xs
 x:∀a o u,H a=some (.frz o u)->H' a=some (.frz o u)
theorem z6e{K:PySem.W.Frag}{H H':Hp}{a:Addr}{xs:List V}(e:Same H H')(h:SqT K H a xs):SqT K H' a xs:=by
 rcases h with (h | ⟨o,h⟩) | h
 ·exact .inl (.inl (e _ _ h))
 ·exact .inl (.inr ⟨o,e _ _ h⟩)
 ·exact .inr h
theorem Sub.of_same{K:PySem.W.Frag}{H H':Hp}(e:Same H H'):Sub K H H':=⟨fun _ _ h=>z6e e h,fun _ _ h=>e.seq h,fun _ _ _ h=>e _ _ h⟩
mutual
theorem Is.sub{K:PySem.W.Frag}{H H':Hp}(s:Sub K H H'):∀(d:D) (v:V),Is K H d v->Is K H' d v
 | .non,_,h=>h
 | .bl _,_,h=>h
 | .int _,_,h=>h
 | .str _,_,h=>h
 | .tup ds,v,h=>by
   unfold Is at h ⊢
   obtain⟨a,xs,e,h1,h2⟩:=h
   exact⟨a,xs,e,s.t a xs h1,IsAll.sub s ds xs h2⟩
 | .lst ds,v,h=>by
   unfold Is at h ⊢
   obtain⟨a,xs,e,h1,h2⟩:=h
   exact⟨a,xs,e,s.l a xs h1,IsAll.sub s ds xs h2⟩
 | .dct,v,h=>by
   unfold Is at h ⊢
   obtain⟨a,ob,e,h1,h2⟩:=h
   exact⟨a,ob,e,s.x a ob _ h1,h2⟩
 | .exc c,v,h=>by
   unfold Is at h ⊢
   obtain⟨a,oe,C,e,h1,h2⟩:=h
   exact⟨a,oe,C,e,s.x a oe _ h1,h2⟩
theorem IsAll.sub{K:PySem.W.Frag}{H H':Hp}(s:Sub K H H'):∀(ds:List D) (xs:List V),IsAll K H ds xs->IsAll K H' ds xs
 | [],_,h=>h
 | d::ds,xs,h=>by
   unfold IsAll at h ⊢
   obtain⟨x,r,e,h1,h2⟩:=h
   exact⟨x,r,e,Is.sub s d x h1,IsAll.sub s ds r h2⟩
end
theorem Is.same{K:PySem.W.Frag}{H H':Hp}{d:D}{v:V}(h:Is K H d v)(e:Same H H'):Is K H' d v:=Is.sub (.of_same e) d v h
theorem IsAll.same{K:PySem.W.Frag}{H H':Hp}{ds:List D}{xs:List V}(h:IsAll K H ds xs)(e:Same H H'):IsAll K H' ds xs:=IsAll.sub (.of_same e) ds xs h
theorem Is.int_iff{K:PySem.W.Frag}{H:Hp}{i:Int}{v:V}:Is K H (.int i) v↔v = .int i:=by unfold Is;rfl
theorem Is.bl_iff{K:PySem.W.Frag}{H:Hp}{b:Bool}{v:V}:Is K H (.bl b) v↔v = .bl b:=by unfold Is;rfl
theorem Is.str_iff{K:PySem.W.Frag}{H:Hp}{x:Str}{v:V}:Is K H (.str x) v↔v = .str x:=by unfold Is;rfl
theorem Is.non_iff{K:PySem.W.Frag}{H:Hp}{v:V}:Is K H .non v↔v = .non:=by unfold Is;rfl
theorem Is.tup_iff{K:PySem.W.Frag}{H:Hp}{ds:List D}{v:V}:Is K H (.tup ds) v↔∃a xs,v = .ref a/\SqT K H a xs/\IsAll K H ds xs:=by conv=>lhs;unfold Is
theorem Is.lst_iff{K:PySem.W.Frag}{H:Hp}{ds:List D}{v:V}:Is K H (.lst ds) v↔∃a xs,v = .ref a/\SqL K H a xs/\IsAll K H ds xs:=by conv=>lhs;unfold Is
theorem IsAll.nil_iff{K:PySem.W.Frag}{H:Hp}{xs:List V}:IsAll K H [] xs↔xs=[]:=by unfold IsAll;rfl
theorem IsAll.cons_iff{K:PySem.W.Frag}{H:Hp}{d:D}{ds:List D}{xs:List V}:IsAll K H (d::ds) xs↔∃x r,xs=x::r/\Is K H d x/\IsAll K H ds r:=by conv=>lhs;unfold IsAll
theorem IsAll.nil{K:PySem.W.Frag}{H:Hp}:IsAll K H [] []:=IsAll.nil_iff.mpr rfl
theorem IsAll.cons{K:PySem.W.Frag}{H:Hp}{d:D}{ds:List D}{x:V}{xs:List V}(h:Is K H d x)(t:IsAll K H ds xs):IsAll K H (d::ds) (x::xs):=IsAll.cons_iff.mpr ⟨x,xs,rfl,h,t⟩
theorem IsAll.length{K:PySem.W.Frag}{H:Hp}:∀{ds:List D} {xs:List V},IsAll K H ds xs->ds.length=xs.length
 | [],xs,h=>by rw[IsAll.nil_iff.mp h];rfl
 | d::ds,xs,h=>by
   obtain⟨x,r,rfl,_,t⟩:=IsAll.cons_iff.mp h
   rw[List.length_cons,List.length_cons,IsAll.length t]
theorem IsAll.get{K:PySem.W.Frag}{H:Hp}:∀{ds:List D} {xs:List V} {i:Nat} {d:D},IsAll K H ds xs->ds[i]? = some d->∃x,xs[i]? = some x/\Is K H d x
 | [],_,_,_,_,e=>by simp at e
 | d::ds,xs,0,d',h,e=>by
   obtain⟨x,r,rfl,hx,t⟩:=IsAll.cons_iff.mp h
   simp at e;subst e
   exact⟨x,rfl,hx⟩
 | d::ds,xs,i+1,d',h,e=>by
   obtain⟨x,r,rfl,hx,t⟩:=IsAll.cons_iff.mp h
   obtain⟨y,e1,hy⟩:=IsAll.get (i:=i) t (by simpa using e)
   exact⟨y,by simpa using e1,hy⟩
theorem IsAll.getX{K:PySem.W.Frag}{H:Hp}{ds:List D}{xs:List V}{i:Nat}{x:V}(h:IsAll K H ds xs)(e:xs[i]? = some x):∃d,ds[i]? = some d/\Is K H d x:=by
 have hi:i<xs.length:=(List.getElem?_eq_some_iff.mp e).1
 have hd:i<ds.length:=by rw[h.length];exact hi
 obtain⟨y,e1,hy⟩:=h.get (List.getElem?_eq_getElem hd)
 rw[e] at e1;cases e1
 exact⟨_,List.getElem?_eq_getElem hd,hy⟩
theorem IsAll.append{K:PySem.W.Frag}{H:Hp}:∀{ds es:List D} {xs ys:List V},IsAll K H ds xs->IsAll K H es ys->IsAll K H (ds++es) (xs++ys)
 | [],_,_,_,h,t=>by rw[IsAll.nil_iff.mp h];exact t
 | d::ds,es,xs,ys,h,t=>by
   obtain⟨x,r,rfl,hx,tr⟩:=IsAll.cons_iff.mp h
   exact IsAll.cons hx (IsAll.append tr t)
theorem IsAll.drop{K:PySem.W.Frag}{H:Hp}:∀{ds:List D} {xs:List V} (n:Nat),IsAll K H ds xs->IsAll K H (ds.drop n) (xs.drop n)
 | _,_,0,h=>h
 | [],xs,n+1,h=>by rw[IsAll.nil_iff.mp h];exact IsAll.nil
 | d::ds,xs,n+1,h=>by
   obtain⟨x,r,rfl,hx,tr⟩:=IsAll.cons_iff.mp h
   exact IsAll.drop n tr
theorem IsAll.take{K:PySem.W.Frag}{H:Hp}:∀{ds:List D} {xs:List V} (n:Nat),IsAll K H ds xs->IsAll K H (ds.take n) (xs.take n)
 | _,_,0,_=>by rw[List.take_zero,List.take_zero];exact IsAll.nil
 | [],xs,n+1,h=>by rw[IsAll.nil_iff.mp h];exact IsAll.nil
 | d::ds,xs,n+1,h=>by
   obtain⟨x,r,rfl,hx,tr⟩:=IsAll.cons_iff.mp h
   exact IsAll.cons hx (IsAll.take n tr)
theorem IsAll.set{K:PySem.W.Frag}{H:Hp}{d':D}{x':V}(q:Is K H d' x'):∀{ds:List D} {xs:List V} (n:Nat),IsAll K H ds xs->IsAll K H (ds.set n d') (xs.set n x')
 | [],xs,n,h=>by rw[IsAll.nil_iff.mp h];exact IsAll.nil
 | d::ds,xs,0,h=>by
   obtain⟨x,r,rfl,hx,tr⟩:=IsAll.cons_iff.mp h
   exact IsAll.cons q tr
 | d::ds,xs,n+1,h=>by
   obtain⟨x,r,rfl,hx,tr⟩:=IsAll.cons_iff.mp h
   exact IsAll.cons hx (IsAll.set q n tr)
theorem IsAll.ints{K:PySem.W.Frag}{H:Hp}:∀ns:List Int,IsAll K H (ns.map D.int) (ns.map V.int)
 | []=>IsAll.nil
 | n::ns=>IsAll.cons (Is.int_iff.mpr rfl) (IsAll.ints ns)
theorem IsAll.ints_eq{K:PySem.W.Frag}{H:Hp}:∀{ns:List Int} {xs:List V},IsAll K H (ns.map D.int) xs->xs=ns.map V.int
 | [],xs,h=>IsAll.nil_iff.mp h
 | n::ns,xs,h=>by
   obtain⟨x,r,rfl,hx,tr⟩:=IsAll.cons_iff.mp h
   rw[Is.int_iff.mp hx,IsAll.ints_eq tr];rfl
noncomputable def hid(F:List Addr)(H:Hp):Hp:=fun b=>if b∈F then none else H b
theorem y4v{F:List Addr}{H:Hp}{b:Addr}(h:b∈F):hid F H b=none:=by unfold hid;rw[if_pos h]
theorem z1j{F:List Addr}{H:Hp}{b:Addr}(h:b ∉ F):hid F H b=H b:=by unfold hid;rw[if_neg h]
theorem z2v{F:List Addr}{H:Hp}{b:Addr}{o:HO}(h:hid F H b=some o):b ∉ F/\H b=some o:=by
 unfold hid at h
 by_cases q:b∈F
 ·rw[if_pos q] at h;cases h
 ·rw[if_neg q] at h;exact⟨q,h⟩
noncomputable def FOk(H:Hp)(F:List Addr):Prop:=∀b∈F,∃xs,H b=some (.lst xs)
theorem FOk.same{H H':Hp}{F:List Addr}(h:FOk H F)(e:Same H H'):FOk H' F:=fun b hb=>let ⟨xs,q⟩:=h b hb;⟨xs,e _ _ q⟩
theorem FOk.nil{H:Hp}:FOk H []:=fun b hb=>by simp at hb
theorem FOk.cons{H:Hp}{F:List Addr}{a:Addr}{xs:List V}(h:FOk H F)(e:H a=some (.lst xs)):FOk H (a::F):=fun b hb=>by
 rcases List.mem_cons.mp hb with z | z
 ·subst z;exact⟨xs,e⟩
 ·exact h b z
theorem x4a{H:Hp}{F:List Addr}{a:Addr}:Same (hid (a::F) H) (hid F H):=fun b o h=>by
 obtain⟨h1,h2⟩:=z2v h
 rw[z1j fun z=>h1 (List.mem_cons_of_mem _ z)];exact h2
theorem x1n{H H':Hp}{F:List Addr}{a:Addr}(e:Same H H')(hn:H a=none):Same (hid F H) (hid (a::F) H'):=fun b o h=>by
 obtain⟨h1,h2⟩:=z2v h
 rw[z1j fun z=>(List.mem_cons.mp z).elim (fun q=>by rw[q,hn] at h2;cases h2) h1]
 exact e _ _ h2
theorem z1y{H H':Hp}{F:List Addr}(e:Same H H'):Same (hid F H) (hid F H'):=fun b o h=>by
 obtain⟨h1,h2⟩:=z2v h
 rw[z1j h1];exact e _ _ h2
theorem z4a{H:Hp}{F:List Addr}:Same (hid F H) H:=fun b o h=>(z2v h).2
theorem x0b{K:PySem.W.Frag}{H:Hp}{F:List Addr}{a:Addr}{xs:List V}(fo:FOk H F)(h:SqT K H a xs):SqT K (hid F H) a xs:=by
 rcases h with (h1 | ⟨o,h1⟩) | h1
 ·refine .inl (.inl ?_)
  rw[z1j fun q=>by obtain⟨ys,z⟩:=fo a q;rw[h1] at z;cases z];exact h1
 ·refine .inl (.inr ⟨o,?_⟩)
  rw[z1j fun q=>by obtain⟨ys,z⟩:=fo a q;rw[h1] at z;cases z];exact h1
 ·exact .inr h1
mutual
theorem Is.hid{K:PySem.W.Frag}{H:Hp}{F:List Addr}(fo:FOk H F):∀(d:D) (v:V),d.noL=true->Is K H d v->Is K (hid F H) d v
 | .non,_,_,h=>h
 | .bl _,_,_,h=>h
 | .int _,_,_,h=>h
 | .str _,_,_,h=>h
 | .tup ds,v,n,h=>by
   obtain⟨a,xs,e,h1,h2⟩:=Is.tup_iff.mp h
   exact Is.tup_iff.mpr ⟨a,xs,e,x0b fo h1,IsAll.hid fo ds xs (by simpa [D.noL] using n) h2⟩
 | .lst ds,v,n,h=>by simp[D.noL] at n
 | .dct,v,n,h=>by simp[D.noL] at n
 | .exc c,v,n,h=>by
   unfold Is at h ⊢
   obtain⟨a,oe,C,e,h1,h2⟩:=h
   refine⟨a,oe,C,e,?_,h2⟩
   rw[z1j fun q=>by obtain⟨ys,z⟩:=fo a q;rw[h1] at z;cases z];exact h1
theorem IsAll.hid{K:PySem.W.Frag}{H:Hp}{F:List Addr}(fo:FOk H F):∀(ds:List D) (xs:List V),D.noLs ds=true->IsAll K H ds xs->IsAll K (hid F H) ds xs
 | [],_,_,h=>h
 | d::ds,xs,n,h=>by
   obtain⟨x,r,e,h1,h2⟩:=IsAll.cons_iff.mp h
   have n':d.noL=true/\D.noLs ds=true:=by simpa [D.noLs] using n
   exact IsAll.cons_iff.mpr ⟨x,r,e,Is.hid fo d x n'.1 h1,IsAll.hid fo ds r n'.2 h2⟩
end
structure Rel (K:PySem.W.Frag) (H:Hp) (F:List Addr) (Γ:G) (σ:St):Prop where
 len:Γ.length=σ.length
 ro:∀(i:Nat) d,Γ[i]? = some (.ro d)->∃v,σ[i]? = some (some v)/\Is K (hid F H) d v
 own:∀(i:Nat) ds,Γ[i]? = some (.own ds)->∃a xs,σ[i]? = some (some (.ref a))/\a∈F/\H a=some (.lst xs)/\IsAll K (hid F H) ds xs
 inj:∀(i j:Nat) ds es a,Γ[i]? = some (.own ds)->Γ[j]? = some (.own es)->σ[i]? = some (some (.ref a))->σ[j]? = some (some (.ref a))->i=j
theorem Rel.same{K:PySem.W.Frag}{H H':Hp}{F:List Addr}{Γ:G}{σ:St}(r:Rel K H F Γ σ)(e:Same H H'):Rel K H' F Γ σ :=
 ⟨r.len,fun i d h=>let ⟨v,h1,h2⟩:=r.ro i d h;⟨v,h1,h2.same (z1y e)⟩,fun i ds h=>let ⟨a,xs,h1,h2,h3,h4⟩:=r.own i ds h;⟨a,xs,h1,h2,e _ _ h3,h4.same (z1y e)⟩,r.inj⟩
theorem Rel.look{K:PySem.W.Frag}{H:Hp}{F:List Addr}{Γ:G}{σ:St}(r:Rel K H F Γ σ){i:Nat}{d:D}(h:lk Γ i = .ok d):∃v,σ[i]? = some (some v)/\Is K H d v:=by
 unfold lk at h
 cases e:Γ[i]? with
 | none=>rw[e] at h;cases h
 | some en =>
   rw[e] at h
   cases en with
   | no=>cases h
   | ro d'=>cases h;obtain⟨v,h1,h2⟩:=r.ro i d e;exact⟨v,h1,h2.same z4a⟩
   | own ds =>
     cases h
     obtain⟨a,xs,h1,h2,h3,h4⟩:=r.own i ds e
     exact⟨.ref a,h1,Is.lst_iff.mpr ⟨a,xs,rfl,SqL.of h3,h4.same z4a⟩⟩
theorem Rel.lookr{K:PySem.W.Frag}{H:Hp}{F:List Addr}{Γ:G}{σ:St}(r:Rel K H F Γ σ){i:Nat}{d:D}(h:lkr Γ i = .ok d):∃v,σ[i]? = some (some v)/\Is K (hid F H) d v:=by
 unfold lkr at h
 cases e:Γ[i]? with
 | none=>rw[e] at h;cases h
 | some en =>
   rw[e] at h
   cases en with
   | no=>cases h
   | ro d'=>cases h;exact r.ro i d e
   | own ds=>cases h
structure Ext (H:Hp) (F:List Addr) (H':Hp) (F':List Addr):Prop where
 keep:∀b o,b ∉ F->H b=some o->H' b=some o
 old:∀b,b∈F'->b∈F∨H b=none
theorem Ext.refl{H:Hp}{F:List Addr}:Ext H F H F:=⟨fun _ _ _ h=>h,fun _ h=>.inl h⟩
theorem Ext.of_same{H H':Hp}{F:List Addr}(e:Same H H'):Ext H F H' F:=⟨fun _ _ _ h=>e _ _ h,fun _ h=>.inl h⟩
theorem Ext.trans{H H1 H2:Hp}{F F1 F2:List Addr}(a:Ext H F H1 F1)(b:Ext H1 F1 H2 F2):Ext H F H2 F2 where
 keep:=fun c o hc h=>b.keep c o (fun z=>(a.old c z).elim hc fun n=>by rw[h] at n;cases n) (a.keep c o hc h)
 old:=fun c hc=>by
  rcases b.old c hc with h | h
  ·exact a.old c h
  ·by_cases q:c∈F
   ·exact .inl q
   ·refine .inr ?_
    cases e:H c with
    | none=>rfl
    | some o=>rw[a.keep c o q e] at h;cases h
theorem Ext.same{H H':Hp}{F':List Addr}(e:Ext H [] H' F'):Same H H':=fun b o h=>e.keep b o (by simp) h
theorem Ext.hid{H H':Hp}{F F':List Addr}(e:Ext H F H' F'):Same (hid F H) (hid F' H'):=fun b o h=>by
 obtain⟨h1,h2⟩:=z2v h
 have h3:=e.keep b o h1 h2
 rw[z1j fun z=>(e.old b z).elim h1 fun n=>by rw[h2] at n;cases n]
 exact h3
noncomputable def y5p(X:Cx)(pins:List (Addr×Obj))(σ:St)(H:Hp)(c:Er)(x:Value)(s:Shared):Prop :=
 Inv X pins σ H s/\∃(e C:Addr) (oe:Obj) (vs:Array Value),x = .ref e/\X.mg c.nm=some (.ref C)/\H e=none/\X.s₀.heap.get? e=none/\e≠X.env.locals/\(∀y k,X.env.cells.lookup y=some k->k≠e)/\(∀p∈X.pn++pins,p.1≠e) /\
  s.heap.get? e=some oe/\oe.cls = .ref C/\oe.data = .fields vs/\(∃a0,vs[0]? = some a0) /\
  (vs[1]? = some .none∨∃(T:Addr) (oT:Obj) (ts:Array Value),vs[1]? = some (.ref T)/\H T=none/\X.s₀.heap.get? T=none/\T≠X.env.locals/\(∀y k,X.env.cells.lookup y=some k->k≠T)/\(∀p∈X.pn++pins,p.1≠T)/\T≠e /\
    s.heap.get? T=some oT/\oT.data = .fields ts/\(ts[3]? = some .none∨∃L,X.env.frame=some L/\ts[3]? = some (rawInt L)))
noncomputable def Post(X:Cx)(pins:List (Addr×Obj))(σ:St)(H:Hp)(r:R D)(u:Value)(s':Shared):Prop :=
 ∃d v H',r = .ok d/\Inv X pins σ H' s'/\RelV v u/\Same H H'/\Is X.K H' d v
noncomputable def z1n{α:Type}(X:Cx)(pins:List (Addr×Obj))(σ:St)(H:Hp)(r:R α)(x:Value)(s':Shared):Prop :=
 ∃c H',r = .er c/\Same H H'/\y5p X pins σ H' c x s'
theorem z1n.bind{α β:Type}{X:Cx}{pins:List (Addr×Obj)}{σ:St}{H:Hp}{r:R α}{x:Value}{s':Shared}(h:z1n X pins σ H r x s')(k:α->R β):z1n X pins σ H (r>>=k) x s':=by
 obtain⟨c,H',e,h1,h2⟩:=h
 exact⟨c,H',R.stop e k,h1,h2⟩
theorem z1n.later{α β:Type}{X:Cx}{pins:List (Addr×Obj)}{σ:St}{H H1:Hp}{r:R α}{a:α}{k:α->R β}{x:Value}{s':Shared}(e:r = .ok a)(s:Same H H1)(h:z1n X pins σ H1 (k a) x s'):z1n X pins σ H (r>>=k) x s':=by
 obtain⟨c,H',e1,h1,h2⟩:=h
 exact⟨c,H',(R.step e k).trans e1,s.trans h1,h2⟩
structure PD (X:Cx) (e:Expr) (g:G->R D):Prop where
 run:∀(pins:List (Addr×Obj)) (s:Shared) (σ:St) (H:Hp) (F:List Addr) (Γ:G),Inv X pins σ H s->FOk H F->Rel X.K H F Γ σ->g Γ ≠ .no ->
  wpAny (model X.prog X.w) X.A (eval e X.env) (Post X pins σ H (g Γ)) (z1n X pins σ H (g Γ)) s
structure PDr (X:Cx) (e:Expr) (g:G->R D):Prop where
 run:∀(pins:List (Addr×Obj)) (s:Shared) (σ:St) (H:Hp) (F:List Addr) (Γ:G),Inv X pins σ H s->FOk H F->Rel X.K H F Γ σ->g Γ ≠ .no ->
  wpAny (model X.prog X.w) X.A (eval e X.env) (fun u s'=>∃d v H',g Γ = .ok d/\Inv X pins σ H' s'/\RelV v u/\Same H H'/\Is X.K (hid F H') d v) (z1n X pins σ H (g Γ)) s
structure PF (X:Cx) (e:Expr) (g:G->R (List D)):Prop where
 run:∀(pins:List (Addr×Obj)) (s:Shared) (σ:St) (H:Hp) (F:List Addr) (Γ:G),Inv X pins σ H s->FOk H F->Rel X.K H F Γ σ->g Γ ≠ .no ->
  wpAny (model X.prog X.w) X.A (eval e X.env) (fun u s'=>∃ds a xs H',g Γ = .ok ds/\Inv X pins σ H' s'/\u = .ref a/\Same H H'/\H a=none/\H' a=some (.lst xs)/\IsAll X.K (hid (a::F) H') ds xs) (z1n X pins σ H (g Γ)) s
structure PTD (X:Cx) (e:Expr) (g:G->R Bool):Prop where
 run:∀(pins:List (Addr×Obj)) (s:Shared) (σ:St) (H:Hp) (F:List Addr) (Γ:G),Inv X pins σ H s->FOk H F->Rel X.K H F Γ σ->g Γ ≠ .no ->
  wpAny (model X.prog X.w) X.A (isTrue e X.env (eval e X.env)) (fun b s'=>∃H',g Γ = .ok b/\Inv X pins σ H' s'/\Same H H') (z1n X pins σ H (g Γ)) s
structure PWD (X:Cx) (e:Expr) (g:G->R Bool):Prop where
 run:∀(whole:Sem Value) (pins:List (Addr×Obj)) (s:Shared) (σ:St) (H:Hp) (F:List Addr) (Γ:G),Inv X pins σ H s->FOk H F->Rel X.K H F Γ σ->g Γ ≠ .no ->
  wpAny (model X.prog X.w) X.A (isTrue e X.env whole) (fun b s'=>∃H',g Γ = .ok b/\Inv X pins σ H' s'/\Same H H') (z1n X pins σ H (g Γ)) s
theorem PWD.pt{X:Cx}{e:Expr}{g:G->R Bool}(h:PWD X e g):PTD X e g:=⟨h.run _⟩
structure PAD (X:Cx) (es:List Expr) (g:G->R (List D)):Prop where
 run:∀(pos:Pos) (pins:List (Addr×Obj)) (s:Shared) (σ:St) (H:Hp) (F:List Addr) (Γ:G),Inv X pins σ H s->FOk H F->Rel X.K H F Γ σ->g Γ ≠ .no ->
  wpAny (model X.prog X.w) X.A (spliced (backTo pos (starEach es X.env))) (fun us s'=>∃ds vs H',g Γ = .ok ds/\Inv X pins σ H' s'/\Vals vs us/\Same H H'/\IsAll X.K H' ds vs) (z1n X pins σ H (g Γ)) s
section
variable {X:Cx}{e a b c:Expr}{g ga gb gc:G->R D}{pos:Pos}
theorem PDr.pd(h:PDr X e g):PD X e g:=⟨fun pins s σ H F Γ I fo rl hg =>
 thn (h.run pins s σ H F Γ I fo rl hg) fun _ _ ⟨d,v,H',e1,I',r,S,i⟩=>⟨d,v,H',e1,I',r,S,i.same z4a⟩⟩
theorem PD.ro(h:PD X e g):PDr X e (gNL g):=⟨fun pins s σ H F Γ I fo rl hg =>
 wpAny_mono (h.run pins s σ H F Γ I fo rl (R.left hg)) (fun _ _ ⟨d,v,H',e1,I',r,S,i⟩=>by
  have hgx:=R.next hg e1
  obtain⟨n,e2⟩:=R.guard_ne hgx
  exact⟨d,v,H',(R.step e1 _).trans e2,I',r,S,Is.hid (fo.same S) d v n i⟩) fun _ _ x=>x.bind _⟩
theorem PF.ro{g:G->R (List D)}(h:PF X e g):PDr X e (gL g):=⟨fun pins s σ H F Γ I fo rl hg =>
 wpAny_mono (h.run pins s σ H F Γ I fo rl (R.left hg)) (fun _ _ ⟨ds,p,xs,H',e1,I',eu,S,hn,hp,i⟩=>by
  have hF:p ∉ F:=fun z=>by obtain⟨ys,q⟩:=fo p z;rw[hn] at q;cases q
  exact⟨.lst ds,.ref p,H',(R.step e1 _),I',eu,S,Is.lst_iff.mpr ⟨p,xs,rfl,SqL.of (by rw[z1j hF];exact hp),i.same x4a⟩⟩) fun _ _ x=>x.bind _⟩
theorem PF.pd{g:G->R (List D)}(h:PF X e g):PD X e (gL g):=h.ro.pd
theorem PD.of{t:TE}(h:PE X.nox e t)(hq:∀σ H F Γ,FOk H F->Rel X.K H F Γ σ->g Γ ≠ .no->t σ H fun v H'=>∃d,g Γ = .ok d/\Same H H'/\Is X.K H' d v):PD X e g:=⟨fun pins s σ H F Γ I fo rl hg =>
 wpAny_mono (h pins s σ H _ (I.wish _) (hq σ H F Γ fo rl hg)) (fun _ _ ⟨v,H',I',r,d,e1,S,i⟩=>⟨d,v,H',e1,I'.unwish,r,S,i⟩) fun _ _ z=>False.elim z⟩
theorem z0b(i:Nat){x:Str}(hN:X.N[i]? = some x:=by rfl)(hv:Vis X.env.scope x:=by first | exact Or.inl rfl | exact Or.inr (Or.inl rfl) | exact Or.inr (Or.inr rfl))(hd:(x==("__debug__":Str))=false:=by decide)
 (hcd:(x==("__classdict__":Str))=false:=by decide):PD X (.Name x pos) (gV i) :=
 PD.of (t:=tVar i) (y4m (X:=X.nox) hN hv hd hcd) fun σ H F Γ fo rl hg=>by
  obtain⟨d,e⟩:=x9u hg
  obtain⟨v,h1,h2⟩:=rl.look e
  exact⟨v,h1,d,e,.refl _,h2⟩
theorem z4s(i:Nat){x:Str}(hN:X.N[i]? = some x:=by rfl)(hv:Vis X.env.scope x:=by first | exact Or.inl rfl | exact Or.inr (Or.inl rfl) | exact Or.inr (Or.inr rfl))(hd:(x==("__debug__":Str))=false:=by decide)
 (hcd:(x==("__classdict__":Str))=false:=by decide):PDr X (.Name x pos) (gVr i):=by
 refine⟨fun pins s σ H F Γ I fo rl hg=>?_⟩
 obtain⟨d,e⟩:=x8k hg
 obtain⟨v,h1,h2⟩:=rl.lookr e
 exact wpAny_mono (y4m (X:=X.nox) hN hv hd hcd pins s σ H (fun v' H'=>v'=v/\H'=H) (I.wish _) ⟨v,h1,rfl,rfl⟩) (fun _ _ ⟨v',H',I',r,e1,e2⟩=>by
  subst e1 e2
  exact⟨d,v',H',e,I'.unwish,r,.refl _,h2⟩) fun _ _ z=>False.elim z
theorem z0f{i:Int}{j}:PD X (.Constant (.int i) j pos) (gC (.int i)):=PD.of (t:=tC (.int i)) x7z fun _ _ _ _ _ _ _=>⟨_,rfl,.refl _,Is.int_iff.mpr rfl⟩
theorem y1p{b:Bool}{j}:PD X (.Constant (.bool b) j pos) (gC (.bl b)):=PD.of (t:=tC (.bl b)) x9o fun _ _ _ _ _ _ _=>⟨_,rfl,.refl _,Is.bl_iff.mpr rfl⟩
theorem y4o{j}:PD X (.Constant .none j pos) (gC .non):=PD.of (t:=tC .non) x7y fun _ _ _ _ _ _ _=>⟨_,rfl,.refl _,Is.non_iff.mpr rfl⟩
theorem z8r{x:Str}{j}:PD X (.Constant (.str x) j pos) (gC (.str x)):=PD.of (t:=tC (.str x)) x7x fun _ _ _ _ _ _ _=>⟨_,rfl,.refl _,Is.str_iff.mpr rfl⟩
noncomputable def OpD(X:Cx)(f:Value->Value->Sem Value)(g:D->D->R D):Prop:=∃r:R2,OpR X.nox f r/\∀H x y dx dy,Is X.K H dx x->Is X.K H dy y->g dx dy ≠ .no->r x y H fun z H'=>∃d,g dx dy = .ok d/\Same H H'/\Is X.K H' d z
theorem OpD.run{f:Value->Value->Sem Value}{g:D->D->R D}(h:OpD X f g){pins:List (Addr×Obj)}{s:Shared}{σ:St}{H:Hp}{x y:V}{v u:Value}{dx dy:D}(I:Inv X pins σ H s)(rx:RelV x v)(ry:RelV y u)
 (ix:Is X.K H dx x) (iy:Is X.K H dy y) (hg:g dx dy ≠ .no) {E:Value->Shared->Prop}:wpAny (model X.prog X.w) X.A (f v u) (Post X pins σ H (g dx dy)) E s:=by
 obtain⟨r,ho,hr⟩:=h
 exact wpAny_mono (ho pins s σ H x y v u _ (I.wish _) rx ry (hr H x y dx dy ix iy hg)) (fun _ _ ⟨z,H',I',rz,d,e,S,i⟩=>⟨d,z,H',e,I'.unwish,rz,S,i⟩) fun _ _ z=>False.elim z
theorem Post.bind{pins:List (Addr×Obj)}{σ:St}{H H1:Hp}{α:Type}{r:R α}{k:α->R D}{a:α}{u:Value}{s':Shared}(e:r = .ok a)(S:Same H H1)(h:Post X pins σ H1 (k a) u s'):Post X pins σ H (r>>=k) u s':=by
 obtain⟨d,v,H',e1,I,rv,S1,i⟩:=h
 exact⟨d,v,H',(R.step e k).trans e1,I,rv,S.trans S1,i⟩
theorem binD{g2:D->D->R D}{f:Value->Value->Sem Value}(ho:OpD X f g2)(ha:PD X a ga)(hb:PD X b gb){pins:List (Addr×Obj)}{s:Shared}{σ:St}{H:Hp}{F:List Addr}{Γ:G}(I:Inv X pins σ H s)(fo:FOk H F)(rl:Rel X.K H F Γ σ)(hg:gBin g2 ga gb Γ ≠ .no) :
 wpAny (model X.prog X.w) X.A (eval a X.env) (fun v s₁=>wpAny (model X.prog X.w) X.A (eval b X.env) (fun u s₂=>wpAny (model X.prog X.w) X.A (f v u) (Post X pins σ H (gBin g2 ga gb Γ)) (z1n X pins σ H (gBin g2 ga gb Γ)) s₂) (z1n X pins σ H (gBin g2 ga gb Γ)) s₁) (z1n X pins σ H (gBin g2 ga gb Γ)) s:=by
 refine wpAny_mono (ha.run pins s σ H F Γ I fo rl (R.left hg)) (fun v s1 ⟨dx,x,H1,e1,I1,r1,S1,i1⟩=>?_) fun _ _ x=>x.bind _
 have hg1:=R.next hg e1
 refine wpAny_mono (hb.run pins s1 σ H1 F Γ I1 (fo.same S1) (rl.same S1) (R.left hg1)) (fun u s2 ⟨dy,y,H2,e2,I2,r2,S2,i2⟩=>?_) fun _ _ x=>z1n.later e1 S1 (x.bind _)
 have hg2:=R.next hg1 e2
 exact thn (ho.run I2 r1 r2 (i1.same S2) i2 hg2) fun _ _ q=>Post.bind e1 S1 (Post.bind e2 S2 q)
theorem z0s{op:Operator}{g2:D->D->R D}(ho:OpD X (binaryOp op) g2)(ha:PD X a ga)(hb:PD X b gb):PD X (.BinOp a op b pos) (gBin g2 ga gb):=⟨fun pins s σ H F Γ I fo rl hg=>wpAny_BinOp (binD ho ha hb I fo rl hg)⟩
theorem x8b{op:CmpOp}{g2:D->D->R D}(ho:OpD X (compareOp op) g2)(ha:PD X a ga)(hb:PD X b gb)(hm:behindInMarks op b=false):PD X (.Compare a [op] [b] pos) (gBin g2 ga gb):=⟨fun pins s σ H F Γ I fo rl hg=>wpAny_Compare1 (binD ho ha hb I fo rl hg) hm⟩
theorem y0l{pins:List (Addr×Obj)}{σ:St}{H:Hp}{r:R D}{u:Value}{s':Shared}(h:Post X pins σ H r u s')(hg:(r>>=asB) ≠ .no):∃b H',u = .bool b/\(r>>=asB) = .ok b/\Inv X pins σ H' s'/\Same H H':=by
 obtain⟨d,v,H',e1,I,rv,S,i⟩:=h
 obtain⟨b,rfl,e2⟩:=x5i (R.next hg e1)
 rw[Is.bl_iff.mp i] at rv
 exact⟨b,H',rv,(R.step e1 _).trans e2,I,S⟩
theorem z1c{op:CmpOp}{g2:D->D->R D}(ho:OpD X (compareOp op) g2)(ha:PD X a ga)(hb:PD X b gb)(hm:behindInMarks op b=false):PTD X (.Compare a [op] [b] pos) (gT (gBin g2 ga gb)):=by
 refine⟨fun pins s σ H F Γ I fo rl hg=>?_⟩
 refine wpAny_isTrue_Compare1 (wpAny_mono (binD ho ha hb I fo rl (R.left hg)) (fun v s1 h1=>wpAny_mono h1 (fun u s2 h2=>wpAny_mono h2 (fun z s3 h3=>?_) fun _ _ x=>x.bind _) fun _ _ x=>x.bind _) fun _ _ x=>x.bind _) hm
 obtain⟨b,H',rfl,e,I',S⟩:=y0l h3 hg
 exact wpAny_truthy_bool ⟨H',e,I',S⟩
theorem z7f(ha:PD X a ga)(he:∀whole,isTrue a X.env whole=(do let v <-whole;standAt a.pos;holding [v] (truthy v)):=by intro _;rfl):PTD X a (gT ga):=by
 refine⟨fun pins s σ H F Γ I fo rl hg=>?_⟩
 refine isTrue_plain (wpAny_mono (ha.run pins s σ H F Γ I fo rl (R.left hg)) (fun v s1 h3=>?_) fun _ _ x=>x.bind _) (he _)
 obtain⟨b,H',rfl,e,I',S⟩:=y0l h3 hg
 exact wpAny_truthy_bool ⟨H',e,I',S⟩
theorem x0j{op op':CmpOp}{g2 g2':D->D->R D}(ho:OpD X (compareOp op) g2)(ho':OpD X (compareOp op') g2')(ha:PD X a ga)(hb:PD X b gb)(hc:PD X c gc)
 (hm:lastMarks [op,op'] [b,c]=false:=by with_unfolding_all rfl):PTD X (.Compare a [op,op'] [b,c] pos) (gT (z6g g2 g2' ga gb gc)):=by
 refine⟨fun pins s σ H F Γ I fo rl hg=>?_⟩
 have hg0:=R.left hg
 refine isTrue_chain (wpAny_mono (ha.run pins s σ H F Γ I fo rl (R.left hg0)) (fun v s1 ⟨dx,x,H1,e1,I1,r1,S1,i1⟩=>test_link ?_) fun _ _ x=>(x.bind _).bind _) hm
 have hg1:=R.next hg0 e1
 refine wpAny_mono (hb.run pins s1 σ H1 F Γ I1 (fo.same S1) (rl.same S1) (R.left hg1)) (fun u s2 ⟨dy,y,H2,e2,I2,r2,S2,i2⟩=>?_) fun _ _ x=>(z1n.later e1 S1 (x.bind _)).bind _
 have hg2:=R.next hg1 e2
 refine thn (ho.run I2 r1 r2 (i1.same S2) i2 (R.left hg2)) fun z s3 h3=>?_
 obtain⟨d,v3,H3,e3,I3,r3,S3,i3⟩:=h3
 have hg3:=R.next hg2 e3
 obtain⟨k,rfl,e4⟩:=x5i (R.left hg3)
 have hg4:=R.next hg3 e4
 rw[Is.bl_iff.mp i3] at r3
 cases r3
 refine wpAny_truthy_bool ?_
 have fin:∀{w:Value} {s':Shared},Post X pins σ H (z6g g2 g2' ga gb gc Γ) w s'->∃b H',w = .bool b/\gT (z6g g2 g2' ga gb gc) Γ = .ok b/\Inv X pins σ H' s'/\Same H H':=fun q=>y0l q hg
 cases k with
 | false =>
   obtain⟨b',H',eb,e',I',S'⟩:=fin (Post.bind e1 S1 (Post.bind e2 S2 (Post.bind e3 S3 (Post.bind e4 (.refl _) ⟨.bl false,.bl false,H3,rfl,I3,rfl,.refl _,Is.bl_iff.mpr rfl⟩))))
   cases eb
   exact ite_ff ⟨H',e',I',S'⟩
 | true =>
   refine ite_tt (test_last (wpAny_mono (hc.run pins s3 σ H3 F Γ I3 ((fo.same S1).same S2 |>.same S3) (((rl.same S1).same S2).same S3) (R.left hg4)) (fun w' s4 ⟨dz,z',H4,e5,I4,r4,S4,i4⟩=>?_) fun _ _ x=>(z1n.later e1 S1 (z1n.later e2 S2 (z1n.later e3 S3 (z1n.later e4 (.refl _) (x.bind _))))).bind _))
   refine thn (ho'.run I4 r2 r4 ((i2.same S3).same S4) i4 (R.next hg4 e5)) fun z s5 q=>?_
   obtain⟨b',H',rfl,e',I',S'⟩:=fin (Post.bind e1 S1 (Post.bind e2 S2 (Post.bind e3 S3 (Post.bind e4 (.refl _) (Post.bind e5 S4 q)))))
   exact wpAny_truthy_bool ⟨H',e',I',S'⟩
variable {gA gB:G->R Bool}{rest:List Expr}
theorem y7d(ha:PTD X a gA):PWD X (.BoolOp .And [a] pos) gA:=by
 refine⟨fun wh pins s σ H F Γ I fo rl hg=>?_⟩
 refine isTrue_and (thn (ha.run pins s σ H F Γ I fo rl hg) fun c s1 e=>?_)
 cases c with
 | true=>exact isTrue_and_nil e
 | false=>exact e
theorem z8b(ha:PTD X a gA):PWD X (.BoolOp .Or [a] pos) gA:=by
 refine⟨fun wh pins s σ H F Γ I fo rl hg=>?_⟩
 refine isTrue_or (thn (ha.run pins s σ H F Γ I fo rl hg) fun c s1 e=>?_)
 cases c with
 | false=>exact isTrue_or_nil e
 | true=>exact e
theorem y5u(ha:PTD X a gA)(hb:PWD X (.BoolOp .And (b::rest) pos) gB):PWD X (.BoolOp .And (a::b::rest) pos) (gAnd gA gB):=by
 refine⟨fun wh pins s σ H F Γ I fo rl hg=>?_⟩
 refine isTrue_and (wpAny_mono (ha.run pins s σ H F Γ I fo rl (R.left hg)) (fun c s1 ⟨H1,e1,I1,S1⟩=>?_) fun _ _ x=>x.bind _)
 have hg1:=R.next hg e1
 cases c with
 | true=>exact wpAny_mono (hb.run wh pins s1 σ H1 F Γ I1 (fo.same S1) (rl.same S1) hg1) (fun _ _ ⟨H2,e2,I2,S2⟩=>⟨H2,(R.step e1 _).trans e2,I2,S1.trans S2⟩) fun _ _ x=>z1n.later e1 S1 x
 | false=>exact⟨H1,R.step e1 _,I1,S1⟩
theorem z8p(ha:PTD X a gA)(hb:PWD X (.BoolOp .Or (b::rest) pos) gB):PWD X (.BoolOp .Or (a::b::rest) pos) (gOr gA gB):=by
 refine⟨fun wh pins s σ H F Γ I fo rl hg=>?_⟩
 refine isTrue_or (wpAny_mono (ha.run pins s σ H F Γ I fo rl (R.left hg)) (fun c s1 ⟨H1,e1,I1,S1⟩=>?_) fun _ _ x=>x.bind _)
 have hg1:=R.next hg e1
 cases c with
 | false=>exact wpAny_mono (hb.run wh pins s1 σ H1 F Γ I1 (fo.same S1) (rl.same S1) hg1) (fun _ _ ⟨H2,e2,I2,S2⟩=>⟨H2,(R.step e1 _).trans e2,I2,S1.trans S2⟩) fun _ _ x=>z1n.later e1 S1 x
 | true=>exact⟨H1,R.step e1 _,I1,S1⟩
theorem z7g(ha:PTD X a gA):PTD X (.UnaryOp .Not a pos) (gNot gA):=⟨fun pins s σ H F Γ I fo rl hg =>
 isTrue_not (wpAny_mono (ha.run pins s σ H F Γ I fo rl (R.left hg)) (fun c s1 ⟨H1,e1,I1,S1⟩=>⟨H1,R.step e1 _,I1,S1⟩) fun _ _ x=>x.bind _)⟩
theorem y7f(ha:PD X a ga):PD X (.UnaryOp .USub a pos) (gNeg ga):=by
 refine⟨fun pins s σ H F Γ I fo rl hg=>?_⟩
 refine UnaryOp_ (wpAny_mono (ha.run pins s σ H F Γ I fo rl (R.left hg)) (fun v s1 ⟨d,x,H1,e1,I1,r1,S1,i1⟩=>?_) fun _ _ x=>x.bind _)
 have hg1:=R.next hg e1
 cases d with
 | int i =>
   rw[Is.int_iff.mp i1] at r1
   obtain⟨t,rfl⟩:=r1
   exact neg_int (Post.bind e1 S1 ⟨.int (-i),.int (-i),H1,rfl,I1.tok _,⟨_,rfl⟩,.refl _,Is.int_iff.mpr rfl⟩)
 | _=>exact absurd rfl hg1
theorem x9p(hc:PTD X c gA)(ha:PD X a ga)(hb:PD X b gb):PD X (.IfExp c a b pos) (gIf gA ga gb):=by
 refine⟨fun pins s σ H F Γ I fo rl hg=>?_⟩
 refine wpAny_IfExp (wpAny_mono (hc.run pins s σ H F Γ I fo rl (R.left hg)) (fun k s1 ⟨H1,e1,I1,S1⟩=>?_) fun _ _ x=>x.bind _)
 have hg1:=R.next hg e1
 cases k with
 | true=>exact wpAny_mono (ha.run pins s1 σ H1 F Γ I1 (fo.same S1) (rl.same S1) hg1) (fun _ _ q=>Post.bind e1 S1 q) fun _ _ q=>z1n.later e1 S1 q
 | false=>exact wpAny_mono (hb.run pins s1 σ H1 F Γ I1 (fo.same S1) (rl.same S1) hg1) (fun _ _ q=>Post.bind e1 S1 q) fun _ _ q=>z1n.later e1 S1 q
variable {es:List Expr}{gs:G->R (List D)}
theorem z0c:PAD X [] gNil:=⟨fun pos pins s σ H F Γ I fo rl hg=>Calls.spliced_nil ⟨[],[],H,rfl,I,.nil,.refl _,IsAll.nil⟩⟩
theorem z0a(ha:PD X e g)(hr:PAD X es gs)(hs:starEach (e::es) X.env=(false,eval e X.env)::starEach es X.env:=by rfl):PAD X (e::es) (gCons g gs):=by
 refine⟨fun pos pins s σ H F Γ I fo rl hg=>?_⟩
 rw[hs]
 show wpAny _ _ (spliced ((false,eval e X.env)::backTo pos (starEach es X.env))) _ _ s
 refine Calls.spliced_cons (wpAny_mono (ha.run pins s σ H F Γ I fo rl (R.left hg)) (fun u s1 ⟨d,x,H1,e1,I1,r1,S1,i1⟩=>?_) fun _ _ x=>x.bind _)
 have hg1:=R.next hg e1
 refine wpAny_mono (hr.run pos pins s1 σ H1 F Γ I1 (fo.same S1) (rl.same S1) (R.left hg1)) (fun us s2 ⟨ds,vs,H2,e2,I2,r2,S2,i2⟩=>?_) fun _ _ x=>z1n.later e1 S1 (x.bind _)
 exact⟨d::ds,x::vs,H2,(R.step e1 _).trans (R.step e2 _),I2,.cons r1 r2,S1.trans S2,IsAll.cons (i1.same S2) i2⟩
theorem z6u{n:Nat}(h:n<=1000):n<=sizeLine:=Nat.le_of_lt (x0d h)
theorem z1x{H:Hp}{p:Addr}(h:H p=none)(o:HO):Same H (upd H p o):=fun b u q=>by rw[z0q (z0p q h)];exact q
theorem z8q{x1}(h:PAD X es gs):PD X (.Tuple es x1 pos) (gTup gs):=by
 refine⟨fun pins s σ H F Γ I fo rl hg=>?_⟩
 refine wpAny_Tuple_spliced (wpAny_mono (h.run pos pins s σ H F Γ I fo rl (R.left hg)) (fun us s1 ⟨ds,vs,H1,e1,I1,r1,S1,i1⟩=>?_) fun _ _ x=>x.bind _)
 have hgx:=R.next hg e1
 obtain⟨hl,e2⟩:=R.guard_ne hgx
 have hz:vs.length<=sizeLine:=by rw[<-i1.length];exact z6u hl
 refine⟨by rw[<-r1.length];exact hz,?_⟩
 have hf:H1 s1.heap.objs.size=none:=I1.hok.fresh (Nat.le_refl _)
 have S2:=z1x hf (.tup vs)
 refine Post.bind e1 S1 ⟨.tup ds,.ref s1.heap.objs.size,upd H1 s1.heap.objs.size (.tup vs),e2,I1.laid (t':=s1.toks) (fun b u e=>Heap.get?_push_of_some _ e) (Nat.le_refl _) ?_,rfl,S2,Is.tup_iff.mpr ⟨_,vs,rfl,SqT.of z0v,i1.same S2⟩⟩
 exact⟨hz,us,r1,⟨_,Heap.get?_push_size _ rfl,rfl,_,rfl⟩⟩
theorem z7d(h:PAD X es gs):PF X (.List es pos) (gLst gs):=by
 refine⟨fun pins s σ H F Γ I fo rl hg=>?_⟩
 refine wpAny_List_spliced (wpAny_mono (h.run pos pins s σ H F Γ I fo rl (R.left hg)) (fun us s1 ⟨ds,vs,H1,e1,I1,r1,S1,i1⟩=>?_) fun _ _ x=>x.bind _)
 have hgx:=R.next hg e1
 obtain⟨⟨hl,hn⟩,e2⟩:=R.guard_ne hgx
 have hz:vs.length<=sizeLine:=by rw[<-i1.length];exact z6u hl
 refine⟨by rw[<-r1.length];exact hz,?_⟩
 have hf:H1 s1.heap.objs.size=none:=I1.hok.fresh (Nat.le_refl _)
 have S2:=z1x hf (.lst vs)
 have hH:H s1.heap.objs.size=none:=S1.free hf
 refine⟨ds,s1.heap.objs.size,vs,upd H1 s1.heap.objs.size (.lst vs),(R.step e1 _).trans e2,I1.laid (t':=s1.toks) (fun b u e=>Heap.get?_push_of_some _ e) (Nat.le_refl _) ?_,rfl,S1.trans S2,hH,z0v,?_⟩
 ·exact⟨hz,us,0,r1,Heap.get?_push_size _ rfl⟩
 ·exact IsAll.hid (((fo.same S1).same S2).cons z0v) ds vs hn (i1.same S2)
end
section
variable {X:Cx}{e a b c:Expr}{g ga gb gc:G->R D}{pos:Pos}
theorem od_I{f:Value->Value->Sem Value}{C:Int->Int->Prop}[∀i j,Decidable (C i j)]{v:Int->Int->V}{d:Int->Int->D}(hd:∀K H i j,Is K H (d i j) (v i j))(ho:OpR X.nox f (rI C v)) :
 OpD X f (fun x y=>match x,y with | .int i,.int j=>R.guard (C i j) (.ok (d i j)) | _,_=>.no):=by
 refine⟨_,ho,fun H x y dx dy ix iy hg=>?_⟩
 cases dx with
 | int i =>
   cases dy with
   | int j =>
     obtain⟨hc,e⟩:=R.guard_ne (show R.guard (C i j) (.ok (d i j)) ≠ .no from hg)
     exact⟨i,j,Is.int_iff.mp ix,Is.int_iff.mp iy,hc,d i j,e,.refl _,hd _ _ _ _⟩
   | _=>exact absurd rfl hg
 | _=>exact absurd rfl hg
theorem x3n{f:Value->Value->Sem Value}{v:Int->Int->V}{d:Int->Int->D}(hd:∀K H i j,Is K H (d i j) (v i j))(ho:OpR X.nox f (rI0 v)) :
 OpD X f (fun x y=>match x,y with | .int i,.int j=>.ok (d i j) | _,_=>.no):=by
 refine⟨_,ho,fun H x y dx dy ix iy hg=>?_⟩
 cases dx with
 | int i =>
   cases dy with
   | int j=>exact⟨i,j,Is.int_iff.mp ix,Is.int_iff.mp iy,d i j,rfl,.refl _,hd _ _ _ _⟩
   | _=>exact absurd rfl hg
 | _=>exact absurd rfl hg
theorem y4p:OpD X (binaryOp .Sub) dSub:=x3n (d:=fun i j=>.int (i-j)) (fun _ _ _ _=>Is.int_iff.mpr rfl) x8c
theorem z5j:OpD X (binaryOp .FloorDiv) dDiv:=od_I (d:=fun i j=>.int (i/j)) (fun _ _ _ _=>Is.int_iff.mpr rfl) (C:=fun i j=>0<j/\j<1073741824) x6c
theorem z2j:OpD X (binaryOp .Mod) dMod:=od_I (d:=fun i j=>.int (i%j)) (fun _ _ _ _=>Is.int_iff.mpr rfl) (C:=fun i j=>0<j) x8f
theorem x4u:OpD X (binaryOp .Pow) dPow:=od_I (d:=fun i j=>.int (i^j.toNat)) (fun _ _ _ _=>Is.int_iff.mpr rfl) (C:=fun i j=>0<=j/\j<=1000000/\i.natAbs<18446744073709551616) x8d
theorem x3m:OpD X (compareOp .Lt) dLt:=x3n (d:=fun i j=>.bl (decide (i<j))) (fun _ _ _ _=>Is.bl_iff.mpr rfl) x9q
theorem x9t:OpD X (compareOp .LtE) dLe:=x3n (d:=fun i j=>.bl (decide (i<=j))) (fun _ _ _ _=>Is.bl_iff.mpr rfl) x9r
theorem x6g:OpD X (compareOp .Gt) dGt:=x3n (d:=fun i j=>.bl (decide (j<i))) (fun _ _ _ _=>Is.bl_iff.mpr rfl) x9s
noncomputable def x9l(K:PySem.W.Frag):R2:=fun x y H Q=>∃a b xs ys,x = .ref a/\y = .ref b/\SqT K H a xs/\SqT K H b ys/\xs.length+ys.length<=sizeLine /\
 (xs=[]->Q (.ref b) H)/\(xs≠[]->ys=[]->Q (.ref a) H)/\(xs≠[]->ys≠[]->∀p,H p=none->Q (.ref p) (upd H p (.tup (xs++ys))))
theorem x6f:OpR X (binaryOp .Add) (x9l X.K):=by
 intro pins s σ H x y v u Q I rx ry h
 obtain⟨a,b,xs,ys,rfl,rfl,ha,hb,hz,q0,q1,q2⟩:=h
 by_cases hx:xs=[]
 ·cases rx
  cases ry
  obtain⟨its,r1,p1,_⟩:=I.tuple ha
  obtain⟨its2,r2,p2,_⟩:=I.tuple hb
  have hi:its=[]:=r1.nil_iff.mpr hx
  obtain⟨⟨cls,dd,data,sl⟩,ho,hc,n,hd⟩:=id p1
  obtain⟨⟨cls2,dd2,data2,sl2⟩,ho2,hc2,n2,hd2⟩:=id p2
  simp only at hc hd hc2 hd2
  subst hc hd hc2 hd2
  exact concat_meets ⟨_,ho,rfl⟩ ⟨_,ho2,rfl⟩ noFill_tuple_add seq_tuple_add PySem.F.slot_tuple_add PySem.F.entry_tuple_add (PySem.F.args_tuple_add_2 _ _)
   (tuple_addW0 a b its.toArray its2.toArray n n2 dd dd2 sl sl2 (by rw[hi];rfl)) ⟨ho,ho2,⟨.ref b,H,I,rfl,q0 hx⟩⟩
 ·exact x6d pins s σ H _ _ v u Q I rx ry ⟨a,b,xs,ys,rfl,rfl,ha,hb,hx,hz,q1 hx,q2 hx⟩
theorem z2u:OpD X (binaryOp .Add) dAdd:=by
 refine⟨_,OpR.or (x8h (X:=X.nox)) (x6f (X:=X.nox)),fun H x y dx dy ix iy hg=>?_⟩
 cases dx with
 | int i =>
   cases dy with
   | int j=>exact .inl ⟨i,j,Is.int_iff.mp ix,Is.int_iff.mp iy,.int (i+j),rfl,.refl _,Is.int_iff.mpr rfl⟩
   | _=>exact absurd rfl hg
 | tup ds =>
   cases dy with
   | tup es =>
     obtain⟨hc,e⟩:=R.guard_ne (show R.guard (ds.length+es.length<=1000) (R.ok (D.tup (ds++es)))≠R.no from hg)
     obtain⟨a,xs,rfl,h1,h2⟩:=Is.tup_iff.mp ix
     obtain⟨b,ys,rfl,h3,h4⟩:=Is.tup_iff.mp iy
     refine .inr ⟨a,b,xs,ys,rfl,rfl,h1,h3,by rw[<-h2.length,<-h4.length];exact z6u hc,fun z=>?_,fun z z'=>?_,fun z z' p hp=>?_⟩
     ·refine⟨.tup (ds++es),e,.refl _,Is.tup_iff.mpr ⟨b,ys,rfl,h3,?_⟩⟩
      have:ds=[]:=List.length_eq_zero_iff.mp (by rw[h2.length,z];rfl)
      rw[this];exact h4
     ·refine⟨.tup (ds++es),e,.refl _,Is.tup_iff.mpr ⟨a,xs,rfl,h1,?_⟩⟩
      have:es=[]:=List.length_eq_zero_iff.mp (by rw[h4.length,z'];rfl)
      rw[this,List.append_nil];exact h2
     ·have S:=z1x hp (.tup (xs++ys))
      exact⟨.tup (ds++es),e,S,Is.tup_iff.mpr ⟨p,xs++ys,rfl,SqT.of z0v,(h2.append h4).same S⟩⟩
   | _=>exact absurd rfl hg
 | _=>exact absurd rfl hg
theorem y8c(l:Addr)(items:Array Value)(n:Nat)(dd:Option Addr)(sl:Array (Option Value))(k:Int)(u:Tok)(h1:(decide (k < -(2^63))||decide (k≥2^63))=false)(hc:(items.isEmpty||k==1)=true) :
 Meets (Builtin.«tuple.__mul__» ⟨[.ref l,.int k u],[]⟩) (fun _ Q s=>s.heap.get? l=some { cls:=.type "tuple",dict:=dd,data:=.seq items n,slots:=sl }/\Q (.ok (.ret (Value.ref l))) s) :=
 .of_wp fun prog w A Q s h=>by obtain⟨hp,g,d,tk,os⟩:=s;obtain⟨hl,h⟩:=h;have f1:=AutoSeq1.idx_int;wp_walk using wpAny_loadPart' hl;refine wpAny_ite_false (by rw[h1];rfl) ?_;wp_walk using wpAny_loadPart' hl;exact⟨_,rfl,h⟩
theorem y8e(l:Addr)(items:Array Value)(n:Nat)(dd:Option Addr)(sl:Array (Option Value))(k:Int)(u:Tok)(h1:(decide (k < -(2^63))||decide (k≥2^63))=false)(hc:(items.isEmpty||k==1)=false)(hc2:(decide (k<=0)||items.isEmpty)=true) :
 Meets (Builtin.«tuple.__mul__» ⟨[.ref l,.int k u],[]⟩) (fun _ Q s=>s.heap.get? l=some { cls:=.type "tuple",dict:=dd,data:=.seq items n,slots:=sl }/\Q (.ok (.ret (Value.ref s.heap.objs.size))) { s with heap:=s.heap.push { cls:=.type "tuple",data:=.seq #[] } }) :=
 .of_wp fun prog w A Q s h=>by obtain⟨hp,g,d,tk,os⟩:=s;obtain⟨hl,h⟩:=h;have f1:=AutoSeq1.idx_int;wp_walk using wpAny_loadPart' hl;refine wpAny_ite_false (by rw[h1];rfl) ?_;wp_walk using wpAny_loadPart' hl;exact⟨_,rfl,h⟩
theorem y8d(l:Addr)(items:Array Value)(n:Nat)(dd:Option Addr)(sl:Array (Option Value))(k:Int)(u:Tok)(h1:(decide (k < -(2^63))||decide (k≥2^63))=false)(hc:(items.isEmpty||k==1)=false)(hc2:(decide (k<=0)||items.isEmpty)=false)(hc3:¬((items.size:Int)*k>(2^63-1)/8))(hc4:Builtin.Tuple.tupleTooMany ((items.size:Int)*k)=false)(hc5:¬((List.replicate k.toNat items).foldl (fun x1 x2=>x1++x2) #[]).size>sizeLine) :
 Meets (Builtin.«tuple.__mul__» ⟨[.ref l,.int k u],[]⟩) (fun _ Q s=>s.heap.get? l=some { cls:=.type "tuple",dict:=dd,data:=.seq items n,slots:=sl }/\Q (.ok (.ret (Value.ref s.heap.objs.size))) { s with heap:=s.heap.push { cls:=.type "tuple",data:=.seq ((List.replicate k.toNat items).foldl (·++·) #[]) } }) :=
 .of_wp fun prog w A Q s h=>by obtain⟨hp,g,d,tk,os⟩:=s;obtain⟨hl,h⟩:=h;have f1:=AutoSeq1.idx_int;wp_walk using wpAny_loadPart' hl;refine wpAny_ite_false (by rw[h1];rfl) ?_;wp_walk using wpAny_loadPart' hl;refine wpAny_ite_false (decide_eq_false hc3) ?_;wp_walk using wpAny_loadPart' hl;exact⟨_,rfl,h⟩
theorem z9u:fillsNumberSlot (.type "tuple") "mul"=pure false :=
 PySem.fillsNumberSlot_seq (id:="tuple.__mul__") (r:=some (.builtin "tuple.__rmul__")) F.slot_tuple_mul.lookup (by decide +kernel) F.slot_tuple_rmul.lookup (by decide +kernel)
theorem y4j:seqRepeat? (.type "tuple")=pure (some (.builtin "tuple.__mul__")):=by
 unfold seqRepeat?
 rw[PySem.seqSlot_of (T:="tuple") (name:="__mul__") (id:="tuple.__mul__") F.slot_tuple_mul.lookup (by decide +kernel),PySem.seqSlot_of (T:="tuple") (name:="__rmul__") (id:="tuple.__rmul__") F.slot_tuple_rmul.lookup (by decide +kernel)]
 rfl
theorem y1o(a:Int)(t:Tok)(l:Addr)(items:Array Value)(n:Nat)(dd:Option Addr)(sl:Array (Option Value)) :
 Meets (Builtin.«int.__rmul__» ⟨[.int a t,.ref l],[]⟩) (fun _ Q s=>s.heap.get? l=some { cls:=.type "tuple",dict:=dd,data:=.seq items n,slots:=sl }/\Q (.ok (.ret Value.notImplemented)) s) :=
 .of_wp fun prog w A Q s h=>by obtain⟨hp,g,d,tk,os⟩:=s;obtain⟨hl,h⟩:=h;wp_walk;exact⟨_,rfl,h⟩
noncomputable def x9i(K:PySem.W.Frag):R2:=fun x y H Q=>∃l k xs,x = .ref l/\y = .int k/\SqT K H l xs/\0<=k/\k<1000000/\xs.length*k.toNat<=1000 /\
 ((xs=[]∨k=1)->Q (.ref l) H)/\(xs≠[]->k≠1->∀p,H p=none->Q (.ref p) (upd H p (.tup (List.replicate k.toNat xs).flatten)))
theorem x6a:OpR X (binaryOp .Mult) (x9i X.K):=by
 intro pins s σ H x y v u Q I rx ry h
 obtain⟨l,k,xs,rfl,rfl,hH,h1,h2,hz,q0,q1⟩:=h
 cases rx
 obtain⟨t,rfl⟩:=ry
 obtain⟨its,r,p1,hz2⟩:=I.tuple hH
 have hl:its.length=xs.length:=r.length.symm
 obtain⟨⟨cls,dd,data,sl⟩,ho,hc,n,hd⟩:=id p1
 simp only at hc hd
 subst hc hd
 have hb:(decide (k < -(2^63))||decide (k≥2^63))=false:=by
  rw[decide_eq_false (by lia),decide_eq_false (by lia)];rfl
 refine wpAny_binaryOp_repeat_ref (T:="tuple") (U:="int") (by decide) ⟨_,ho,rfl⟩ (fun s'=>typeIs_int s' k t) z9u F.fills_int_mul F.slot_int_rmul y4j F.slot_int_index.lookup
  (call_meets F.slot_int_rmul (typeIs_int s k t) F.entry_int_rmul (F.args_int_rmul_2 _ _) (y1o k t l its.toArray n dd sl) ⟨ho,rfl,⟨_,ho,rfl⟩,?_⟩)
 by_cases c1:xs=[]∨k=1
 ·have hc1:(its.toArray.isEmpty||k==1)=true:=by
   rcases c1 with c | c
   ·have:its=[]:=List.length_eq_zero_iff.mp (by rw[hl,c];rfl)
    rw[this];rfl
   ·rw[c];simp
  exact call_meets F.slot_tuple_mul ⟨_,ho,rfl⟩ F.entry_tuple_mul (F.args_tuple_mul_2 _ _) (y8c l its.toArray n dd sl k t hb hc1) ⟨ho,⟨.ref l,H,I,rfl,q0 c1⟩⟩
 ·have hx:xs≠[]:=fun e=>c1 (.inl e)
  have hk1:k≠1:=fun e=>c1 (.inr e)
  have hne:its≠[]:=fun e=>hx (List.length_eq_zero_iff.mp (by rw[<-hl,e];rfl))
  have he:its.toArray.isEmpty=false:=by cases its with | nil=>exact absurd rfl hne | cons a b=>rfl
  have hc1:(its.toArray.isEmpty||k==1)=false:=by rw[he];simpa using hk1
  by_cases c2:k<=0
  ·have hk0:k=0:=by lia
   refine call_meets F.slot_tuple_mul ⟨_,ho,rfl⟩ F.entry_tuple_mul (F.args_tuple_mul_2 _ _) (y8e l its.toArray n dd sl k t hb hc1 (by rw[decide_eq_true c2];rfl)) ⟨ho,?_⟩
   have e0:(List.replicate k.toNat xs).flatten=[]:=by rw[hk0];rfl
   refine⟨.ref s.heap.objs.size,_,I.laid (t':=s.toks) (o:=.tup (List.replicate k.toNat xs).flatten) (fun b ob q=>Heap.get?_push_of_some _ q) (Nat.le_refl _) ?_,rfl,q1 hx hk1 _ (I.hok.fresh (Nat.le_refl _))⟩
   rw[e0]
   exact⟨by decide,[],.nil,⟨_,Heap.get?_push_size _ rfl,rfl,_,rfl⟩⟩
  ·have f0:∀m:Nat,List.foldl (fun x1 x2=>x1++x2) #[] (List.replicate m its.toArray)=(List.replicate m its).flatten.toArray:=fun m=>by
    have:=y4x its m []
    rw[List.nil_append] at this
    exact this
   have hlr:(List.replicate k.toNat its).flatten.length<=1000:=by rw[x1c,hl,Nat.mul_comm];exact hz
   have hsz:(its.toArray.size:Int)*k<=1000:=by
    rw[List.size_toArray,hl,show k=((k.toNat:Nat):Int) by lia]
    exact_mod_cast hz
   refine call_meets F.slot_tuple_mul ⟨_,ho,rfl⟩ F.entry_tuple_mul (F.args_tuple_mul_2 _ _) (y8d l its.toArray n dd sl k t hb hc1 (by rw[decide_eq_false c2,he];rfl) (by lia) ?_ ?_) ⟨ho,?_⟩
   ·unfold Builtin.Tuple.tupleTooMany
    have:(1000:Int)<=(sizeLine:Int):=by decide
    exact decide_eq_false (by lia)
   ·rw[f0,List.size_toArray]
    have:=z6u hlr
    lia
   ·rw[f0]
    refine⟨.ref s.heap.objs.size,_,I.laid (t':=s.toks) (o:=.tup (List.replicate k.toNat xs).flatten) (fun b ob q=>Heap.get?_push_of_some _ q) (Nat.le_refl _) ?_,rfl,q1 hx hk1 _ (I.hok.fresh (Nat.le_refl _))⟩
    exact⟨by rw[x1c,Nat.mul_comm];exact z6u hz,_,r.rep k.toNat,⟨_,Heap.get?_push_size _ rfl,rfl,_,rfl⟩⟩
theorem IsAll.rep{K:PySem.W.Frag}{H:Hp}{ds:List D}{xs:List V}(h:IsAll K H ds xs):∀n:Nat,IsAll K H (List.replicate n ds).flatten (List.replicate n xs).flatten
 | 0=>IsAll.nil
 | n+1=>by rw[List.replicate_succ,List.flatten_cons,List.replicate_succ,List.flatten_cons];exact h.append (IsAll.rep h n)
theorem z9q:OpD X (binaryOp .Mult) dMul:=by
 refine⟨_,OpR.or (x8e (X:=X.nox)) (x6a (X:=X.nox)),fun H x y dx dy ix iy hg=>?_⟩
 cases dx with
 | int i =>
   cases dy with
   | int j =>
     obtain⟨hc,e⟩:=R.guard_ne (show R.guard (z8c i j) (R.ok (D.int (i*j)))≠R.no from hg)
     refine .inl ⟨i,j,Is.int_iff.mp ix,Is.int_iff.mp iy,?_,.int (i*j),e,.refl _,Is.int_iff.mpr rfl⟩
     unfold z8c z9l at hc
     show(-(2^64)<i/\i<2^64)∨(-(2^64)<j/\j<2^64)
     lia
   | _=>exact absurd rfl hg
 | tup ds =>
   cases dy with
   | int j =>
     obtain⟨⟨hc1,hc2⟩,e⟩:=R.guard_ne (show R.guard (0<=j/\j<1000000/\ds.length*j.toNat<=1000) (R.ok (D.tup (List.replicate j.toNat ds).flatten))≠R.no from hg)
     obtain⟨a,xs,rfl,h1,h2⟩:=Is.tup_iff.mp ix
     have hxl:=h2.length
     refine .inr ⟨a,j,xs,rfl,Is.int_iff.mp iy,h1,hc1,hc2.1,by rw[<-hxl];exact hc2.2,fun c=>?_,fun z z' p hp=>?_⟩
     ·refine⟨_,e,.refl _,Is.tup_iff.mpr ⟨a,xs,rfl,h1,?_⟩⟩
      rcases c with c | c
      ·have:ds=[]:=List.length_eq_zero_iff.mp (by rw[hxl,c];rfl)
       rw[this,c]
       have e2:∀m:Nat,(List.replicate m ([]:List D)).flatten=[]:=fun m=>by simp
       rw[e2];exact IsAll.nil
      ·subst c
       show IsAll X.K H (List.replicate 1 ds).flatten xs
       rw[show(List.replicate 1 ds).flatten=ds by simp];exact h2
     ·have S:=z1x hp (.tup (List.replicate j.toNat xs).flatten)
      exact⟨_,e,S,Is.tup_iff.mpr ⟨p,_,rfl,SqT.of z0v,(h2.rep _).same S⟩⟩
   | _=>exact absurd rfl hg
 | _=>exact absurd rfl hg
mutual
noncomputable def D.py:D->PyData
 | .non=>.none
 | .bl b=>.bool b
 | .int i=>.int i
 | .str x=>.str x
 | .tup ds=>.tuple (D.pys ds)
 | .lst ds=>.list (D.pys ds)
 | .dct=>.dict []
 | .exc _=>.dict []
noncomputable def D.pys:List D->List PyData
 | []=>[]
 | d::ds=>d.py::D.pys ds
end
mutual
theorem y4u:∀(n:Nat) (d:D),D.lay n d=true->d.py.canLay0=true/\d.py.depth<=n
 | n,.non,_=>by simp[D.py,PyData.canLay0,PyData.depth]
 | n,.bl _,_=>by simp[D.py,PyData.canLay0,PyData.depth]
 | n,.int _,_=>by simp[D.py,PyData.canLay0,PyData.depth]
 | n,.str x,h=>by
   have h':PyData.strOk x=true:=by have:=h;rw[y1a] at this;exact this
   simp[D.py,PyData.canLay0,PyData.depth,h']
 | 0,.tup ds,h=>by simp[D.lay] at h
 | 0,.lst ds,h=>by simp[D.lay] at h
 | n+1,.tup ds,h=>by
   have q:=lays_py n ds (by simpa [D.lay] using h)
   constructor
   ·simpa [D.py,PyData.canLay0] using q.1
   ·have:=q.2
    simp only[D.py,PyData.depth];lia
 | n+1,.lst ds,h=>by
   have q:=lays_py n ds (by simpa [D.lay] using h)
   constructor
   ·simpa [D.py,PyData.canLay0] using q.1
   ·have:=q.2
    simp only[D.py,PyData.depth];lia
 | n,.dct,h=>by cases n<;>simp[D.lay] at h
 | n,.exc _,h=>by cases n<;>simp[D.lay] at h
theorem lays_py:∀(n:Nat) (ds:List D),D.lays n ds=true->PyData.canLayAll0 (D.pys ds)=true/\PyData.depthAll (D.pys ds)<=n
 | n,[],_=>by simp[D.pys,PyData.canLayAll0,PyData.depthAll]
 | n,d::ds,h=>by
   have h':D.lay n d=true/\D.lays n ds=true:=by simpa [D.lays] using h
   have q1:=y4u n d h'.1
   have q2:=lays_py n ds h'.2
   constructor
   ·simp[D.pys,PyData.canLayAll0,q1.1,q2.1]
   ·have:=q1.2;have:=q2.2
    simp only[D.pys,PyData.depthAll];lia
end
mutual
theorem z8o{pins:List (Addr×Obj)}{σ:St}{H:Hp}{s:Shared}(I:Inv X pins σ H s):∀(n:Nat) (d:D) (v:V) (u:Value),D.lay n d=true->Is X.K H d v->RelV v u->∃as,Reads s.heap u d.py as
 | _,.non,v,u,_,i,r=>by
   rw[Is.non_iff.mp i] at r;cases (show u=Value.none from r)
   exact⟨_,.none⟩
 | _,.bl b,v,u,_,i,r=>by
   rw[Is.bl_iff.mp i] at r;cases (show u=Value.bool b from r)
   exact⟨_,.bool b⟩
 | _,.int k,v,u,_,i,r=>by
   rw[Is.int_iff.mp i] at r
   obtain⟨t,rfl⟩:=(show ∃t,u=Value.int k t from r)
   exact⟨_,.int k t⟩
 | _,.str x,v,u,_,i,r=>by
   rw[Is.str_iff.mp i] at r
   obtain⟨t,rfl⟩:=(show ∃t,u=Value.str x t from r)
   exact⟨_,.str x t⟩
 | 0,.tup ds,v,u,h,_,_=>by simp[D.lay] at h
 | 0,.lst ds,v,u,h,_,_=>by simp[D.lay] at h
 | n+1,.tup ds,v,u,h,i,r=>by
   obtain⟨a,xs,rfl,h1,h2⟩:=Is.tup_iff.mp i
   cases (show u=Value.ref a from r)
   obtain⟨its,rv,⟨o,ho,hc,m,hd⟩,_⟩:=I.tuple h1
   obtain⟨as,ra⟩:=readsAll_of I n ds xs its (by simpa [D.lay] using h) h2 rv
   exact⟨as,by unfold D.py;exact .tuple ho hc hd (by simpa using ra)⟩
 | n+1,.lst ds,v,u,h,i,r=>by
   obtain⟨a,xs,rfl,h1,h2⟩:=Is.lst_iff.mp i
   cases (show u=Value.ref a from r)
   obtain⟨its,rv,⟨o,m,ho,hc,_,hd⟩,_⟩:=I.list h1
   obtain⟨as,ra⟩:=readsAll_of I n ds xs its (by simpa [D.lay] using h) h2 rv
   exact⟨a::as,by unfold D.py;exact .list ho hc hd (by simpa using ra)⟩
 | n,.dct,v,u,h,_,_=>by cases n<;>simp[D.lay] at h
 | n,.exc _,v,u,h,_,_=>by cases n<;>simp[D.lay] at h
theorem readsAll_of{pins:List (Addr×Obj)}{σ:St}{H:Hp}{s:Shared}(I:Inv X pins σ H s):∀(n:Nat) (ds:List D) (xs:List V) (us:List Value),D.lays n ds=true->IsAll X.K H ds xs->Vals xs us->∃as,ReadsAll s.heap us (D.pys ds) as
 | n,[],xs,us,_,i,r=>by
   rw[IsAll.nil_iff.mp i] at r
   cases r
   exact⟨_,by unfold D.pys;exact .nil⟩
 | n,d::ds,xs,us,h,i,r=>by
   obtain⟨x,r',rfl,h1,h2⟩:=IsAll.cons_iff.mp i
   have h':D.lay n d=true/\D.lays n ds=true:=by simpa [D.lays] using h
   cases r with
   | cons q1 q2 =>
     obtain⟨as,ra⟩:=z8o I n d x _ h'.1 h1 q1
     obtain⟨bs,rb⟩:=readsAll_of I n ds r' _ h'.2 h2 q2
     exact⟨as++bs,by unfold D.pys;exact .cons ra rb⟩
end
mutual
theorem x1v:∀x y:D,eqD x y=PyData.eqv x.py y.py
 | .non,y=>by cases y<;>simp[eqD,D.py,PyData.eqv]
 | .bl _,y=>by cases y<;>simp[eqD,D.py,PyData.eqv]
 | .int _,y=>by cases y<;>simp[eqD,D.py,PyData.eqv]
 | .str _,y=>by cases y<;>simp[eqD,D.py,PyData.eqv]
 | .dct,y=>by cases y<;>simp[eqD,D.py,PyData.eqv]
 | .exc _,y=>by cases y<;>simp[eqD,D.py,PyData.eqv]
 | .tup xs,y=>by
   cases y with
   | tup ys=>rw[eqD,D.py,D.py,PyData.eqv,eqDs_py xs ys]
   | _=>simp[eqD,D.py,PyData.eqv]
 | .lst xs,y=>by
   cases y with
   | lst ys=>rw[eqD,D.py,D.py,PyData.eqv,eqDs_py xs ys]
   | _=>simp[eqD,D.py,PyData.eqv]
theorem eqDs_py:∀xs ys:List D,eqDs xs ys=PyData.eqvAll (D.pys xs) (D.pys ys)
 | [],[]=>by simp[eqDs,D.pys,PyData.eqvAll]
 | [],_::_=>by simp[eqDs,D.pys,PyData.eqvAll]
 | _::_,[]=>by simp[eqDs,D.pys,PyData.eqvAll]
 | x::xs,y::ys=>by rw[eqDs,D.pys,D.pys,PyData.eqvAll,x1v x y,eqDs_py xs ys]
end
theorem z9i(hu:X.A.units+64<cLine):OpD X (compareOp .Eq) dEq:=by
 refine⟨fun x y H Q=>∃dx dy,Is X.K H dx x/\Is X.K H dy y/\D.lay 40 dx=true/\D.lay 40 dy=true/\Q (.bl (eqD dx dy)) H,?_,fun H x y dx dy ix iy hg=>?_⟩
 ·intro pins s σ H x y v u Q I rx ry h
  obtain⟨dx,dy,ix,iy,l1,l2,q⟩:=h
  obtain⟨as,ra⟩:=z8o I 40 dx x v l1 ix rx
  obtain⟨bs,rb⟩:=z8o I 40 dy y u l2 iy ry
  have p1:=y4u 40 dx l1
  have p2:=y4u 40 dy l2
  have hu':X.A.units+64<cLine:=hu
  refine PySem.SeqAt.compareEq_reads ra rb p1.1 p2.1 (show X.A.units+min dx.py.depth dy.py.depth<cLine by lia) ⟨.bl (eqD dx dy),H,I,by rw[x1v];rfl,q⟩
 ·obtain⟨⟨l1,l2⟩,e⟩:=R.guard_ne hg
  exact⟨dx,dy,ix,iy,l1,l2,.bl (eqD dx dy),e,.refl _,Is.bl_iff.mpr rfl⟩
theorem y1q(hu:X.A.units+64<cLine):OpD X (compareOp .NotEq) dNe:=by
 refine⟨fun x y H Q=>∃dx dy,Is X.K H dx x/\Is X.K H dy y/\D.lay 40 dx=true/\D.lay 40 dy=true/\Q (.bl (!eqD dx dy)) H,?_,fun H x y dx dy ix iy hg=>?_⟩
 ·intro pins s σ H x y v u Q I rx ry h
  obtain⟨dx,dy,ix,iy,l1,l2,q⟩:=h
  obtain⟨as,ra⟩:=z8o I 40 dx x v l1 ix rx
  obtain⟨bs,rb⟩:=z8o I 40 dy y u l2 iy ry
  have p1:=y4u 40 dx l1
  have p2:=y4u 40 dy l2
  have hu':X.A.units+64<cLine:=hu
  refine PySem.SeqAt.compareNe_reads ra rb p1.1 p2.1 (show X.A.units+min dx.py.depth dy.py.depth<cLine by lia) ⟨.bl (!eqD dx dy),H,I,by rw[x1v];rfl,q⟩
 ·obtain⟨⟨l1,l2⟩,e⟩:=R.guard_ne hg
  exact⟨dx,dy,ix,iy,l1,l2,.bl (!eqD dx dy),e,.refl _,Is.bl_iff.mpr rfl⟩
theorem IsAll.atI{K:PySem.W.Frag}{H:Hp}{ds:List D}{xs:List V}{i:Int}{d:D}(h:IsAll K H ds xs)(e:atI ds i=some d):∃x,L2.atI xs i=some x/\Is K H d x:=by
 unfold L2.atI
 unfold L3.atI at e
 rw[<-h.length]
 show ∃x,((L3.ixN ds.length i).bind fun j=>xs[j]?)=some x/\Is K H d x
 cases q:L3.ixN ds.length i with
 | none=>rw[q] at e;cases e
 | some j =>
   rw[q] at e
   exact h.get (by simpa using e)
theorem z1v(ha:PD X a ga)(hb:PD X b gb)(hs:x2r b:=by intro _ _;rfl):PD X (.Subscript a b pos) (gBin dIx ga gb):=by
 refine⟨fun pins s σ H F Γ I fo rl hg=>?_⟩
 refine Subscript_ (wpAny_mono (ha.run pins s σ H F Γ I fo rl (R.left hg)) (fun v s1 ⟨dx,x,H1,e1,I1,r1,S1,i1⟩=>?_) fun _ _ x=>x.bind _)
 have hg1:=R.next hg e1
 refine wpAny_mono (hb.run pins s1 σ H1 F Γ I1 (fo.same S1) (rl.same S1) (R.left hg1)) (fun u s2 ⟨dy,y,H2,e2,I2,r2,S2,i2⟩=>?_) fun _ _ x=>z1n.later e1 S1 (x.bind _)
 have hg2:=R.next hg1 e2
 have i1':=i1.same S2
 have fin:∀(d:D) (z:V),dIx dx dy = .ok d->Is X.K H2 d z->∀(w':Value) (s':Shared),EP X.nox pins σ (fun z' H'=>z'=z/\H'=H2) w' s'->Post X pins σ H (gBin dIx ga gb Γ) w' s':=fun d z ed iz w' s' ⟨z',H',I',rz,ez,eH⟩=>by
  subst ez eH
  exact Post.bind e1 S1 (Post.bind e2 S2 ⟨d,z',H',ed,I'.unwish,rz,.refl _,iz⟩)
 cases dx with
 | tup ds =>
   cases dy with
   | int i =>
     obtain⟨p,xs,rfl,h1,h2⟩:=Is.tup_iff.mp i1'
     cases q:atI ds i with
     | none=>exact absurd (show dIx (.tup ds) (.int i) = .no by simp only[dIx,q]) hg2
     | some d =>
       obtain⟨z,ez,iz⟩:=h2.atI q
       exact wpAny_mono (x4y (X:=X.nox) a b pins s2 σ H2 _ y v u _ (I2.wish _) r1 r2 ⟨p,xs,i,z,rfl,Is.int_iff.mp i2,h1,ez,rfl,rfl⟩ (hs _ _)) (fun w' s' h=>fin d z (by show dIx (.tup ds) (.int i) = .ok d;simp only[dIx,q]) iz w' s' h) fun _ _ z=>False.elim z
   | _=>exact absurd rfl hg2
 | lst ds =>
   cases dy with
   | int i =>
     obtain⟨p,xs,rfl,h1,h2⟩:=Is.lst_iff.mp i1'
     cases q:atI ds i with
     | none=>exact absurd (show dIx (.lst ds) (.int i) = .no by simp only[dIx,q]) hg2
     | some d =>
       obtain⟨z,ez,iz⟩:=h2.atI q
       exact wpAny_mono (x1j (X:=X.nox) a b pins s2 σ H2 _ y v u _ (I2.wish _) r1 r2 ⟨p,xs,i,z,rfl,Is.int_iff.mp i2,h1,ez,rfl,rfl⟩ (hs _ _)) (fun w' s' h=>fin d z (by show dIx (.lst ds) (.int i) = .ok d;simp only[dIx,q]) iz w' s' h) fun _ _ z=>False.elim z
   | _=>exact absurd rfl hg2
 | _=>exact absurd rfl hg2
variable {x:Str}{p:Pos}{es:List Expr}{gs:G->R (List D)}{bid T:String}
noncomputable def z9x(X:Cx)(f:Value)(g:List D->R D):Prop:=∃r:List V->Hp->VK->Prop,z8a X.nox f r/\∀H xs ds,IsAll X.K H ds xs->g ds ≠ .no->r xs H fun z H'=>∃d,g ds = .ok d/\Same H H'/\Is X.K H' d z
theorem z9x.run{f:Value}{g:List D->R D}(h:z9x X f g){pins:List (Addr×Obj)}{s:Shared}{σ:St}{H:Hp}{xs:List V}{us:List Value}{ds:List D}(I:Inv X pins σ H s)(r:Vals xs us)(i:IsAll X.K H ds xs)(hg:g ds ≠ .no){E:Value->Shared->Prop} :
 wpAny (model X.prog X.w) X.A (call f us) (Post X pins σ H (g ds)) E s:=by
 obtain⟨r',ho,hr⟩:=h
 exact wpAny_mono (ho pins s σ H xs us _ (I.wish _) r (hr H xs ds i hg)) (fun _ _ ⟨z,H',I',rz,d,e,S,i⟩=>⟨d,z,H',e,I'.unwish,rz,S,i⟩) fun _ _ z=>False.elim z
theorem z0y{g:List D->R D}(hc:z9x X (.builtin bid) g)(hm:X.mg x=none)(hv:bootBuiltins x=some (.builtin bid))(ha:PAD X (e::es) gs)(hg:Gl X x:=by rfl)(hn:x≠"__name__":=by decide)(hdb:(x==("__debug__":Str))=false:=by decide)
 (he:starEach (e::es) X.env=(false,eval e X.env)::starEach es X.env:=by rfl) (hpl:(backTo pos (starEach es X.env)).any (·.1)=false:=by rfl):PD X (.Call (.Name x p) (e::es) [] pos) (z0h g gs):=by
 refine⟨fun pins s σ H F Γ I fo rl hgg=>?_⟩
 refine wpAny_Call_Name_kw (z6f I hg hm hv ?_ hn hdb)
 refine PyProof.Rows.callWith_builtin1 (wpAny_mono (ha.run pos pins s σ H F Γ I fo rl (R.left hgg)) (fun us s1 ⟨ds,vs,H1,e1,I1,r1,S1,i1⟩=>?_) fun _ _ x=>x.bind _) he hpl
 exact thn (hc.run I1 r1 i1 (R.next hgg e1)) fun _ _ q=>Post.bind e1 S1 q
theorem z1r{g:List D->R D}(hc:z9x X (.type T) g)(hm:X.mg x=none)(hv:bootBuiltins x=some (.type T))(ha:PAD X (e::es) gs)(hg:Gl X x:=by rfl)(hn:x≠"__name__":=by decide)(hdb:(x==("__debug__":Str))=false:=by decide)
 (he:starEach (e::es) X.env=(false,eval e X.env)::starEach es X.env:=by rfl) (hpl:(backTo pos (starEach es X.env)).any (·.1)=false:=by rfl):PD X (.Call (.Name x p) (e::es) [] pos) (z0h g gs):=by
 refine⟨fun pins s σ H F Γ I fo rl hgg=>?_⟩
 refine wpAny_Call_Name_kw (z6f I hg hm hv ?_ hn hdb)
 refine PyProof.Rows.callWith_type1 (wpAny_mono (ha.run pos pins s σ H F Γ I fo rl (R.left hgg)) (fun us s1 ⟨ds,vs,H1,e1,I1,r1,S1,i1⟩=>?_) fun _ _ x=>x.bind _) he hpl
 exact thn (hc.run I1 r1 i1 (R.next hgg e1)) fun _ _ q=>Post.bind e1 S1 q
theorem z7j{K:PySem.W.Frag}{H:Hp}{d:D}{xs:List V}(h:IsAll K H [d] xs):∃v,xs=[v]/\Is K H d v:=by
 obtain⟨x,r,rfl,h1,h2⟩:=IsAll.cons_iff.mp h
 rw[IsAll.nil_iff.mp h2]
 exact⟨x,rfl,h1⟩
theorem x5a{K:PySem.W.Frag}{H:Hp}{d d':D}{xs:List V}(h:IsAll K H [d,d'] xs):∃v v',xs=[v,v']/\Is K H d v/\Is K H d' v':=by
 obtain⟨x,r,rfl,h1,h2⟩:=IsAll.cons_iff.mp h
 obtain⟨v,rfl,h3⟩:=z7j h2
 exact⟨x,v,rfl,h1,h3⟩
theorem z4w:z9x X (.builtin "len") dLen:=by
 refine⟨_,y5i (X:=X.nox),fun H xs ds i hg=>?_⟩
 unfold dLen at hg
 split at hg
 ·rename_i ys
  obtain⟨v,rfl,h⟩:=z7j i
  obtain⟨a,zs,rfl,h1,h2⟩:=Is.tup_iff.mp h
  exact⟨a,zs,rfl,.inr h1,.int ys.length,rfl,.refl _,Is.int_iff.mpr (by rw[h2.length])⟩
 ·rename_i ys
  obtain⟨v,rfl,h⟩:=z7j i
  obtain⟨a,zs,rfl,h1,h2⟩:=Is.lst_iff.mp h
  exact⟨a,zs,rfl,.inl h1,.int ys.length,rfl,.refl _,Is.int_iff.mpr (by rw[h2.length])⟩
 ·exact absurd rfl hg
theorem z2c:z9x X (.type "tuple") z2h:=by
 refine⟨_,y3t (X:=X.nox),fun H xs ds i hg=>?_⟩
 unfold z2h at hg
 split at hg
 ·rename_i ys
  obtain⟨v,rfl,h⟩:=z7j i
  obtain⟨a,zs,rfl,h1,h2⟩:=Is.tup_iff.mp h
  exact⟨a,zs,rfl,.inr ⟨h1,.tup ys,rfl,.refl _,h⟩⟩
 ·rename_i ys
  obtain⟨v,rfl,h⟩:=z7j i
  obtain⟨a,zs,rfl,h1,h2⟩:=Is.lst_iff.mp h
  refine⟨a,zs,rfl,.inl ⟨h1,fun l hl=>?_⟩⟩
  have S:=z1x hl (.tup zs)
  exact⟨.tup ys,rfl,S,Is.tup_iff.mpr ⟨l,zs,rfl,SqT.of z0v,h2.same S⟩⟩
 ·exact absurd rfl hg
theorem x5g(hc:X.calm=true):z9x X (.builtin "min") dMin:=by
 refine⟨_,x2f (X:=X.nox) hc,fun H xs ds i hg=>?_⟩
 unfold dMin at hg
 split at hg
 ·rename_i i' j'
  obtain⟨v,v',rfl,h,h'⟩:=x5a i
  exact⟨i',j',by rw[Is.int_iff.mp h,Is.int_iff.mp h'],_,rfl,.refl _,Is.int_iff.mpr rfl⟩
 ·exact absurd rfl hg
theorem x3a(hc:X.calm=true):z8a X (.builtin "sum") (fun xs H Q=>∃(a:Addr) (ns:List Int),xs=[.ref a]/\SqL X.K H a (ns.map V.int)/\Q (.int ns.sum) H):=by
 intro pins s σ H xs us Q I r h
 obtain⟨a,ns,rfl,hq,q⟩:=h
 obtain⟨u,rfl,ru⟩:=y3v r
 cases ru
 obtain⟨its,rv,pl,_⟩:=I.list hq
 have hi:IntsAre its ns:=y2e rv
 obtain⟨ys,hy⟩:=hi.allInts.items
 have hl:=pl.isList
 rw[hy] at hl
 refine sum_intListG (I.ok.hd hc) hl fun h' tk t' hk=>⟨.int ns.sum,H,I.kept hk,⟨t',?_⟩,q⟩
 have hn:numsOf its.toArray.toList=ns:=by rw[show its.toArray.toList=its from rfl,hi.numsOf]
 rw[hy,nums_intItems] at hn
 rw[preSum_eq,List.take_of_length_le (by simp),hn]
theorem y5g(hc:X.calm=true):z9x X (.builtin "sum") dSum:=by
 refine⟨_,x3a (X:=X.nox) hc,fun H xs ds i hg=>?_⟩
 unfold dSum at hg
 split at hg
 ·rename_i ys
  obtain⟨v,rfl,h⟩:=z7j i
  obtain⟨a,zs,rfl,h1,h2⟩:=Is.lst_iff.mp h
  cases q:ints? ys with
  | none=>rw[q] at hg;exact absurd rfl hg
  | some ns =>
    have:=ints?_some q
    subst this
    rw[h2.ints_eq] at h1
    exact⟨a,ns,rfl,h1,.int ns.sum,by show dSum [.lst (ns.map D.int)]=_;simp only[dSum,q],.refl _,Is.int_iff.mpr rfl⟩
 ·exact absurd rfl hg
theorem IsAll.bools_eq{K:PySem.W.Frag}{H:Hp}:∀{ns:List Bool} {xs:List V},IsAll K H (ns.map D.bl) xs->xs=ns.map V.bl
 | [],xs,h=>IsAll.nil_iff.mp h
 | n::ns,xs,h=>by
   obtain⟨x,r,rfl,hx,tr⟩:=IsAll.cons_iff.mp h
   rw[Is.bl_iff.mp hx,IsAll.bools_eq tr];rfl
theorem y5j:∀{bs:List Bool} {us:List Value} {i:Nat} {v:Value},Vals (bs.map V.bl) us->us[i]? = some v->∃b,bs[i]? = some b/\v = .bool b
 | [],us,i,v,r,e=>by cases r;simp at e
 | b::bs,us,0,v,r,e=>by
   cases r with
   | cons r1 r2=>simp at e;subst e;exact⟨b,rfl,r1⟩
 | b::bs,us,i+1,v,r,e=>by
   cases r with
   | cons r1 r2 =>
     obtain⟨b',e1,e2⟩:=y5j (i:=i) r2 (by simpa using e)
     exact⟨b',by simpa using e1,e2⟩
theorem y1n:∀bs:List Bool,((List.range bs.length).any fun i=>(bs[i]?).getD false)=bs.any (fun b=>b)
 | []=>rfl
 | b::bs=>by
   rw[List.length_cons,List.range_succ_eq_map,List.any_cons,List.any_map,List.any_cons,<-y1n bs]
   rfl
theorem x2p(hc:X.calm=true):z8a X (.builtin "any") (fun xs H Q=>∃(a:Addr) (bs:List Bool),xs=[.ref a]/\SqL X.K H a (bs.map V.bl)/\Q (.bl (bs.any (fun b=>b))) H):=by
 intro pins s σ H xs us Q I r h
 obtain⟨a,bs,rfl,hq,q⟩:=h
 obtain⟨u,rfl,ru⟩:=y3v r
 cases ru
 obtain⟨its,rv,pl,_⟩:=I.list hq
 have hl:=pl.isList
 have hlt:a<s.heap.objs.size:=by obtain⟨_,e,_⟩:=hl;exact Heap.lt_size e
 have hlen:its.length=bs.length:=by rw[<-rv.length,List.length_map]
 refine call_any_walk (wpAny_pyIter_list hl ?_)
 refine⟨s.heap.objs.size,[s.heap.objs.size,a],[s.heap.objs.size],its.toArray.size,_,_,fun i=>(bs[i]?).getD false,rfl,Walks.list (A:=X.A.in1) (I.ok.hd hc) _ a (Nat.ne_of_lt hlt) its.toArray,
  ⟨⟨_,Heap.get?_push_size _ rfl,rfl,rfl⟩,hl.push _⟩,fun i v s' Q' E' hP hQ=>?_,fun h' tk hk=>?_⟩
 ·obtain⟨b,e,rfl⟩:=y5j rv (i:=i) (v:=v) (by simpa using hP)
  simp only[e,Option.getD_some] at hQ
  exact wpAny_truthy_bool hQ
 ·have e:((List.range its.toArray.size).any fun i=>(bs[i]?).getD false)=bs.any (fun b=>b):=by
   rw[List.size_toArray,hlen];exact y1n bs
  refine⟨.bl (bs.any (fun b=>b)),H,I.kept (fun b x ex=>hk b x (fun hm=>by rw[List.mem_singleton.mp hm] at ex;exact Nat.lt_irrefl _ (Heap.lt_size ex)) (Heap.get?_push_of_some _ ex)),by rw[e];rfl,q⟩
theorem x9a(hc:X.calm=true):z9x X (.builtin "any") dAny:=by
 refine⟨_,x2p (X:=X.nox) hc,fun H xs ds i hg=>?_⟩
 unfold dAny at hg
 split at hg
 ·rename_i ys
  obtain⟨v,rfl,h⟩:=z7j i
  obtain⟨a,zs,rfl,h1,h2⟩:=Is.lst_iff.mp h
  cases q:bools? ys with
  | none=>rw[q] at hg;exact absurd rfl hg
  | some ns =>
    have:=bools?_some q
    subst this
    rw[h2.bools_eq] at h1
    exact⟨a,ns,rfl,h1,.bl (ns.any (fun b=>b)),by show dAny [.lst (ns.map D.bl)]=_;simp only[dAny,q],.refl _,Is.bl_iff.mpr rfl⟩
 ·exact absurd rfl hg
end
noncomputable def CXE(P:Program)(w:World):CXT:=fun outer H s E x s'=>∃(e C T:Addr) (oe oT:Obj) (vs ts:Array Value) (H':Hp),x = .ref e/\s'.os=s.os/\AllBare s'.gens/\Un (frs outer) [] H H' s.heap s'.heap/\HOk P w H' s'.heap /\
 H' e=none/\s.heap.get? e=none/\s'.heap.get? e=some oe/\oe.cls = .ref C/\oe.data = .fields vs/\(∃a0,vs[0]? = some a0)/\vs[1]? = some (.ref T)/\H' T=none/\s.heap.get? T=none/\T≠e/\s'.heap.get? T=some oT/\oT.data = .fields ts/\ts[3]? = some .none/\E (.ref C) none H'
noncomputable def spD(K:PySem.W.Frag)(mg:Str->Option Value)(φ:List D->R D):Sp:=fun vs H Q E=>∃ds,IsAll K H ds vs/\φ ds ≠ .no/\(∀d v H',φ ds = .ok d->Same H H'->Is K H' d v->Q v H')/\(∀c C H',φ ds = .er c->mg c.nm=some (.ref C)->Same H H'->E (.ref C) none H')
noncomputable def spF(K:PySem.W.Frag)(mg:Str->Option Value)(φ:List D->R (List D)):Sp:=fun vs H Q E=>∃ds,IsAll K H ds vs/\φ ds ≠ .no/\(∀es a xs H',φ ds = .ok es->Same H H'->H a=none->H' a=some (.lst xs)->IsAll K H' es xs->Q (.ref a) H')/\(∀c C H',φ ds = .er c->mg c.nm=some (.ref C)->Same H H'->E (.ref C) none H')
structure FnD (P:Program) (w:World) (K:PySem.W.Frag) (mg:Str->Option Value) (base:Heap) (k:Nat) (f:Addr) (fd:FuncData) (ps:List Str) (φ:List D->R D):Prop where
 ok:FnOk P w K mg base (CXE P w) k f fd ps (spD K mg φ)
 binds:z1s K fd ps []
 kp:PySem.W.keepIn K (.ref f)=true
structure FnF (P:Program) (w:World) (K:PySem.W.Frag) (mg:Str->Option Value) (base:Heap) (k:Nat) (f:Addr) (fd:FuncData) (ps:List Str) (φ:List D->R (List D)):Prop where
 ok:FnOk P w K mg base (CXE P w) k f fd ps (spF K mg φ)
 binds:z1s K fd ps []
 kp:PySem.W.keepIn K (.ref f)=true
theorem FnD.mono{P:Program}{w:World}{K:PySem.W.Frag}{mg:Str->Option Value}{base:Heap}{j k:Nat}{f:Addr}{fd:FuncData}{ps:List Str}{φ:List D->R D}(F:FnD P w K mg base j f fd ps φ)(h:j<=k):FnD P w K mg base k f fd ps φ:=⟨F.ok.mono h,F.binds,F.kp⟩
section
variable {X:Cx}{e a b c:Expr}{g ga gb gc:G->R D}{pos p:Pos}{x:Str}{es:List Expr}{gs:G->R (List D)}
theorem _root_.L2.Inv.gone{pins:List (Addr×Obj)}{σ:St}{H:Hp}{s:Shared}{q:Addr}(I:Inv X pins σ H s)(hex:X.ex=[])(hq:s.heap.get? q=none):X.s₀.heap.get? q=none/\q≠X.env.locals/\(∀y k,X.env.cells.lookup y=some k->k≠q)/\(∀p∈X.pn++pins,p.1≠q):=by
 refine⟨?_,fun z=>?_,fun y k ek z=>?_,fun p hp z=>?_⟩
 ·cases e0:X.s₀.heap.get? q with
  | none=>rfl
  | some o =>
    obtain⟨o',e1⟩:=I.base.there q o e0 (by rw[hex];simp)
    rw[hq] at e1;cases e1
 ·obtain⟨m,⟨o,_,_,ho,_⟩,_⟩:=I.loc
  rw[<-z,hq] at ho;cases ho
 ·obtain⟨v,o,ho,_⟩:=I.cell y k ek
  rw[z,hq] at ho;cases ho
 ·have ho:=(I.pin p hp).1
  rw[z,hq] at ho;cases ho
theorem z9r{pins:List (Addr×Obj)}{σ:St}{H:Hp}{s s':Shared}{u:Value}{r:R D}{E:XK}(hex:X.ex=[]∨∀C H',¬E (.ref C) none H')(I:Inv X pins σ H s)(h:CXE X.prog X.w X.stack H s E u s')
 (hE:∀C H',E (.ref C) none H'->∃c,r = .er c/\X.mg c.nm=some (.ref C)/\Same H H'):z1n X pins σ H r u s':=by
 obtain⟨e,C,T,oe,oT,vs,ts,H',rfl,os,bare,un,hok,he0,he1,he2,he3,he4,he5,hv,hT0,hT1,hT2,hT3,hT4,hT5,hE'⟩:=h
 have hex:X.ex=[]:=hex.resolve_right fun z=>z C H' hE'
 obtain⟨c,er,hm,S⟩:=hE C H' hE'
 obtain⟨hh,gg,dd,tt,os'⟩:=s'
 obtain rfl:os'=s.os:=os
 have I':Inv X pins σ H' { s with heap:=hh,gens:=gg,drawn:=dd,toks:=tt }:=I.call (h':=hh) (g':=gg) (d':=dd) (t':=tt) (ch:=[]) un hok bare (fun b z=>absurd z (by simp))
 have fr:∀q:Addr,s.heap.get? q=none->X.s₀.heap.get? q=none/\q≠X.env.locals/\(∀y k,X.env.cells.lookup y=some k->k≠q)/\(∀p∈X.pn++pins,p.1≠q):=fun q hq=>I.gone hex hq
 obtain⟨f1,f2,f3,f4⟩:=fr e he1
 obtain⟨g1,g2,g3,g4⟩:=fr T hT1
 exact⟨c,H',er,S,I',e,C,oe,vs,rfl,hm,he0,f1,f2,f3,f4,he2,he3,he4,he5,.inr ⟨T,oT,ts,hv,hT0,g1,g2,g3,g4,hT2,hT3,hT4,.inl hT5⟩⟩
theorem runD{k:Nat}{f:Addr}{fd:FuncData}{ps:List Str}{φ:List D->R D}(Fn:FnD X.prog X.w X.K X.mg X.base k f fd ps φ)(hr:Room k X.A){pins:List (Addr×Obj)}{σ:St}{H:Hp}{s:Shared}{us:List Value}{vs:List V}{ds:List D}
 (I:Inv X pins σ H s) (r:Vals vs us) (i:IsAll X.K H ds vs) (hg:φ ds ≠ .no) (hx:X.ex=[]∨∀c,φ ds ≠ .er c):wpAny (model X.prog X.w) X.A (call (.ref f) us) (Post X pins σ H (φ ds)) (z1n X pins σ H (φ ds)) s:=by
 have hsp:spD X.K X.mg φ vs H (fun v H'=>∃d,φ ds = .ok d/\Same H H'/\Is X.K H' d v) (fun C' _ H'=>∃c C,C' = .ref C/\φ ds = .er c/\X.mg c.nm=some (.ref C)/\Same H H') :=
  ⟨ds,i,hg,fun d v H' e S iv=>⟨d,e,S,iv⟩,fun c C H' e hm S=>⟨c,C,rfl,e,hm,S⟩⟩
 have hl:us.length=ps.length:=by rw[<-r.length];exact Fn.ok.len _ _ _ _ hsp
 have hb:=Fn.binds s us I.kIn (by rw[List.append_nil];exact hl)
 rw[List.append_nil] at hb
 refine wpAny_call (codeAny_mono (Fn.ok.run X.A X.stack s H ⟨us,[]⟩ us vs _ _ hr I.env0 hb r hsp) fun r' s' hq=>?_)
 cases r' with
 | error u =>
   refine z9r (E:=fun C' _ H'=>∃c C,C' = .ref C/\φ ds = .er c/\X.mg c.nm=some (.ref C)/\Same H H') (hx.imp_right fun z C H' ⟨c,_,_,q,_⟩=>z c q) I hq fun C H' hE=>?_
   obtain⟨c,C',e,h1,h2,h3⟩:=hE
   cases e
   exact⟨c,h1,h2,h3⟩
 | ok fl =>
   cases fl with
   | ret u =>
     obtain⟨v,H',I',rv,d,e,S,iv⟩:=I.after hq
     exact⟨d,v,H',e,I',rv,S,iv⟩
   | next=>exact False.elim hq
   | brk=>exact False.elim hq
   | cont=>exact False.elim hq
theorem z0j{k:Nat}{f:Addr}{fd:FuncData}{ps:List Str}{φ:List D->R D}(Fn:FnD X.prog X.w X.K X.mg X.base k f fd ps φ)(hr:Room k X.A)(hm:X.mg x=some (.ref f))(ha:PAD X (e::es) gs)(hex:X.ex=[]:=by rfl)(hg:Gl X x:=by rfl)(hdb:(x==("__debug__":Str))=false:=by decide)
 (he:starEach (e::es) X.env=(false,eval e X.env)::starEach es X.env:=by rfl) (hpl:(backTo pos (starEach es X.env)).any (·.1)=false:=by rfl):PD X (.Call (.Name x p) (e::es) [] pos) (z0h φ gs):=by
 refine⟨fun pins s σ H F Γ I fo rl hgg=>?_⟩
 refine wpAny_Call_Name_kw (y0z I hg hm ?_ hdb)
 refine PySem.W.callWith_K (h₀:=X.base) I.ok.mod.kin Fn.kp (wpAny_mono (ha.run pos pins s σ H F Γ I fo rl (R.left hgg)) (fun us s1 ⟨ds,vs,H1,e1,I1,r1,S1,i1⟩=>⟨I1.kIn,?_⟩) fun _ _ x=>x.bind _) he hpl
 exact wpAny_mono (runD Fn hr I1 r1 i1 (R.next hgg e1) (.inl hex)) (fun _ _ q=>Post.bind e1 S1 q) fun _ _ q=>z1n.later e1 S1 q
theorem FnD.noEr{P:Program}{w:World}{K:PySem.W.Frag}{mg:Str->Option Value}{base:Heap}{k:Nat}{f:Addr}{fd:FuncData}{ps:List Str}{φ:List D->R D}(F:FnD P w K mg base k f fd ps φ):FnD P w K mg base k f fd ps (L3.noEr φ):=by
 refine⟨F.ok.imp fun vs H Q E h=>?_,F.binds,F.kp⟩
 obtain⟨ds,i,hne,hok,her⟩:=h
 obtain⟨d,e1,e2⟩:=x0u hne
 exact⟨ds,i,(by rw[e1];exact fun z=>nomatch z),fun d' v H' e S iv=>hok d' v H' (e2.trans (e1.symm.trans e)) S iv,fun c C H' e=>by rw[e1] at e;cases e⟩
theorem z3d{k:Nat}{f:Addr}{fd:FuncData}{ps:List Str}{φ:List D->R D}(Fn:FnD X.prog X.w X.K X.mg X.base k f fd ps φ)(hr:Room k X.A)(hm:X.mg x=some (.ref f))(ha:PAD X (e::es) gs)(hg:Gl X x:=by rfl)(hdb:(x==("__debug__":Str))=false:=by decide)
 (he:starEach (e::es) X.env=(false,eval e X.env)::starEach es X.env:=by rfl) (hpl:(backTo pos (starEach es X.env)).any (·.1)=false:=by rfl):PD X (.Call (.Name x p) (e::es) [] pos) (z0h (L3.noEr φ) gs):=by
 refine⟨fun pins s σ H F Γ I fo rl hgg=>?_⟩
 refine wpAny_Call_Name_kw (y0z I hg hm ?_ hdb)
 refine PySem.W.callWith_K (h₀:=X.base) I.ok.mod.kin Fn.kp (wpAny_mono (ha.run pos pins s σ H F Γ I fo rl (R.left hgg)) (fun us s1 ⟨ds,vs,H1,e1,I1,r1,S1,i1⟩=>⟨I1.kIn,?_⟩) fun _ _ x=>x.bind _) he hpl
 have hg1:=R.next hgg e1
 obtain⟨d,_,e3⟩:=x0u hg1
 exact wpAny_mono (runD Fn.noEr hr I1 r1 i1 hg1 (.inr fun c z=>by rw[e3] at z;cases z)) (fun _ _ q=>Post.bind e1 S1 q) fun _ _ q=>z1n.later e1 S1 q
theorem runF{k:Nat}{f:Addr}{fd:FuncData}{ps:List Str}{φ:List D->R (List D)}(Fn:FnF X.prog X.w X.K X.mg X.base k f fd ps φ)(hr:Room k X.A){pins:List (Addr×Obj)}{σ:St}{H:Hp}{s:Shared}{us:List Value}{vs:List V}{ds:List D}
 (I:Inv X pins σ H s) (r:Vals vs us) (i:IsAll X.K H ds vs) (hg:φ ds ≠ .no) (hx:X.ex=[]∨∀c,φ ds ≠ .er c):wpAny (model X.prog X.w) X.A (call (.ref f) us) (fun u s'=>∃es a xs H',φ ds = .ok es/\Inv X pins σ H' s'/\u = .ref a/\Same H H'/\H a=none/\H' a=some (.lst xs)/\IsAll X.K H' es xs) (z1n X pins σ H (φ ds)) s:=by
 have hsp:spF X.K X.mg φ vs H (fun v H'=>∃es a xs,v = .ref a/\φ ds = .ok es/\Same H H'/\H a=none/\H' a=some (.lst xs)/\IsAll X.K H' es xs) (fun C' _ H'=>∃c C,C' = .ref C/\φ ds = .er c/\X.mg c.nm=some (.ref C)/\Same H H') :=
  ⟨ds,i,hg,fun es a xs H' e S h1 h2 h3=>⟨es,a,xs,rfl,e,S,h1,h2,h3⟩,fun c C H' e hm S=>⟨c,C,rfl,e,hm,S⟩⟩
 have hl:us.length=ps.length:=by rw[<-r.length];exact Fn.ok.len _ _ _ _ hsp
 have hb:=Fn.binds s us I.kIn (by rw[List.append_nil];exact hl)
 rw[List.append_nil] at hb
 refine wpAny_call (codeAny_mono (Fn.ok.run X.A X.stack s H ⟨us,[]⟩ us vs _ _ hr I.env0 hb r hsp) fun r' s' hq=>?_)
 cases r' with
 | error u =>
   obtain⟨c,H',e1,S,fl⟩:=z9r (r:=φ ds>>=fun _=>.ok D.non) (E:=fun C' _ H'=>∃c C,C' = .ref C/\φ ds = .er c/\X.mg c.nm=some (.ref C)/\Same H H') (hx.imp_right fun z C H' ⟨c,_,_,q,_⟩=>z c q) I hq fun C H' hE=>by
    obtain⟨c,C',e,h1,h2,h3⟩:=hE
    cases e
    exact⟨c,R.stop h1 _,h2,h3⟩
   refine⟨c,H',?_,S,fl⟩
   cases q:φ ds with
   | no=>exact absurd q hg
   | ok _=>rw[q] at e1;cases e1
   | er c'=>rw[q] at e1;cases e1;rfl
 | ok fl =>
   cases fl with
   | ret u =>
     obtain⟨v,H',I',rv,es,a,xs,rfl,e,S,h1,h2,h3⟩:=I.after hq
     exact⟨es,a,xs,H',e,I',rv,S,h1,h2,h3⟩
   | next=>exact False.elim hq
   | brk=>exact False.elim hq
   | cont=>exact False.elim hq
theorem y0p{k:Nat}{f:Addr}{fd:FuncData}{ps:List Str}{φ:List D->R (List D)}(Fn:FnF X.prog X.w X.K X.mg X.base k f fd ps φ)(hr:Room k X.A)(hm:X.mg x=some (.ref f))(ha:PAD X (e::es) gs)(hex:X.ex=[]:=by rfl)(hg:Gl X x:=by rfl)(hdb:(x==("__debug__":Str))=false:=by decide)
 (he:starEach (e::es) X.env=(false,eval e X.env)::starEach es X.env:=by rfl) (hpl:(backTo pos (starEach es X.env)).any (·.1)=false:=by rfl):PF X (.Call (.Name x p) (e::es) [] pos) (z4v φ gs):=by
 refine⟨fun pins s σ H F Γ I fo rl hgg=>?_⟩
 refine wpAny_Call_Name_kw (y0z I hg hm ?_ hdb)
 refine PySem.W.callWith_K (h₀:=X.base) I.ok.mod.kin Fn.kp (wpAny_mono (ha.run pos pins s σ H F Γ I fo rl (R.left hgg)) (fun us s1 ⟨ds,vs,H1,e1,I1,r1,S1,i1⟩=>⟨I1.kIn,?_⟩) fun _ _ x=>x.bind _) he hpl
 have hg1:=R.next hgg e1
 refine wpAny_mono (runF Fn hr I1 r1 i1 (R.left hg1) (.inl hex)) (fun u s' ⟨es',a,xs,H',e2,I2,eu,S2,h1,h2,h3⟩=>?_) fun _ _ q=>z1n.later e1 S1 (q.bind _)
 have hgx:=R.next hg1 e2
 obtain⟨n,e3⟩:=R.guard_ne hgx
 exact⟨es',a,xs,H',(R.step e1 _).trans ((R.step e2 _).trans e3),I2,eu,S1.trans S2,S1.free h1,h2,IsAll.hid (((fo.same S1).same S2).cons h2) es' xs n h3⟩
theorem x0p{x:Str}(ha:PD X a ga)(hm:X.mg x=none)(hv:bootBuiltins x=some (.type "list"))(hg:Gl X x:=by rfl)(hn:x≠"__name__":=by decide)(hdb:(x==("__debug__":Str))=false:=by decide)
 (he:starEach [a] X.env=(false,eval a X.env)::starEach [] X.env:=by rfl) (hpl:(backTo pos (starEach [] X.env)).any (·.1)=false:=by rfl):PF X (.Call (.Name x p) [a] [] pos) (z6w ga):=by
 refine⟨fun pins s σ H F Γ I fo rl hgg=>?_⟩
 refine wpAny_Call_Name_kw (z6f I hg hm hv ?_ hn hdb)
 refine PyProof.Rows.callWith_type1 (wpAny_mono ((z0a ha z0c he).run pos pins s σ H F Γ I fo rl (fun z=>?_)) (fun us s1 ⟨ds,vs,H1,e1,I1,r1,S1,i1⟩=>?_) fun _ _ q=>?_) he hpl
 ·unfold gCons at z
  cases q:ga Γ with
  | no=>exact absurd (show z6w ga Γ = .no by unfold z6w;rw[q];rfl) hgg
  | ok d=>rw[q] at z;cases z
  | er c=>rw[q] at z;cases z
 ·have e0:∃d,ga Γ = .ok d/\ds=[d]:=by
   unfold gCons at e1
   cases q:ga Γ with
   | no=>rw[q] at e1;cases e1
   | ok d=>rw[q] at e1;cases e1;exact⟨d,rfl,rfl⟩
   | er c=>rw[q] at e1;cases e1
  obtain⟨d,ed,rfl⟩:=e0
  obtain⟨v,rfl,iv⟩:=z7j i1
  have hg1:=R.next hgg ed
  have fin:∀(p':Addr) (ys:List V) (es':List D),v = .ref p'->(SqL X.K H1 p' ys∨SqT X.K H1 p' ys)->IsAll X.K H1 es' ys->D.noLs es'=true->z6w ga Γ = .ok es' ->
   wpAny (model X.prog X.w) X.A (call (.type "list") us) (fun u s'=>∃ds a xs H',z6w ga Γ = .ok ds/\Inv X pins σ H' s'/\u = .ref a/\Same H H'/\H a=none/\H' a=some (.lst xs)/\IsAll X.K (hid (a::F) H') ds xs) (z1n X pins σ H (z6w ga Γ)) s1:=fun p' ys es' ev hq ie hn' eg=>by
   subst ev
   refine wpAny_mono (y5h (X:=X.nox) pins s1 σ H1 _ us (fun z H'=>∃l,z = .ref l/\H1 l=none/\H'=upd H1 l (.lst ys)) (I1.wish _) r1 ⟨p',ys,rfl,hq,fun l hl=>⟨l,rfl,hl,rfl⟩⟩) (fun u s' ⟨z,H',I',rz,l,ez,hl,eH⟩=>?_) fun _ _ z=>False.elim z
   subst ez eH
   have S2:=z1x hl (.lst ys)
   exact⟨es',l,ys,_,eg,I'.unwish,rz,S1.trans S2,S1.free hl,z0v,IsAll.hid (((fo.same S1).same S2).cons z0v) es' ys hn' (ie.same S2)⟩
  cases d with
  | tup es' =>
    obtain⟨n,e2⟩:=R.guard_ne (show R.guard (D.noLs es'=true) (.ok es') ≠ .no from hg1)
    obtain⟨p',ys,ev,h1,h2⟩:=Is.tup_iff.mp iv
    exact fin p' ys es' ev (.inr h1) h2 n ((R.step ed _).trans e2)
  | lst es' =>
    obtain⟨n,e2⟩:=R.guard_ne (show R.guard (D.noLs es'=true) (.ok es') ≠ .no from hg1)
    obtain⟨p',ys,ev,h1,h2⟩:=Is.lst_iff.mp iv
    exact fin p' ys es' ev (.inl h1) h2 n ((R.step ed _).trans e2)
  | _=>exact absurd rfl hg1
 ·obtain⟨c',H',e1,S,fl⟩:=q
  refine⟨c',H',?_,S,fl⟩
  unfold gCons at e1
  cases q:ga Γ with
  | no=>rw[q] at e1;cases e1
  | ok d=>rw[q] at e1;cases e1
  | er c=>rw[q] at e1;cases e1;unfold z6w;rw[q];rfl
theorem x7w{ga gb:G->R (List D)}(ha:PF X a ga)(hb:PF X b gb):PF X (.BinOp a .Add b pos) (gCat ga gb):=by
 refine⟨fun pins s σ H F Γ I fo rl hg=>?_⟩
 refine wpAny_BinOp (wpAny_mono (ha.run pins s σ H F Γ I fo rl (R.left hg)) (fun v s1 ⟨dx,a1,xs,H1,e1,I1,r1,S1,n1,h1,i1⟩=>?_) fun _ _ x=>x.bind _)
 have hg1:=R.next hg e1
 refine wpAny_mono (hb.run pins s1 σ H1 F Γ I1 (fo.same S1) (rl.same S1) (R.left hg1)) (fun u s2 ⟨dy,a2,ys,H2,e2,I2,r2,S2,n2,h2,i2⟩=>?_) fun _ _ x=>z1n.later e1 S1 (x.bind _)
 have hgx:=R.next hg1 e2
 obtain⟨hc,e3⟩:=R.guard_ne hgx
 subst r1 r2
 have hz:xs.length+ys.length<=sizeLine:=by rw[<-i1.length,<-i2.length];exact z6u hc
 refine wpAny_mono (x8g (X:=X.nox) pins s2 σ H2 (.ref a1) (.ref a2) _ _ (fun z H'=>∃l,z = .ref l/\H2 l=none/\H'=upd H2 l (.lst (xs++ys))) (I2.wish _) rfl rfl ⟨a1,a2,xs,ys,rfl,rfl,S2 _ _ h1,h2,hz,fun l hl=>⟨l,rfl,hl,rfl⟩⟩) (fun u s' ⟨z,H',I',rz,l,ez,hl,eH⟩=>?_) fun _ _ z=>False.elim z
 subst ez eH
 have S3:=z1x hl (.lst (xs++ys))
 have up:∀{q:Addr} {Hq:Hp} {zs:List V} {ds:List D},Same Hq H2->Hq q≠none->IsAll X.K (hid (q::F) Hq) ds zs->IsAll X.K (hid (l::F) (upd H2 l (.lst (xs++ys)))) ds zs:=fun {q Hq zs ds} Sq hq i=>by
  refine i.same fun b o hb=>?_
  obtain⟨z1,z2⟩:=z2v hb
  have z3:=Sq _ _ z2
  have hbl:b≠l:=z0p z3 hl
  rw[z1j fun z=>(List.mem_cons.mp z).elim hbl fun z'=>z1 (List.mem_cons_of_mem _ z'),z0q hbl]
  exact z3
 exact⟨dx++dy,l,xs++ys,_,(R.step e1 _).trans ((R.step e2 _).trans e3),I'.unwish,rz,(S1.trans S2).trans S3,S1.free (S2.free hl),z0v,(up S2 (by rw[h1];simp) i1).append (up (.refl _) (by rw[h2];simp) i2)⟩
end
noncomputable def JD(K:PySem.W.Frag)(H:Hp)(F:List Addr)(J:It)(ds:List D):Prop:=∀H1,(∀b o,b ∉ F->H b=some o->H1 b=some o) ->
 (∀i:Nat,i<ds.length->J.go i H1/\∀x H2,J.yld i H1 x H2->H2=H1/\∃d,ds[i]? = some d/\∀F',(∀b,b∈F'->b∈F∨H b=none)->Is K (hid F' H1) d x)/\J.stop ds.length H1
noncomputable def JC(K:PySem.W.Frag)(H:Hp)(F:List Addr)(J:It)(ds:List D):Prop:=∀H1,Same H H1 ->
 (∀i:Nat,i<ds.length->J.go i H1/\∀x H2,J.yld i H1 x H2->H2=H1/\∃d,ds[i]? = some d/\Is K (hid F H1) d x)/\J.stop ds.length H1
theorem JD.jc{K:PySem.W.Frag}{H:Hp}{F:List Addr}{J:It}{ds:List D}(h:JD K H F J ds):JC K H F J ds:=fun H1 S=>by
 obtain⟨h1,h2⟩:=h H1 fun b o _ q=>S b o q
 refine⟨fun i hi=>⟨(h1 i hi).1,fun x H2 y=>?_⟩,h2⟩
 obtain⟨e,d,ed,iv⟩:=(h1 i hi).2 x H2 y
 exact⟨e,d,ed,iv F fun b hb=>.inl hb⟩
structure PIx (Jx:PySem.W.Frag->Hp->List Addr->It->List D->Prop) (X:Cx) (tg iter:Expr) (g:G->R (List D)):Prop where
 run:∀(pins:List (Addr×Obj)) (s:Shared) (σ:St) (H:Hp) (F:List Addr) (Γ:G),Inv X pins σ H s->FOk H F->Rel X.K H F Γ σ->g Γ ≠ .no ->
  wpAny (model X.prog X.w) X.A (eval iter X.env) (fun v s1=>wpAny (model X.prog X.w) X.A (pyIter v) (fun itv s2=>∃(ds:List D) (it:Addr) (fp:List Addr) (tn:Nat->Heap->Prop) (J:It) (H':Hp),g Γ = .ok ds/\itv = .ref it/\Inv X pins σ H' s2/\Same H H' /\
   Turn X.prog X.w X.K tg J fp it tn/\tn 0 s2.heap/\(∀b∈fp,FpOk X pins H' b)/\Jx X.K H' F J ds) (z1n X pins σ H (g Γ)) s1) (z1n X pins σ H (g Γ)) s
noncomputable abbrev PIF:=PIx JD
noncomputable abbrev PIC:=PIx JC
theorem PIx.pic{X:Cx}{tg iter:Expr}{g:G->R (List D)}(h:PIF X tg iter g):PIC X tg iter g:=⟨fun pins s σ H F Γ I fo rl hg =>
 thn (h.run pins s σ H F Γ I fo rl hg) fun v s1 h1=>thn h1 fun itv s2 ⟨ds,it,fp,tn,J,H',e,ei,I',S,T,t0,fk,j⟩=>⟨ds,it,fp,tn,J,H',e,ei,I',S,T,t0,fk,j.jc⟩⟩
section
variable {X:Cx}{tg a b:Expr}{ga gb:G->R D}
theorem x6n{K:PySem.W.Frag}{H:Hp}{F:List Addr}{p:Addr}{xs:List V}{ds:List D}(h:SqL K H p xs)(i:IsAll K (hid F H) ds xs):JC K H F (Itl K p) ds:=fun H1 S=>by
 have h1:=S.seq h
 have il:=i.length
 refine⟨fun j hj=>⟨⟨xs,xs[j]'(by lia),h1,List.getElem?_eq_getElem (by lia)⟩,fun x H2 y=>⟨y.1,?_⟩⟩,⟨xs,h1,by lia⟩⟩
 exact(i.same (z1y S)).getX (y.2 xs h1)
theorem x3x{H H1:Hp}{F F':List Addr}(S:∀b o,b ∉ F->H b=some o->H1 b=some o)(o:∀b,b∈F'->b∈F∨H b=none):Same (hid F H) (hid F' H1):=Ext.hid ⟨S,o⟩
theorem x4x{K:PySem.W.Frag}{H:Hp}{F:List Addr}{p:Addr}{xs:List V}{ds:List D}(h:SqT K (hid F H) p xs)(i:IsAll K (hid F H) ds xs):JD K H F (Itt K p) ds:=fun H1 S=>by
 have h1:SqT K H1 p xs:=z6e (z4a (F:=F)) (z6e (x3x S fun b hb=>.inl hb) h)
 have il:=i.length
 refine⟨fun j hj=>⟨⟨xs,xs[j]'(by lia),h1,List.getElem?_eq_getElem (by lia)⟩,fun x H2 y=>⟨y.1,?_⟩⟩,⟨xs,h1,by lia⟩⟩
 obtain⟨d,ed,iv⟩:=i.getX (y.2 xs h1)
 exact⟨d,ed,fun F' hF=>iv.same (x3x S hF)⟩
theorem x6m{K:PySem.W.Frag}{H:Hp}{F:List Addr}{p:Addr}{xs:List V}{ds:List D}(h:SqL K (hid F H) p xs)(i:IsAll K (hid F H) ds xs):JD K H F (Itl K p) ds:=fun H1 S=>by
 have h1:SqL K H1 p xs:=(z4a (F:=F)).seq ((x3x S fun b hb=>.inl hb).seq h)
 have il:=i.length
 refine⟨fun j hj=>⟨⟨xs,xs[j]'(by lia),h1,List.getElem?_eq_getElem (by lia)⟩,fun x H2 y=>⟨y.1,?_⟩⟩,⟨xs,h1,by lia⟩⟩
 obtain⟨d,ed,iv⟩:=i.getX (y.2 xs h1)
 exact⟨d,ed,fun F' hF=>iv.same (x3x S hF)⟩
theorem x1l{pins:List (Addr×Obj)}{σ:St}{H:Hp}{s:Shared}{p:Addr}{xs:List V}{E:Value->Shared->Prop}{Q:Value->Shared->Prop}(I:Inv X pins σ H s)(h:SqL X.K H p xs)
 (q:∀it s2,Inv X pins σ H s2->Turn X.prog X.w X.K tg (Itl X.K p) [it] it (fun i h=>h.IsListIter it p i)->s2.heap.IsListIter it p 0->(∀b∈[it],FpOk X pins H b)->Q (.ref it) s2):wpAny (model X.prog X.w) X.A (pyIter (.ref p)) Q E s:=by
 obtain⟨its,rv,pl,hz⟩:=I.list h
 refine wpAny_pyIter_list pl.isList (q s.heap.objs.size _ (I.kept (t':=s.toks) fun b o e=>Heap.get?_push_of_some _ e) (y9o p _) ⟨_,Heap.get?_push_size _ rfl,rfl,rfl⟩ fun b hb=>?_)
 have e:b=s.heap.objs.size:=by simpa using hb
 subst e
 exact I.fpOk (Nat.le_refl _) (I.hok.fresh (Nat.le_refl _))
theorem x4z{pins:List (Addr×Obj)}{σ:St}{H:Hp}{s:Shared}{p:Addr}{xs:List V}{E:Value->Shared->Prop}{Q:Value->Shared->Prop}(I:Inv X pins σ H s)(h:SqT X.K H p xs)
 (q:∀it s2,Inv X pins σ H s2->Turn X.prog X.w X.K tg (Itt X.K p) [it] it (fun i h=>h.IsTupleIter it p i)->s2.heap.IsTupleIter it p 0->(∀b∈[it],FpOk X pins H b)->Q (.ref it) s2):wpAny (model X.prog X.w) X.A (pyIter (.ref p)) Q E s:=by
 obtain⟨its,rv,pl,hz⟩:=I.tuple h
 refine wpAny_pyIter_tuple (show s.heap.IsTuple p its.toArray from pl) (q s.heap.objs.size _ (I.kept (t':=s.toks) fun b o e=>Heap.get?_push_of_some _ e) (y7z p _) ⟨_,Heap.get?_push_size _ rfl,rfl,rfl⟩ fun b hb=>?_)
 have e:b=s.heap.objs.size:=by simpa using hb
 subst e
 exact I.fpOk (Nat.le_refl _) (I.hok.fresh (Nat.le_refl _))
theorem z9f(ha:PDr X a ga):PIF X tg a (gSeq ga):=by
 refine⟨fun pins s σ H F Γ I fo rl hg=>?_⟩
 refine wpAny_mono (ha.run pins s σ H F Γ I fo rl (R.left hg)) (fun v s1 ⟨d,x,H1,e1,I1,r1,S1,i1⟩=>?_) fun _ _ x=>x.bind _
 have hg1:=R.next hg e1
 cases d with
 | tup ds =>
   obtain⟨p,xs,rfl,h1,h2⟩:=Is.tup_iff.mp i1
   cases (show v=Value.ref p from r1)
   exact x4z (tg:=tg) I1 (z6e (z4a (F:=F)) h1) fun it s2 I2 T t0 fk=>⟨ds,it,_,_,_,H1,R.step e1 _,rfl,I2,S1,T,t0,fk,x4x h1 h2⟩
 | lst ds =>
   obtain⟨p,xs,rfl,h1,h2⟩:=Is.lst_iff.mp i1
   cases (show v=Value.ref p from r1)
   exact x1l (tg:=tg) I1 ((z4a (F:=F)).seq h1) fun it s2 I2 T t0 fk=>⟨ds,it,_,_,_,H1,R.step e1 _,rfl,I2,S1,T,t0,fk,x6m h1 h2⟩
 | _=>exact absurd rfl hg1
theorem z5i(ha:PD X a ga):PIC X tg a (z5z ga):=by
 refine⟨fun pins s σ H F Γ I fo rl hg=>?_⟩
 refine wpAny_mono (ha.run pins s σ H F Γ I fo rl (R.left hg)) (fun v s1 ⟨d,x,H1,e1,I1,r1,S1,i1⟩=>?_) fun _ _ x=>x.bind _
 have hg1:=R.next hg e1
 cases d with
 | tup ds =>
   obtain⟨n,e2⟩:=R.guard_ne (show R.guard (D.noLs ds=true) (.ok ds) ≠ .no from hg1)
   obtain⟨p,xs,rfl,h1,h2⟩:=Is.tup_iff.mp i1
   cases (show v=Value.ref p from r1)
   exact x4z (tg:=tg) I1 h1 fun it s2 I2 T t0 fk=>⟨ds,it,_,_,_,H1,(R.step e1 _).trans e2,rfl,I2,S1,T,t0,fk,(x4x (x0b (fo.same S1) h1) (IsAll.hid (fo.same S1) ds xs n h2)).jc⟩
 | lst ds =>
   obtain⟨n,e2⟩:=R.guard_ne (show R.guard (D.noLs ds=true) (.ok ds) ≠ .no from hg1)
   obtain⟨p,xs,rfl,h1,h2⟩:=Is.lst_iff.mp i1
   cases (show v=Value.ref p from r1)
   exact x1l (tg:=tg) I1 h1 fun it s2 I2 T t0 fk=>⟨ds,it,_,_,_,H1,(R.step e1 _).trans e2,rfl,I2,S1,T,t0,fk,x6n h1 (IsAll.hid (fo.same S1) ds xs n h2)⟩
 | _=>exact absurd rfl hg1
theorem y7o{K:PySem.W.Frag}{H:Hp}{F:List Addr}(lo:Int)(n:Nat):JD K H F (Itr lo n) (z3w lo n):=fun H1 S=>by
 rw[z0r]
 refine⟨fun j hj=>⟨hj,fun x H2 y=>⟨y.1,.int (lo+(j:Int)),z9e lo n j hj,fun F' _=>?_⟩⟩,Nat.le_refl _⟩
 exact Is.int_iff.mpr y.2
theorem z1w{p pos:Pos}(ha:PD X a ga)(hm:X.mg "range"=none)(hg:Gl X "range":=by rfl)(hs:starEach [a] X.env=[(false,eval a X.env)]:=by rfl):PIF X tg (.Call (.Name "range" p) [a] [] pos) (z5q ga):=by
 refine⟨fun pins s σ H F Γ I fo rl hgg=>?_⟩
 refine Call_ (z6f I hg hm boot_range (PyProof.Rows.callWith_type1 ?_ hs rfl))
 rw[hs]
 show wpAny _ _ (spliced ((false,eval a X.env)::backTo pos [])) _ _ s
 refine Calls.spliced_cons (wpAny_mono (ha.run pins s σ H F Γ I fo rl (R.left hgg)) (fun u s1 ⟨d,v,H1,e1,I1,r1,S1,i1⟩=>Calls.spliced_nil ?_) fun _ _ x=>x.bind _)
 have hg1:=R.next hgg e1
 cases d with
 | int j =>
   obtain⟨⟨h1,h2⟩,e2⟩:=R.guard_ne (show R.guard (-(2^62)<=j/\j<2^62) (.ok (z3w 0 j.toNat)) ≠ .no from hg1)
   rw[Is.int_iff.mp i1] at r1
   obtain⟨t,rfl⟩:=(show ∃t,u=Value.int j t from r1)
   refine call_range_1 (thn (y7c (tg:=tg) (R:=fun J H'=>J=Itr 0 (j-0).toNat/\H'=H1) I1 (by lia) (by lia) h1 h2 ⟨rfl,rfl⟩) fun itv s2 ⟨it,fp,tn,J,H',ei,I2,T,t0,fk,eJ,eH⟩=>?_)
   subst eJ eH
   rw[Int.sub_zero] at T
   exact⟨_,it,fp,tn,_,H',(R.step e1 _).trans e2,ei,I2,S1,T,t0,fk,y7o 0 j.toNat⟩
 | _=>exact absurd rfl hg1
theorem y8q{p pos:Pos}(ha:PD X a ga)(hb:PD X b gb)(hm:X.mg "range"=none)(hg:Gl X "range":=by rfl)(hs:starEach [a,b] X.env=[(false,eval a X.env),(false,eval b X.env)]:=by rfl)(hs2:starEach [b] X.env=[(false,eval b X.env)]:=by rfl) :
 PIF X tg (.Call (.Name "range" p) [a,b] [] pos) (z9j ga gb):=by
 refine⟨fun pins s σ H F Γ I fo rl hgg=>?_⟩
 refine Call_ (z6f I hg hm boot_range (PyProof.Rows.callWith_type1 ?_ (by rw[hs,hs2]) (by rw[hs2];rfl)))
 rw[hs]
 show wpAny _ _ (spliced ((false,eval a X.env)::backTo pos [(false,eval b X.env)])) _ _ s
 refine Calls.spliced_cons (wpAny_mono (ha.run pins s σ H F Γ I fo rl (R.left hgg)) (fun u s1 ⟨d,v,H1,e1,I1,r1,S1,i1⟩=>?_) fun _ _ x=>x.bind _)
 have hg1:=R.next hgg e1
 show wpAny _ _ (spliced ((false,eval b X.env)::backTo pos [])) _ _ s1
 refine Calls.spliced_cons (wpAny_mono (hb.run pins s1 σ H1 F Γ I1 (fo.same S1) (rl.same S1) (R.left hg1)) (fun u2 s2 ⟨d2,v2,H2,e2,I2,r2,S2,i2⟩=>Calls.spliced_nil ?_) fun _ _ x=>z1n.later e1 S1 (x.bind _))
 have hg2:=R.next hg1 e2
 cases d with
 | int i =>
   cases d2 with
   | int j =>
     obtain⟨⟨⟨h1,h2⟩,h3,h4⟩,e3⟩:=R.guard_ne (show R.guard ((-(2^62)<=i/\i<2^62) /\ -(2^62)<=j/\j<2^62) (.ok (z3w i (j-i).toNat)) ≠ .no from hg2)
     rw[Is.int_iff.mp i1] at r1
     rw[Is.int_iff.mp i2] at r2
     obtain⟨t,rfl⟩:=(show ∃t,u=Value.int i t from r1)
     obtain⟨t',rfl⟩:=(show ∃t,u2=Value.int j t from r2)
     refine call_range_2 (thn (y7c (tg:=tg) (R:=fun J H'=>J=Itr i (j-i).toNat/\H'=H2) I2 h1 h2 h3 h4 ⟨rfl,rfl⟩) fun itv s3 ⟨it,fp,tn,J,H',ei,I3,T,t0,fk,eJ,eH⟩=>?_)
     subst eJ eH
     exact⟨_,it,fp,tn,_,H',(R.step e1 _).trans ((R.step e2 _).trans e3),ei,I3,S1.trans S2,T,t0,fk,y7o i (j-i).toNat⟩
   | _=>exact absurd rfl hg2
 | _=>exact absurd rfl hg2
end
theorem y8t{k:NameKind}(h:(k==NameKind.free)=true):k = .free:=by cases k<;>first | rfl | (exact absurd h (by decide))
noncomputable def capt(env:Env):List (Str×NameKind)->List (Str×Addr)->List (Str×Addr)
 | [],cs=>cs
 | (n,k)::r,cs=>if (k == .free)=true then (match env.cells.lookup n with | some a=>capt env r ((n,a)::cs) | none=>capt env r cs) else capt env r cs
theorem z3r{env:Env}{x:Str}{c:Addr}:∀(names:List (Str×NameKind)) (cs:List (Str×Addr)),(x,c)∈capt env names cs->(x,c)∈cs∨env.cells.lookup x=some c
 | [],cs,h=>.inl h
 | (n,k)::r,cs,h=>by
   unfold capt at h
   split at h
   ·split at h
    ·rename_i a e
     rcases z3r r _ h with q | q
     ·rcases List.mem_cons.mp q with z | z
      ·cases z;exact .inr e
      ·exact .inl z
     ·exact .inr q
    ·exact z3r r _ h
   ·exact z3r r _ h
theorem y0f{env:Env}{p:Str×Addr}:∀(names:List (Str×NameKind)) (cs:List (Str×Addr)),p∈cs->p∈capt env names cs
 | [],cs,h=>h
 | (n,k)::r,cs,h=>by
   unfold capt
   split
   ·split
    ·exact y0f r _ (List.mem_cons_of_mem _ h)
    ·exact y0f r _ h
   ·exact y0f r _ h
theorem z5d{env:Env}{x:Str}{c:Addr}(e:env.cells.lookup x=some c):∀(names:List (Str×NameKind)) (cs:List (Str×Addr)),(x,NameKind.free)∈names->(x,c)∈capt env names cs
 | [],cs,h=>by simp at h
 | (n,k)::r,cs,h=>by
   unfold capt
   rcases List.mem_cons.mp h with z | z
   ·cases z
    rw[if_pos (show(NameKind.free==NameKind.free)=true by decide),e]
    exact y0f r _ List.mem_cons_self
   ·split
    ·split
     ·exact z5d e r _ z
     ·exact z5d e r _ z
    ·exact z5d e r _ z
theorem z1l{α:Type}:∀{l:List (Str×α)} {x:Str} {c:α},(x,c)∈l->∃c',l.lookup x=some c'/\(x,c')∈l
 | [],_,_,h=>by simp at h
 | (n,a)::r,x,c,h=>by
   by_cases e:x=n
   ·subst e;exact⟨a,by simp[List.lookup],List.mem_cons_self⟩
   ·rcases List.mem_cons.mp h with z | z
    ·cases z;exact absurd rfl e
    ·obtain⟨c',h1,h2⟩:=z1l z
     exact⟨c',by rw[List.lookup_cons,beq_eq_false_iff_ne.mpr e];exact h1,List.mem_cons_of_mem _ h2⟩
noncomputable def y3s(N:List Str)(env:Env)(y:Str)(scope:Scope):Bool :=
 decide (scope.kind = .function)&&scope.names.all (fun p=>decide (p.2 ≠ .cell)&&(decide (p.2 ≠ .local)||decide (scope.names.lookup p.1=some .local))&&(decide (p.2 ≠ .free)||((env.cells.lookup p.1).isSome&&(decide (env.scope.names.lookup p.1=some .cell)||decide (env.scope.names.lookup p.1=some .free)))))
  && decide (scope.names.lookup y=some .local)&&decide (scope.names.lookup (("":Str))=none)&&N.all (fun z=>decide (scope.names.lookup z≠some .local)||decide (z=y))&&N.all (fun z=>decide (z≠("":Str)))
structure CompOk (N:List Str) (env:Env) (y:Str) (scope:Scope):Prop where
 kind:scope.kind = .function
 nocell:∀p∈scope.names,p.2 ≠ .cell
 names:∀p∈scope.names,p.2 = .local->scope.names.lookup p.1=some .local
 free:∀p∈scope.names,p.2 = .free->(∃c,env.cells.lookup p.1=some c)/\(env.scope.names.lookup p.1=some .cell∨env.scope.names.lookup p.1=some .free)
 loc:scope.names.lookup y=some .local
 nil:scope.names.lookup (("":Str))=none
 only:∀z∈N,scope.names.lookup z=some .local->z=y
 none:∀z∈N,z≠("":Str)
theorem y5c{N:List Str}{env:Env}{y:Str}{scope:Scope}(h:y3s N env y scope=true):CompOk N env y scope:=by
 unfold y3s at h
 simp only[Bool.and_eq_true,List.all_eq_true,Bool.or_eq_true,decide_eq_true_eq] at h
 obtain⟨⟨⟨⟨⟨h1,h2⟩,h3⟩,h4⟩,h5⟩,h6⟩:=h
 refine⟨h1,fun p hp=>(h2 p hp).1.1,fun p hp e=>((h2 p hp).1.2).resolve_left fun z=>z e,fun p hp e=>?_,h3,h4,fun z hz e=>(h5 z hz).resolve_left fun q=>q e,h6⟩
 have q:=((h2 p hp).2).resolve_left fun z=>z e
 exact⟨Option.isSome_iff_exists.mp q.1,q.2⟩
noncomputable def z2a(X:Cx)(y:Str)(scope:Scope)(C:Addr)(s₂:Shared)(H₂:Hp)(fp:List Addr)(pn:List (Addr×Obj)):Cx :=
 { X with N:=y::X.N.map (fun z=>if z=y then ("":Str) else z),s₀:=s₂,H₀:=H₂,env:=compEnvC scope (capt X.env scope.names []) C X.env,outer:=X.stack,ex:=fp,fn:=fun _=>false,pn:=pn,xe:=fun _ _=>False }
theorem pure_J{α β:Type}{M:Model}{A:Around}{E E':Value->Shared->Prop}{s:Shared}{a:α}{t:Sem β}{P:α->Shared->Prop}{Q:β->Shared->Prop}(h:wpAny M A (pure a) P E s)(k:P a s->wpAny M A t Q E' s):wpAny M A t Q E' s:=fun Γ p hΓ=>k (h Γ p hΓ) Γ p hΓ
theorem y3m{P:Program}{w:World}{H:Hp}{h:Heap}{a:Addr}{o:HO}(x:HOk P w H h)(hn:H a=none)(new:z7z P w (upd H a o) h a o):HOk P w (upd H a o) h:=fun b u e=>by
 by_cases hb:b=a
 ·subst hb;rw[z0v] at e;cases e;exact new
 ·rw[z0q hb] at e
  exact(x b u e).stay (fun c v _ q=>q) (fun c q=>by rw[z0q (z0p q hn)];exact q) fun c xs q=>by rw[z0q (z0p q hn)];exact q
theorem x2c{X:Cx}{y:Str}{scope:Scope}{C Dd:Addr}{fp:List Addr}{pins pl:List (Addr×Obj)}{σ σ':St}{H₂ H':Hp}{s₂ s1:Shared}{xs:List V}{its:List Value}{n:Nat}(I:Inv X pins σ H₂ s₂)
 (J:Inv (z2a X y scope C s₂ H₂ fp (X.pn++pins)) pl σ' H' s1) (hD:s₂.heap.objs.size<=Dd) (hn:H' Dd=none) (hd:s1.heap.get? Dd=some { cls:=.type "list",data:=.seq its.toArray n }) (rv:Vals xs its) (hz:xs.length<=sizeLine) (hf:∀b∈fp,FpOk X pins H₂ b) :
 Inv X pins σ (upd H' Dd (.lst xs)) s1:=by
 have os:s1.os=s₂.os:=J.os
 have un:Un (frs X.stack) fp H₂ H' s₂.heap s1.heap:=J.base
 have hok:HOk X.prog X.w H' s1.heap:=J.hok
 have bare:AllBare s1.gens:=J.bare
 clear J
 obtain⟨hh,gg,dd,tt,os'⟩:=s1
 obtain rfl:os'=s₂.os:=os
 have neD:∀b o,s₂.heap.get? b=some o->b≠Dd:=fun b o e=>Nat.ne_of_lt (Nat.lt_of_lt_of_le (Heap.lt_size e) hD)
 refine I.call (h':=hh) (g':=gg) (d':=dd) (t':=tt) (ch:=fp) ⟨un.keep,un.slot,fun b o e n' hx=>?_,un.there,fun b ys e=>?_,fun b o u e=>?_,fun b ps e=>?_⟩ (y3m hok hn ⟨hz,its,n,rv,hd⟩) bare fun b hb=>?_
 ·rw[z0q (neD b o e)];exact un.free b o e n' hx
 ·have q:=un.tups b ys e
  rw[z0q (z0p q hn)];exact q
 ·have q:=un.frzs b o u e
  rw[z0q (z0p q hn)];exact q
 ·obtain⟨more,q⟩:=un.tbls b ps e
  exact⟨more,by rw[z0q (z0p q hn)];exact q⟩
 ·obtain⟨f0,f1,f2,f3,f4,f5⟩:=hf b hb
  exact⟨f3.imp_right fun z=>Heap.get?_none_of_le z,f1,f4,f5⟩
theorem x6w{X:Cx}{y:Str}{scope:Scope}{C:Addr}{fp:List Addr}{pins:List (Addr×Obj)}{σ:St}{H₂:Hp}{s₂:Shared}(I:Inv X pins σ H₂ s₂)(c:CompOk X.N X.env y scope)(hC:s₂.heap.objs.size<=C)(hf:∀b∈fp,FpOk X pins H₂ b)(ho:∀b∈fp,b<s₂.heap.objs.size) :
 (z2a X y scope C s₂ H₂ fp (X.pn++pins)).Ok:=by
 have cells:∀x k,(capt X.env scope.names []).lookup x=some k->X.env.cells.lookup x=some k:=fun x k e=>by
  rcases z3r scope.names [] (PySem.mem_of_lookup e) with q | q
  ·simp at q
  ·exact q
 refine⟨I.ok.mod,c.kind,I.ok.glob,I.ok.blt,hC,fun x z k h1 h2=>I.ok.inj x z k (cells x k h1) (cells z k h2),fun x hx=>?_,fun x k h _=>absurd h (by simp[z2a]),I.ok.hd,I.ok.frames,.inl rfl,fun b hb=>?_,I.bs,Nat.le_trans I.ok.bsz I.sz,fun b o e hb=>?_,fun b hb z=>?_,I.stack,I.stkFree⟩
 ·have hx':(relabel scope X.env).names.lookup x=some .cell∨(relabel scope X.env).names.lookup x=some .free:=hx
  have hm:∃k,(x,k)∈scope.names/\(k = .free∨k = .cell):=by
   rcases hx' with q | q <;>
   ·have m:=PySem.mem_of_lookup q
    unfold relabel at m
    simp only[List.mem_map] at m
    obtain⟨⟨n,k⟩,hm,e⟩:=m
    by_cases hc:(k==NameKind.free&&X.env.scope.kind == .function&&X.env.kindOf n==some .cell)=true
    ·rw[if_pos hc] at e
     have e1:n=x:=congrArg Prod.fst e
     subst e1
     rw[Bool.and_eq_true,Bool.and_eq_true] at hc
     exact⟨k,hm,.inl (y8t hc.1.1)⟩
    ·rw[if_neg hc] at e
     have e1:n=x:=congrArg Prod.fst e
     have e2:=congrArg Prod.snd e
     dsimp only at e2
     subst e1 e2
     exact⟨_,hm,by first | exact .inr rfl | exact .inl rfl⟩
  obtain⟨k,hm,hk⟩:=hm
  rcases hk with rfl | rfl
  ·obtain⟨⟨a,ea⟩,_⟩:=c.free _ hm rfl
   obtain⟨c',h1,_⟩:=z1l (z5d ea scope.names [] hm)
   exact⟨c',h1⟩
  ·exact absurd rfl (c.nocell _ hm)
 ·refine⟨Nat.ne_of_lt (Nat.lt_of_lt_of_le (ho b hb) hC),fun x k e=>(hf b hb).2.2.2.2.1 x k (cells x k e)⟩
 ·rcases(hf b hb).2.2.2.1 with z | z
  ·exact I.ok.noex b o e z
  ·exact absurd (Nat.lt_of_lt_of_le (Nat.lt_of_lt_of_le (Heap.lt_size e) I.ok.bsz) z) (Nat.lt_irrefl _)
 ·rcases List.mem_cons.mp (I.stkSub b z) with q | q
  ·exact(hf b hb).2.1 q
  ·exact(hf b hb).2.2.1 q
section
variable {X:Cx}{y:Str}{scope:Scope}
theorem y9d{C Dd:Addr}{fp:List Addr}{pins:List (Addr×Obj)}{σ:St}{H₂:Hp}{s₂:Shared}{h₁:Heap}{tk:Nat}{oD:Obj}{m:Str->Option Value}(I:Inv X pins σ H₂ s₂)(c:CompOk X.N X.env y scope)(hC:s₂.heap.objs.size<=C)(hD:s₂.heap.objs.size<=Dd)(hDC:Dd≠C)(hf:∀b∈fp,FpOk X pins H₂ b)(ho:∀b∈fp,b<s₂.heap.objs.size)
 (old:∀b o,s₂.heap.get? b=some o->h₁.get? b=some o) (hns:h₁.Ns C m) (hd:h₁.get? Dd=some oD) (hdd:∀v,oD.data ≠ .cell v) :
 Inv (z2a X y scope C s₂ H₂ fp (X.pn++pins)) [(Dd,oD)] (none::σ) H₂ { s₂ with heap:=h₁,toks:=tk }:=by
 have cells:∀x k,(capt X.env scope.names []).lookup x=some k->X.env.cells.lookup x=some k:=fun x k e=>by
  rcases z3r scope.names [] (PySem.mem_of_lookup e) with q | q
  ·simp at q
  ·exact q
 have nstk:∀b,s₂.heap.objs.size<=b->b ∉ frs X.stack:=fun b hb z=>by
  rcases List.mem_cons.mp (I.stkSub b z) with q | q
  ·exact absurd (Nat.lt_of_lt_of_le I.lt (by rw[<-q];exact hb)) (Nat.lt_irrefl _)
  ·exact I.nofs hb q
 refine⟨x6w I c hC hf ho,rfl,I.bare,Un.kept old,⟨m,hns,fun i x v e1 e2 e3=>?_⟩,fun x k e=>?_,I.hok.fresh hC,fun x k e=>I.freeC x k (cells x k e),fun p hp=>?_,I.hok.kept old,?_⟩
 ·cases i with
  | zero=>simp at e2
  | succ i =>
    have e2':σ[i]? = some (some v):=by simpa using e2
    have e1':(X.N.map (fun z=>if z=y then ("":Str) else z))[i]? = some x:=by simpa [z2a] using e1
    rw[List.getElem?_map] at e1'
    cases hz:X.N[i]? with
    | none=>rw[hz] at e1';cases e1'
    | some z =>
      rw[hz] at e1'
      simp only[Option.map_some,Option.some.injEq] at e1'
      have e3':Vis (relabel scope X.env) x:=e3
      have look0:∀{k:NameKind},(relabel scope X.env).names.lookup x=some k->∃k',(x,k')∈scope.names/\(k'=k∨(k' = .free/\k = .cell)):=fun {k} q=>by
       have m':=PySem.mem_of_lookup q
       unfold relabel at m'
       simp only[List.mem_map] at m'
       obtain⟨⟨n,k0⟩,hm,e⟩:=m'
       by_cases hc:(k0==NameKind.free&&X.env.scope.kind == .function&&X.env.kindOf n==some .cell)=true
       ·rw[if_pos hc] at e
        have e1:n=x:=congrArg Prod.fst e
        have e2:=congrArg Prod.snd e
        dsimp only at e2
        subst e1 e2
        rw[Bool.and_eq_true,Bool.and_eq_true] at hc
        exact⟨k0,hm,.inr ⟨y8t hc.1.1,rfl⟩⟩
       ·rw[if_neg hc] at e
        have e1:n=x:=congrArg Prod.fst e
        have e2:=congrArg Prod.snd e
        dsimp only at e2
        subst e1 e2
        exact⟨_,hm,.inl rfl⟩
      have inames:∀k',(x,k')∈scope.names->x≠("":Str):=fun k' hm z=>by
       subst z
       obtain⟨c',h1,_⟩:=z1l hm
       rw[c.nil] at h1;cases h1
      have ne:x≠("":Str):=by
       rcases e3' with q | q | q<;>(obtain⟨k',hm,_⟩:=look0 q;exact inames k' hm)
      by_cases hzy:z=y
      ·rw[if_pos hzy] at e1';exact absurd e1'.symm ne
      ·rw[if_neg hzy] at e1'
       subst e1'
       have fr:(z,NameKind.free)∈scope.names:=by
        rcases e3' with q | q | q
        ·obtain⟨k',hm,hk⟩:=look0 q
         rcases hk with rfl | ⟨_,hk⟩
         ·exact absurd (c.only z (List.mem_of_getElem? hz) (c.names _ hm rfl)) hzy
         ·cases hk
        ·obtain⟨k',hm,hk⟩:=look0 q
         rcases hk with rfl | ⟨rfl,_⟩
         ·exact absurd rfl (c.nocell _ hm)
         ·exact hm
        ·obtain⟨k',hm,hk⟩:=look0 q
         rcases hk with rfl | ⟨_,hk⟩
         ·exact hm
         ·cases hk
       obtain⟨⟨ca,eca⟩,hv⟩:=c.free _ fr rfl
       obtain⟨m0,hn0,hl0⟩:=I.loc
       obtain⟨u,ru,lk⟩:=hl0 i z v hz e2' (.inr hv)
       refine⟨u,ru,?_⟩
       rcases lk with ⟨q,_⟩ | ⟨_,k,ek,hk⟩
       ·exfalso
        have q':X.env.scope.names.lookup z=some .local:=q
        rcases hv with w | w<;>(rw[q'] at w;cases w)
       ·obtain⟨c',h1,_⟩:=z1l (z5d ek scope.names [] fr)
        have h2:=cells z c' h1
        rw[ek] at h2;cases h2
        refine .inr ⟨?_,k,h1,?_⟩
        ·rcases e3' with q | q | q
         ·exfalso
          obtain⟨k',hm,hk'⟩:=look0 q
          rcases hk' with rfl | ⟨_,hk'⟩
          ·exact hzy (c.only z (List.mem_of_getElem? hz) (c.names _ hm rfl))
          ·cases hk'
         ·exact .inl q
         ·exact .inr q
        ·obtain⟨o,ho',hd'⟩:=hk
         exact⟨o,old _ _ ho',hd'⟩
 ·obtain⟨v,o,ho',hd'⟩:=I.cell x k (cells x k e)
  exact⟨v,o,old _ _ ho',hd'⟩
 ·rcases List.mem_append.mp hp with q | q
  ·obtain⟨h1,h2,h3,h4,h5⟩:=I.pin p q
   refine⟨old _ _ h1,h2,Nat.ne_of_lt (Nat.lt_of_lt_of_le (Heap.lt_size h1) hC),fun z=>?_,h5⟩
   rcases List.mem_cons.mp (I.stkSub p.1 z) with q' | q'
   ·exact h3 q'
   ·exact h4 q'
  ·have e:p=(Dd,oD):=by simpa using q
   subst e
   exact⟨hd,I.hok.fresh hD,hDC,nstk Dd hD,hdd⟩
 ·show σ.length+1=(y::X.N.map _).length
  rw[List.length_cons,List.length_map,I.len]
structure PC1 (X:Cx) (y:Str) (scope:Scope) (ifs:List Expr) (elt:Expr) (f:D->G->R (Option D)):Prop where
 run:∀(C:Addr) (s₂:Shared) (H₂:Hp) (fp:List Addr) (pn:List (Addr×Obj)) (pins:List (Addr×Obj)) (s:Shared) (σ:St) (H:Hp) (F:List Addr) (Γ:G) (d:D),Inv (z2a X y scope C s₂ H₂ fp pn) pins σ H s->FOk H F->Rel X.K H F (.ro d::Γ) σ->(∃o,f d Γ = .ok o) ->
  wpAny (model X.prog X.w) X.A (forIn ifs true fun c r=>if r=true then do let ok <-isTrue c (compEnvC scope (capt X.env scope.names []) C X.env) (eval c (compEnvC scope (capt X.env scope.names []) C X.env));pure (ForInStep.yield ok) else pure (ForInStep.yield r)) (fun ok s₃ =>
   if ok=true then wpAny (model X.prog X.w) X.A (eval elt (compEnvC scope (capt X.env scope.names []) C X.env)) (fun u s₄=>∃e v H',f d Γ = .ok (some e)/\Inv (z2a X y scope C s₂ H₂ fp pn) pins σ H' s₄/\RelV v u/\Same H H'/\Is X.K (hid F H') e v) (fun _ _=>False) s₃
   else f d Γ = .ok none/\∃H',Inv (z2a X y scope C s₂ H₂ fp pn) pins σ H' s₃/\Same H H') (fun _ _=>False) s
theorem z4u{elt:Expr}{ge:G->R D}(he:∀C s₂ H₂ fp pn,PDr (z2a X y scope C s₂ H₂ fp pn) elt ge):PC1 X y scope [] elt (fElt ge):=by
 refine⟨fun C s₂ H₂ fp pn pins s σ H F Γ d I fo rl ⟨o,eo⟩=>?_⟩
 refine wpAny_tests_nil ?_
 rw[if_pos rfl]
 have hne:ge (.ro d::Γ) ≠ .no:=fun z=>by unfold fElt at eo;rw[z] at eo;cases eo
 refine wpAny_mono ((he C s₂ H₂ fp pn).run pins s σ H F (.ro d::Γ) I fo rl hne) (fun u s4 ⟨e,v,H',e1,I',rv,S,iv⟩=>⟨e,v,H',R.step e1 _,I',rv,S,iv⟩) fun x s' ⟨c,H',e1,_⟩=>?_
 unfold fElt at eo;rw[e1] at eo;cases eo
theorem x0q{elt c:Expr}{gc:G->R Bool}{ge:G->R D}(hc:∀C s₂ H₂ fp pn,PTD (z2a X y scope C s₂ H₂ fp pn) c gc)(he:∀C s₂ H₂ fp pn,PDr (z2a X y scope C s₂ H₂ fp pn) elt ge):PC1 X y scope [c] elt (z7o gc ge):=by
 refine⟨fun C s₂ H₂ fp pn pins s σ H F Γ d I fo rl ⟨o,eo⟩=>?_⟩
 have hne:gc (.ro d::Γ) ≠ .no:=fun z=>by unfold z7o at eo;rw[z] at eo;cases eo
 refine wpAny_tests_one (wpAny_mono ((hc C s₂ H₂ fp pn).run pins s σ H F (.ro d::Γ) I fo rl hne) (fun k s3 ⟨H1,e1,I1,S1⟩=>?_) fun x s' ⟨c',H',e1,_⟩=>?_)
 ·have eo':(if k=true then ge (.ro d::Γ)>>=fun e=>R.ok (some e) else .ok none) = .ok o:=by
   unfold z7o at eo;rw[e1] at eo;exact eo
  cases k with
  | false =>
    rw[if_neg Bool.false_ne_true]
    exact⟨R.step e1 _,H1,I1,S1⟩
  | true =>
    rw[if_pos rfl] at eo' ⊢
    have hne2:ge (.ro d::Γ) ≠ .no:=fun z=>by rw[z] at eo';cases eo'
    refine wpAny_mono ((he C s₂ H₂ fp pn).run pins s3 σ H1 F (.ro d::Γ) I1 (fo.same S1) (rl.same S1) hne2) (fun u s4 ⟨e,v,H',e2,I',rv,S,iv⟩=>⟨e,v,H',(R.step e1 _).trans (R.step e2 _),I',rv,S1.trans S,iv⟩) fun x s' ⟨c',H',e2,_⟩=>?_
    rw[e2] at eo';cases eo'
 ·unfold z7o at eo;rw[e1] at eo;cases eo
theorem y0c{K:PySem.W.Frag}{H:Hp}{F:List Addr}{Γ:G}{σ:St}{d:D}{v:V}(r:Rel K H F Γ σ)(i:Is K (hid F H) d v):Rel K H F (.ro d::Γ) (some v::σ) where
 len:=by rw[List.length_cons,List.length_cons,r.len]
 ro:=fun j d' h=>by
  cases j with
  | zero=>simp at h;cases h;exact⟨v,rfl,i⟩
  | succ j=>exact r.ro j d' (by simpa using h)
 own:=fun j ds h=>by
  cases j with
  | zero=>simp at h
  | succ j=>exact r.own j ds (by simpa using h)
 inj:=fun j k ds es a h1 h2 h3 h4=>by
  cases j with
  | zero=>simp at h1
  | succ j =>
    cases k with
    | zero=>simp at h2
    | succ k=>rw[r.inj j k ds es a (by simpa using h1) (by simpa using h2) (by simpa using h3) (by simpa using h4)]
theorem sb1{n a i:Nat}(e:n=a-i)(h:i<a):a-(i+1)<n:=by lia
theorem sb2{a c d:Nat}(h:c=d+1)(e:a=d):(d≠c/\a<=c/\a<=d)/\∀b,b<a->b≠c/\b≠d:=⟨⟨by lia,by lia,by lia⟩,fun b hb=>⟨by lia,by lia⟩⟩
theorem sb3{a c d k:Nat}(h:c=d+1)(e:a=d)(g:c+1=k):(a<=k/\k≠d)/\∀b,b<a->b≠k:=⟨⟨by lia,by lia⟩,fun b hb=>by lia⟩
theorem y5b{elt iter:Expr}{px pos:Pos}{ifs:List Expr}{f:D->G->R (Option D)}{pins:List (Addr×Obj)}{σ:St}{H₂:Hp}{s₂:Shared}{F:List Addr}{Γ:G}{items:List D}{it:Addr}{fp:List Addr}{tn:Nat->Heap->Prop}{J:It}{E:Value->Shared->Prop}{total:List D}
 (hp:PC1 X y scope ifs elt f) (c:CompOk X.N X.env y scope) (hN:X.N.Nodup) (hcalm:X.calm=true) (I:Inv X pins σ H₂ s₂) (fo:FOk H₂ F) (rl:Rel X.K H₂ F Γ σ) (T:Turn X.prog X.w X.K (.Name y px) J fp it tn) (t0:tn 0 s₂.heap) (hf:∀b∈fp,FpOk X pins H₂ b) (hj:JC X.K H₂ F J items)
 (ht:z0w (fun d=>f d Γ) items [] = .ok total) (hl:items.length<=100000) {RR:Value->Addr->Result->Shared->Prop}
 (hR:∀(Dd C:Addr) (xs:List V) (H':Hp) (m:Str->Option Value) (s':Shared),s₂.heap.objs.size<=C->Dd≠C->H₂ Dd=none->H' Dd=none->H' C=none->s₂.heap.objs.size<=Dd->Same H₂ H'->IsAll X.K (hid F H') total xs->Inv X pins σ (upd H' Dd (.lst xs)) s'->s'.heap.Ns C m->RR (.ref Dd) C (.ok .next) s') :
 wpAny (model X.prog X.w) X.A (newList []) (fun acc s₃=>wpAny (model X.prog X.w) X.A (newFunctionEnv scope X.env.globals (capt X.env scope.names []) [] X.env.qual none .none (some X.env)) (fun cenv s₄ =>
  codeAny (model X.prog X.w) X.A (.compStart (.ListComp elt [⟨.Name y px,iter,ifs,0⟩] scope pos) 0 (.ref it) acc { cenv with scope:=relabel scope X.env }) (RR acc cenv.locals) s₄) E s₃) E s₂:=by
 have ho:∀b∈fp,b<s₂.heap.objs.size:=fun b hb=>by obtain⟨o,e,_⟩:=T.obj _ _ t0 b hb;exact Heap.lt_size e
 refine wpAny_newObj_type (wpAny_newFunctionEnv c.nocell (by intro y hy;simp at hy) (fun h₁ hns₁ hsb₁=>?_) c.kind)
 dsimp only at hns₁ hsb₁ ⊢
 generalize hH2:s₂.heap.push { cls:=.type "list",dict:=none,data:=.seq ([]:List Value).toArray }=H2 at hns₁ hsb₁ ⊢
 have hCs:H2.objs.size=s₂.heap.objs.size+1:=by rw[<-hH2,Heap.size_push]
 generalize hCC:H2.objs.size=C at hns₁ hsb₁ hCs ⊢
 generalize hDD:s₂.heap.objs.size=Dd at hCs ⊢
 obtain⟨⟨hDC,hC,hD⟩,below⟩:=sb2 hCs hDD
 have old:∀b o,s₂.heap.get? b=some o->h₁.get? b=some o:=fun b o e=>by
  refine hsb₁.extBut b o (below b (Heap.lt_size e)).1 ?_
  exact Heap.get?_push_of_some _ (hH2 ▸ Heap.get?_push_of_some _ e)
 have hacc:h₁.get? Dd=some { cls:=.type "list",dict:=none,data:=.seq ([]:List Value).toArray }:=by
  refine hsb₁.extBut _ _ hDC ?_
  refine Heap.get?_push_of_some _ ?_
  rw[<-hH2,<-hDD]
  exact Heap.get?_push_size _ rfl
 have J0:∀tk,Inv (z2a X y scope C s₂ H₂ fp (X.pn++pins)) [(Dd,{ cls:=.type "list",dict:=none,data:=.seq ([]:List Value).toArray })] (none::σ) H₂ { s₂ with heap:=h₁,toks:=tk }:=fun tk =>
  y9d I c hC hD hDC hf ho old hns₁ hacc (fun v z=>nomatch z)
 have t1:tn 0 h₁:=T.keep _ _ _ t0 fun b hb o e=>old b o e
 have fpY:∀{H':Hp} {o:Obj},(∀b∈fp,H' b=none)->∀b∈fp,FpOk (z2a X y scope C s₂ H₂ fp (X.pn++pins)) [(Dd,o)] H' b:=fun {H' o} hn b hb=>by
  obtain⟨f0,f1,f2,f3,f4,f5⟩:=hf b hb
  have lt:=ho b hb
  refine⟨hn b hb,(below b lt).1,fun z=>?_,.inl hb,fun x k e=>?_,fun p hp'=>?_⟩
  ·rcases List.mem_cons.mp (I.stkSub b z) with q | q
   ·exact f1 q
   ·exact f2 q
  ·rcases z3r scope.names [] (PySem.mem_of_lookup e) with q | q
   ·simp at q
   ·exact f4 x k q
  ·rcases List.mem_append.mp hp' with q | q
   ·exact f5 p q
   ·have e:p=(Dd,o):=by simpa using q
    subst e
    exact Ne.symm (below b lt).2
 have NdY:(z2a X y scope C s₂ H₂ fp (X.pn++pins)).N.Nodup:=by
  show(y::X.N.map (fun z=>if z=y then ("":Str) else z)).Nodup
  refine List.nodup_cons.mpr ⟨fun z=>?_,?_⟩
  ·obtain⟨z',hz,e⟩:=List.mem_map.mp z
   by_cases q:z'=y
   ·rw[if_pos q] at e
    subst e
    have:=c.loc;rw[c.nil] at this;cases this
   ·rw[if_neg q] at e;exact q e
  ·have inj:∀a∈X.N,∀b∈X.N,(if a=y then ("":Str) else a)=(if b=y then ("":Str) else b)->a=b:=fun a ha b hb e=>by
    by_cases qa:a=y
    ·by_cases qb:b=y
     ·rw[qa,qb]
     ·rw[if_pos qa,if_neg qb] at e;exact absurd e.symm (c.none b hb)
    ·by_cases qb:b=y
     ·rw[if_neg qa,if_pos qb] at e;exact absurd e (c.none a ha)
     ·rw[if_neg qa,if_neg qb] at e;exact e
   have gen:∀l:List Str,(∀a∈l,a∈X.N)->l.Nodup->(l.map (fun z=>if z=y then ("":Str) else z)).Nodup:=by
    intro l
    induction l with
    | nil=>intro _ _;exact List.nodup_nil
    | cons a l ih =>
      intro hs nd
      obtain⟨n1,n2⟩:=List.nodup_cons.mp nd
      rw[List.map_cons]
      refine List.nodup_cons.mpr ⟨fun z=>?_,ih (fun b hb=>hs b (List.mem_cons_of_mem _ hb)) n2⟩
      obtain⟨b,hb,e⟩:=List.mem_map.mp z
      exact n1 (inj b (hs b (List.mem_cons_of_mem _ hb)) a (hs a List.mem_cons_self) e ▸ hb)
   exact gen X.N (fun _ h=>h) hN
 let L:Nat->Shared->Prop:=fun n s'=>∃(i:Nat) (H':Hp) (o:Option V) (xs:List V) (its:List Value) (acc:List D) (k:Nat),n=items.length-i/\i<=items.length/\Inv (z2a X y scope C s₂ H₂ fp (X.pn++pins)) [(Dd,{ cls:=.type "list",dict:=none,data:=.seq its.toArray k })] (o::σ) H' s' /\
  Same H₂ H'/\(∀b∈fp,H' b=none)/\tn i s'.heap/\Vals xs its/\acc.length<=i/\IsAll X.K (hid F H') acc xs/\z0w (fun d=>f d Γ) (items.drop i) acc = .ok total
 have loop:∀s₄:Shared,L items.length s₄->codeAny (model X.prog X.w) X.A (.compLoop (.ListComp elt [⟨.Name y px,iter,ifs,0⟩] scope pos) 0 (.ref it) (.ref Dd) (compEnvC scope (capt X.env scope.names []) C X.env)) (RR (.ref Dd) C) s₄:=fun s₄ h4=>by
  refine codeAny_compLoop_tests L (fun n s' hL=>wpAny_mono (E:=fun _ _=>False) ?_ (fun _ _ q=>q) fun _ _ z=>z.elim) items.length h4
  obtain⟨i,H',o,xs,its,acc,k,en,hi,J',S',fr',tn',rv,hal,ia,eg⟩:=hL
  obtain⟨jgo,jstop⟩:=hj H' S'
  have hpD:=J'.pin (Dd,{ cls:=.type "list",dict:=none,data:=.seq its.toArray k }) (List.mem_append_right _ (by simp))
  have hxl:xs.length<=100000:=by rw[<-ia.length];exact Nat.le_trans hal (Nat.le_trans hi hl)
  have hsl:(100000:Nat)<=sizeLine:=by rw[sizeLine_eq];decide
  by_cases hlt:i<items.length
  ·obtain⟨go,yl⟩:=jgo i hlt
   refine thn (T.item (z2a X y scope C s₂ H₂ fp (X.pn++pins)) rfl rfl rfl hcalm i _ s' _ H' (fun _ _=>False) J' (fpY fr') tn' go) fun r s2 ⟨u,hr,h1⟩=>?_
   subst hr
   refine pure_J (a:=()) h1 fun⟨x,H5,J5,r5,y5,st5,fr5⟩=>?_
   obtain⟨e5,d,ed,iv⟩:=yl x H5 y5
   subst e5
   have J5':=J5.pinned (fpY fr5) (T.obj _ _ st5)
   have hdrop:items.drop i=d::items.drop (i+1):=by
    rw[List.drop_eq_getElem_cons hlt]
    have:items[i]=d:=by
     have:=List.getElem?_eq_getElem hlt
     rw[ed] at this;exact(Option.some.inj this).symm
    rw[this]
   rw[hdrop] at eg
   have hfo:∃od,f d Γ = .ok od/\(match od with | some e=>z0w (fun d=>f d Γ) (items.drop (i+1)) (acc++[e]) | none=>z0w (fun d=>f d Γ) (items.drop (i+1)) acc) = .ok total:=by
    unfold z0w at eg
    cases q:f d Γ with
    | no=>simp only[q] at eg;cases eg
    | er c'=>simp only[q] at eg;cases eg
    | ok od =>
      refine⟨od,rfl,?_⟩
      cases od with
      | none=>simp only[q] at eg;exact eg
      | some e=>simp only[q] at eg;exact eg
   obtain⟨od,eod,etot⟩:=hfo
   have hpg:PG (z2a X y scope C s₂ H₂ fp (X.pn++pins)).nox (.Name y px) (y8w 0):=y0o (X:=(z2a X y scope C s₂ H₂ fp (X.pn++pins)).nox) NdY rfl (.inl (lookup_relabel_local c.loc)) (.inr (lookup_relabel_local c.loc))
   refine wpAny_mono (hpg _ s2 (o::σ) H5 x u (fun σ' H'=>σ'=some x::σ/\H'=H5) (J5'.wish _) r5 ⟨rfl,rfl⟩) (fun _ s3 ⟨σ6,H6,J6,e6,e6'⟩=>?_) fun _ _ z=>z.elim
   subst e6 e6'
   have J6':=J6.unwish
   have fo6:=fo.same S'
   refine wpAny_mono (hp.run C s₂ H₂ fp (X.pn++pins) _ s3 _ H6 F Γ d J6' fo6 (y0c (rl.same S') iv) ⟨od,eod⟩) (fun ok s4 h4=>?_) fun _ _ z=>z.elim
   have back:∀{s5:Shared} {H7:Hp} {σ7:St},Inv (z2a X y scope C s₂ H₂ fp (X.pn++pins)) ([(Dd,{ cls:=.type "list",dict:=none,data:=.seq its.toArray k })]++y0m fp s2.heap) σ7 H7 s5->tn (i+1) s5.heap/\(∀b∈fp,H7 b=none):=fun {s5 H7 σ7} J7=>by
    refine⟨T.keep _ _ _ st5 fun b hb o' e=>(J7.pin (b,o') (List.mem_append_right _ (List.mem_append_right _ (z3v hb e)))).1,fun b hb=>?_⟩
    obtain⟨o',e,dd⟩:=T.obj _ _ st5 b hb
    exact(J7.pin (b,o') (List.mem_append_right _ (List.mem_append_right _ (z3v hb e)))).2.1
   cases ok with
   | false =>
     rw[if_neg Bool.false_ne_true] at h4 ⊢
     obtain⟨ef,H7,J7,S7⟩:=h4
     rw[eod] at ef;cases ef
     obtain⟨tn7,fr7⟩:=back J7
     exact⟨items.length-(i+1),sb1 en hlt,i+1,H7,some x,xs,its,acc,k,rfl,hlt,J7.unpinned,S'.trans S7,fr7,tn7,rv,Nat.le_succ_of_le hal,ia.same (z1y S7),etot⟩
   | true =>
     rw[if_pos rfl] at h4 ⊢
     refine wpAny_mono h4 (fun u7 s5 ⟨e,v7,H7,ef,J7,r7,S7,iv7⟩=>?_) fun _ _ z=>z.elim
     rw[eod] at ef;cases ef
     obtain⟨tn7,fr7⟩:=back J7
     have J8:=J7.unpinned
     have hpD7:=J8.pin (Dd,{ cls:=.type "list",dict:=none,data:=.seq its.toArray k }) (List.mem_append_right _ (by simp))
     have hlen:its.length=acc.length:=by rw[<-rv.length,<-ia.length]
     refine wpAny_list_append_plain (l:=Dd) (items:=its.toArray) (x:=u7) ⟨k,hpD7.1⟩ (fun h' hl' hs'=>?_) (by rw[List.size_toArray,<-rv.length];exact Nat.le_trans hxl hsl)
     obtain⟨k',hk'⟩:=hl'
     have epush:its.toArray.push u7=(its++[u7]).toArray:=by simp
     rw[epush] at hk'
     have J9:Inv (z2a X y scope C s₂ H₂ fp (X.pn++pins)) [] (some x::σ) H7 s5:=J8.pins_of fun p hp'=>by simp at hp'
     have J10:Inv (z2a X y scope C s₂ H₂ fp (X.pn++pins)) [] (some x::σ) H7 { s5 with heap:=h' }:=J9.turned (t':=s5.toks) (it:=Dd) (fun b o' hb e'=>(hs'.2 b hb).trans e') hpD7.2.1 hDC (.inr hD) (fun x' k'' e' z=>by
      rcases z3r scope.names [] (PySem.mem_of_lookup e') with q | q
      ·simp at q
      ·obtain⟨v',o',ho',_⟩:=I.cell x' k'' q
       exact(below k'' (Heap.lt_size ho')).2 z) (fun p hp' z=>by
      rcases List.mem_append.mp hp' with q | q
      ·obtain⟨h1',_⟩:=I.pin p q
       exact(below p.1 (Heap.lt_size h1')).2 z
      ·simp at q)
     have J11:Inv (z2a X y scope C s₂ H₂ fp (X.pn++pins)) [(Dd,{ cls:=.type "list",dict:=none,data:=.seq (its++[u7]).toArray k' })] (some x::σ) H7 { s5 with heap:=h' }:=J10.pins_of fun p hp'=>by
      have e':p=(Dd,{ cls:=.type "list",dict:=none,data:=.seq (its++[u7]).toArray k' }):=by simpa using hp'
      subst e'
      exact⟨hk',hpD7.2.1,hDC,hpD7.2.2.2.1,fun v z=>nomatch z⟩
     refine⟨items.length-(i+1),sb1 en hlt,i+1,H7,some x,xs++[v7],its++[u7],acc++[e],k',rfl,hlt,J11,S'.trans S7,fr7,T.keep _ _ _ tn7 fun b hb o' e'=>(hs'.2 b (below b (ho b hb)).2).trans e',rv.append (.cons r7 .nil),by rw[List.length_append,List.length_singleton];exact Nat.succ_le_succ hal,(ia.same (z1y S7)).append (IsAll.cons iv7 IsAll.nil),etot⟩
  ·have hi':i=items.length:=Nat.le_antisymm hi (Nat.le_of_not_lt hlt)
   subst hi'
   refine thn (T.done (z2a X y scope C s₂ H₂ fp (X.pn++pins)) rfl rfl rfl hcalm _ _ s' _ H' (fun _ _=>False) J' (fpY fr') tn' jstop) fun r s1 ⟨hr,J1⟩=>?_
   subst hr
   have hpD1:=J1.pin (Dd,{ cls:=.type "list",dict:=none,data:=.seq its.toArray k }) (List.mem_append_right _ (by simp))
   rw[List.drop_length] at eg
   have:acc=total:=by unfold z0w at eg;cases eg;rfl
   subst this
   obtain⟨mC,hnC,_⟩:=J1.loc
   exact hR Dd C xs H' mC s1 hC hDC (I.hok.fresh hD) hpD1.2.1 J1.free hD S' ia (x2c I J1 hD hpD1.2.1 hpD1.1 rv (Nat.le_trans hxl hsl) hf) hnC
 have L0:∀tk,L items.length { s₂ with heap:=h₁,toks:=tk }:=fun tk=>⟨0,H₂,none,[],[],[],_,rfl,Nat.zero_le _,J0 tk,.refl _,fun b hb=>(hf b hb).1,t1,.nil,Nat.le_refl _,IsAll.nil,by rw[List.drop_zero];exact ht⟩
 exact codeAny_compStart_list (loop _ (L0 _)) (T.self _ 0 _ _ _ t1 (loop _ (L0 _)))
theorem z3x{elt iter:Expr}{px pos:Pos}{ifs:List Expr}{f:D->G->R (Option D)}{gi:G->R (List D)}(hi:PIC X (.Name y px) iter gi)(hp:PC1 X y scope ifs elt f)(hN:X.N.Nodup)(hcalm:X.calm=true)
 (chk:y3s X.N X.env y scope=true:=by rfl) (hclos:closureFor scope X.env=pure (capt X.env scope.names []):=by rfl) (hs:∀x,foldedSetIterable iter X.env x=pure x:=by intro _;rfl) :
 PF X (.ListComp elt [⟨.Name y px,iter,ifs,0⟩] scope pos) (z2t gi f):=by
 refine⟨fun pins s σ H F Γ I fo rl hg=>?_⟩
 have c:=y5c chk
 rw[eval_ListComp]
 refine wpAny_comprehension_free (use:=none) rfl hs hclos c.kind c.names (wpAny_mono (hi.run pins s σ H F Γ I fo rl (R.left hg)) (fun xv s₁ h₁=>wpAny_mono h₁ (fun itv s₂ h₂=>?_) fun _ _ x=>x.bind _) fun _ _ x=>x.bind _)
 obtain⟨items,it,fp,tn,J,H₂,e1,rfl,I2,S2,T,t0,fk,jc⟩:=h₂
 have hgx:=R.next hg e1
 obtain⟨hl,e2⟩:=R.guard_ne hgx
 have hne:z0w (fun d=>f d Γ) items [] ≠ .no:=by
  have:=R.next hg e1
  rw[e2] at this;exact this
 obtain⟨total,et⟩:=z5l hne
 refine y5b (RR:=fun acc C=>compPost (model X.prog X.w) X.A _ none _ acc C) hp c hN hcalm I2 (fo.same S2) (rl.same S2) T t0 fk jc et hl ?_
 intro Dd C xs H' m s' hC hDC hn hn' hnC hD S' ia I' hnsC
 refine⟨m,hnsC,fun h'' hs''=>?_⟩
 have nlt:∀{b:Addr} {o:Obj},s₂.heap.get? b=some o->b≠C:=fun e=>Nat.ne_of_lt (Nat.lt_of_lt_of_le (Heap.lt_size e) hC)
 have I'':Inv X pins σ (upd H' Dd (.lst xs)) { s' with heap:=h'' }:=I'.turned (t':=s'.toks) (it:=C) (fun b o hb e=>hs''.extBut b o hb e) (by rw[z0q (Ne.symm hDC)];exact hnC) (Nat.ne_of_gt (Nat.lt_of_lt_of_le I2.lt hC)) (.inr (Nat.le_trans I2.sz hC))
  (fun x k e=>by obtain⟨v,o,ho,_⟩:=I2.cell x k e;exact nlt ho) (fun p hp'=>nlt (I2.pin p hp').1)
 have S3:=z1x hn' (.lst xs)
 refine⟨total,Dd,xs,_,(R.step e1 _).trans (e2.trans et),I'',rfl,(S2.trans S').trans S3,S2.free hn,z0v,ia.same fun b o hb=>?_⟩
 obtain⟨z1,z2⟩:=z2v hb
 have hbl:b≠Dd:=z0p z2 hn'
 rw[z1j fun z=>(List.mem_cons.mp z).elim hbl z1,z0q hbl]
 exact z2
end
noncomputable def NxP(X:Cx)(pins:List (Addr×Obj))(H:Hp)(F:List Addr)(Γ:G)(s':Shared):Prop:=∃σ' H' F',Inv X pins σ' H' s'/\FOk H' F'/\Rel X.K H' F' Γ σ'/\Ext H F H' F'
noncomputable def RtP(X:Cx)(pins:List (Addr×Obj))(H:Hp)(F:List Addr)(r:R Fl)(u:Value)(s':Shared):Prop:=∃v σ' H' F',Inv X pins σ' H' s'/\RelV v u/\Ext H F H' F' /\
 ((∃d,r = .ok (.rt d)/\Is X.K H' d v)∨∃ds a xs,r = .ok (.rtF ds)/\v = .ref a/\(a∈F∨H a=none)/\H' a=some (.lst xs)/\IsAll X.K H' ds xs)
theorem RtP.map{X:Cx}{pins pins':List (Addr×Obj)}{H H1:Hp}{F F1:List Addr}{r r':R Fl}{u:Value}{s':Shared}(h:RtP X pins H1 F1 r u s')(E:Ext H F H1 F1)(hI:∀σ' H',Inv X pins σ' H' s'->Inv X pins' σ' H' s')
 (h1:∀d,r = .ok (.rt d)->r' = .ok (.rt d)) (h2:∀ds,r = .ok (.rtF ds)->r' = .ok (.rtF ds)):RtP X pins' H F r' u s':=by
 obtain⟨v,σ',H',F',I,rv,E',q⟩:=h
 refine⟨v,σ',H',F',hI _ _ I,rv,E.trans E',?_⟩
 rcases q with ⟨d,e,i⟩ | ⟨ds,a,xs,e,ev,hn,ha,i⟩
 ·exact .inl ⟨d,h1 d e,i⟩
 ·refine .inr ⟨ds,a,xs,h2 ds e,ev,?_,ha,i⟩
  rcases hn with z | z
  ·exact E.old a z
  ·by_cases c:a∈F
   ·exact .inl c
   ·refine .inr ?_
    cases q:H a with
    | none=>rfl
    | some o=>rw[E.keep a o c q] at z;cases z
noncomputable def FlP(X:Cx)(pins:List (Addr×Obj))(H:Hp)(F:List Addr)(r:R Fl)(fl:Flow)(s':Shared):Prop:=match fl with
 | .next=>∃Γ',r = .ok (.nx Γ')/\NxP X pins H F Γ' s'
 | .brk=>∃Γ',r = .ok (.bk Γ')/\NxP X pins H F Γ' s'
 | .cont=>∃Γ',r = .ok (.ct Γ')/\NxP X pins H F Γ' s'
 | .ret u=>RtP X pins H F r u s'
noncomputable def FlX(X:Cx)(pins:List (Addr×Obj))(H:Hp)(F:List Addr)(r:R Fl)(x:Value)(s':Shared):Prop:=∃c Γ' σ' H' F',r = .ok (.ex c Γ')/\y5p X pins σ' H' c x s'/\FOk H' F'/\Rel X.K H' F' Γ' σ'/\Ext H F H' F'
structure PQ (X:Cx) (st:Stmt) (g:G->R Fl):Prop where
 run:∀(pins:List (Addr×Obj)) (s:Shared) (σ:St) (H:Hp) (F:List Addr) (Γ:G),Inv X pins σ H s->FOk H F->Rel X.K H F Γ σ->g Γ ≠ .no ->
  wpAny (model X.prog X.w) X.A (exec st X.env) (FlP X pins H F (g Γ)) (FlX X pins H F (g Γ)) s
structure PQs (X:Cx) (st:List Stmt) (g:G->R Fl):Prop where
 run:∀(pins:List (Addr×Obj)) (s:Shared) (σ:St) (H:Hp) (F:List Addr) (Γ:G),Inv X pins σ H s->FOk H F->Rel X.K H F Γ σ->g Γ ≠ .no ->
  wpAny (model X.prog X.w) X.A (execs st X.env) (FlP X pins H F (g Γ)) (FlX X pins H F (g Γ)) s
theorem FlP.later{X:Cx}{pins:List (Addr×Obj)}{H H1:Hp}{F F1:List Addr}{r:R Fl}{fl:Flow}{s':Shared}(E:Ext H F H1 F1)(h:FlP X pins H1 F1 r fl s'):FlP X pins H F r fl s':=by
 cases fl with
 | next=>obtain⟨Γ',e,σ',H',F',h1,h2,h3,h4⟩:=h;exact⟨Γ',e,σ',H',F',h1,h2,h3,E.trans h4⟩
 | brk=>obtain⟨Γ',e,σ',H',F',h1,h2,h3,h4⟩:=h;exact⟨Γ',e,σ',H',F',h1,h2,h3,E.trans h4⟩
 | cont=>obtain⟨Γ',e,σ',H',F',h1,h2,h3,h4⟩:=h;exact⟨Γ',e,σ',H',F',h1,h2,h3,E.trans h4⟩
 | ret u=>exact RtP.map h E (fun _ _ I=>I) (fun _ e=>e) fun _ e=>e
theorem FlX.later{X:Cx}{pins:List (Addr×Obj)}{H H1:Hp}{F F1:List Addr}{r:R Fl}{x:Value}{s':Shared}(E:Ext H F H1 F1)(h:FlX X pins H1 F1 r x s'):FlX X pins H F r x s':=by
 obtain⟨c,Γ',σ',H',F',e,h1,h2,h3,h4⟩:=h
 exact⟨c,Γ',σ',H',F',e,h1,h2,h3,E.trans h4⟩
theorem z1n.lift{α:Type}{X:Cx}{pins:List (Addr×Obj)}{σ:St}{H:Hp}{F:List Addr}{Γ:G}{r:R α}{x:Value}{s':Shared}(fo:FOk H F)(rl:Rel X.K H F Γ σ)(h:z1n X pins σ H r x s')(k:α->R Fl):FlX X pins H F (lift r Γ k) x s':=by
 obtain⟨c,H',e,S,fl⟩:=h
 exact⟨c,Γ,σ,H',F,by rw[e];rfl,fl,fo.same S,rl.same S,.of_same S⟩
theorem Rel.set_ro{K:PySem.W.Frag}{H:Hp}{F:List Addr}{Γ:G}{σ:St}{i:Nat}{d:D}{v:V}(r:Rel K H F Γ σ)(iv:Is K (hid F H) d v):Rel K H F (Γ.set i (.ro d)) (σ.set i (some v)) where
 len:=by rw[List.length_set,List.length_set,r.len]
 ro:=fun j d' h=>by
  by_cases e:i=j
  ·subst e
   by_cases hi:i<Γ.length
   ·rw[List.getElem?_set_self hi] at h;cases h
    exact⟨v,List.getElem?_set_self (by rw[<-r.len];exact hi),iv⟩
   ·rw[List.getElem?_eq_none (by rw[List.length_set];lia)] at h;cases h
  ·rw[List.getElem?_set_ne e] at h
   rw[List.getElem?_set_ne e]
   exact r.ro j d' h
 own:=fun j ds h=>by
  by_cases e:i=j
  ·subst e
   by_cases hi:i<Γ.length
   ·rw[List.getElem?_set_self hi] at h;cases h
   ·rw[List.getElem?_eq_none (by rw[List.length_set];lia)] at h;cases h
  ·rw[List.getElem?_set_ne e] at h
   rw[List.getElem?_set_ne e]
   exact r.own j ds h
 inj:=fun j k ds es a h1 h2 h3 h4=>by
  by_cases ej:i=j
  ·subst ej
   by_cases hi:i<Γ.length
   ·rw[List.getElem?_set_self hi] at h1;cases h1
   ·rw[List.getElem?_eq_none (by rw[List.length_set];lia)] at h1;cases h1
  ·by_cases ek:i=k
   ·subst ek
    by_cases hi:i<Γ.length
    ·rw[List.getElem?_set_self hi] at h2;cases h2
    ·rw[List.getElem?_eq_none (by rw[List.length_set];lia)] at h2;cases h2
   ·rw[List.getElem?_set_ne ej] at h1 h3
    rw[List.getElem?_set_ne ek] at h2 h4
    exact r.inj j k ds es a h1 h2 h3 h4
theorem Rel.set_own{K:PySem.W.Frag}{H H':Hp}{F:List Addr}{Γ:G}{σ:St}{i:Nat}{ds:List D}{xs:List V}{a:Addr}(r:Rel K H F Γ σ)(fo:FOk H F)(S:Same H H')(hn:H a=none)(ha:H' a=some (.lst xs))(iv:IsAll K (hid (a::F) H') ds xs):Rel K H' (a::F) (Γ.set i (.own ds)) (σ.set i (some (.ref a))) where
 len:=by rw[List.length_set,List.length_set,r.len]
 ro:=fun j d' h=>by
  by_cases e:i=j
  ·subst e
   by_cases hi:i<Γ.length
   ·rw[List.getElem?_set_self hi] at h;cases h
   ·rw[List.getElem?_eq_none (by rw[List.length_set];lia)] at h;cases h
  ·rw[List.getElem?_set_ne e] at h
   rw[List.getElem?_set_ne e]
   obtain⟨v,h1,h2⟩:=r.ro j d' h
   exact⟨v,h1,h2.same (x1n S hn)⟩
 own:=fun j ds' h=>by
  by_cases e:i=j
  ·subst e
   by_cases hi:i<Γ.length
   ·rw[List.getElem?_set_self hi] at h;cases h
    exact⟨a,xs,List.getElem?_set_self (by rw[<-r.len];exact hi),List.mem_cons_self,ha,iv⟩
   ·rw[List.getElem?_eq_none (by rw[List.length_set];lia)] at h;cases h
  ·rw[List.getElem?_set_ne e] at h
   rw[List.getElem?_set_ne e]
   obtain⟨b,ys,h1,h2,h3,h4⟩:=r.own j ds' h
   exact⟨b,ys,h1,List.mem_cons_of_mem _ h2,S _ _ h3,h4.same (x1n S hn)⟩
 inj:=fun j k ds' es b h1 h2 h3 h4=>by
  have nF:∀(l:Nat) (es':List D),i≠l->Γ[l]? = some (.own es')->σ[l]? ≠ some (some (.ref a)):=fun l es' _ h z=>by
   obtain⟨b',ys,q1,q2,q3,_⟩:=r.own l es' h
   rw[z] at q1;cases q1
   rw[hn] at q3;cases q3
  by_cases ej:i=j
  ·by_cases ek:i=k
   ·rw[<-ej,<-ek]
   ·exfalso
    subst ej
    have hi:i<σ.length:=by
     by_cases hi:i<σ.length
     ·exact hi
     ·rw[List.getElem?_eq_none (by rw[List.length_set];lia)] at h3;cases h3
    rw[List.getElem?_set_self hi] at h3;cases h3
    rw[List.getElem?_set_ne ek] at h2 h4
    exact nF k es ek h2 h4
  ·by_cases ek:i=k
   ·exfalso
    subst ek
    have hi:i<σ.length:=by
     by_cases hi:i<σ.length
     ·exact hi
     ·rw[List.getElem?_eq_none (by rw[List.length_set];lia)] at h4;cases h4
    rw[List.getElem?_set_self hi] at h4;cases h4
    rw[List.getElem?_set_ne ej] at h1 h3
    exact nF j ds' ej h1 h3
   ·rw[List.getElem?_set_ne ej] at h1 h3
    rw[List.getElem?_set_ne ek] at h2 h4
    exact r.inj j k ds' es b h1 h2 h3 h4
theorem Rel.put{K:PySem.W.Frag}{H:Hp}{F:List Addr}{Γ:G}{σ:St}{i:Nat}{ds ds':List D}{xs':List V}{a:Addr}(r:Rel K H F Γ σ)(e:Γ[i]? = some (.own ds))(ea:σ[i]? = some (some (.ref a)))(iv:IsAll K (hid F H) ds' xs'):Rel K (upd H a (.lst xs')) F (Γ.set i (.own ds')) σ/\a∈F:=by
 obtain⟨a',xs,h1,hF,h3,h4⟩:=r.own i ds e
 rw[ea] at h1;cases h1
 have hh:hid F (upd H a (.lst xs'))=hid F H:=by
  funext b
  by_cases hb:b∈F
  ·rw[y4v hb,y4v hb]
  ·rw[z1j hb,z1j hb,z0q (fun z=>hb (by rw[z];exact hF))]
 have hi:i<Γ.length:=(List.getElem?_eq_some_iff.mp e).1
 refine⟨⟨by rw[List.length_set,r.len],fun j d' h=>?_,fun j es h=>?_,fun j k es1 es2 b h1 h2 h3' h4'=>?_⟩,hF⟩
 ·by_cases ej:i=j
  ·subst ej;rw[List.getElem?_set_self hi] at h;cases h
  ·rw[List.getElem?_set_ne ej] at h
   rw[hh];exact r.ro j d' h
 ·by_cases ej:i=j
  ·subst ej;rw[List.getElem?_set_self hi] at h;cases h
   exact⟨a,xs',ea,hF,z0v,by rw[hh];exact iv⟩
  ·rw[List.getElem?_set_ne ej] at h
   obtain⟨b,ys,q1,q2,q3,q4⟩:=r.own j es h
   refine⟨b,ys,q1,q2,?_,by rw[hh];exact q4⟩
   rw[z0q (fun z=>ej (r.inj i j ds es a e h ea (by rw[<-z];exact q1)))];exact q3
 ·have old:∀(l:Nat) (es':List D),(Γ.set i (En.own ds'))[l]? = some (En.own es')->∃es0,Γ[l]? = some (En.own es0):=fun l es' h=>by
   by_cases el:i=l
   ·subst el;exact⟨ds,e⟩
   ·rw[List.getElem?_set_ne el] at h;exact⟨es',h⟩
  obtain⟨e1,q1⟩:=old j es1 h1
  obtain⟨e2,q2⟩:=old k es2 h2
  exact r.inj j k e1 e2 b q1 q2 h3' h4'
section
variable {X:Cx}{st:Stmt}{rest:List Stmt}{t u:G->R Fl}{e a b c:Expr}{g ga gb:G->R D}{pos p pos':Pos}
theorem z2e:PQs X [] z2r:=⟨fun pins s σ H F Γ I fo rl _=>wpAny_execs_nil ⟨Γ,rfl,σ,H,F,I,fo,rl,.refl⟩⟩
theorem z0e(h1:PQ X st t)(h2:PQs X rest u):PQs X (st::rest) (gSt t u):=by
 refine⟨fun pins s σ H F Γ I fo rl hg=>?_⟩
 refine wpAny_execs_cons (wpAny_mono (h1.run pins s σ H F Γ I fo rl (R.left hg)) (fun fl s1 q=>?_) fun x s1 q=>?_)
 ·cases fl with
  | next =>
    obtain⟨Γ',e,σ',H',F',I',fo',rl',E⟩:=q
    have e2:gSt t u Γ=u Γ':=R.step e _
    rw[e2] at hg ⊢
    exact wpAny_mono (h2.run pins s1 σ' H' F' Γ' I' fo' rl' hg) (fun _ _ q=>q.later E) fun _ _ q=>q.later E
  | ret v=>exact RtP.map q .refl (fun _ _ I=>I) (fun _ e=>R.step e _) fun _ e=>R.step e _
  | brk=>obtain⟨Γ',e,r⟩:=q;exact⟨Γ',R.step e _,r⟩
  | cont=>obtain⟨Γ',e,r⟩:=q;exact⟨Γ',R.step e _,r⟩
 ·obtain⟨c,Γ',σ',H',F',e,r⟩:=q
  exact⟨c,Γ',σ',H',F',R.step e _,r⟩
theorem z0g(h1:PQ X st t):PQs X [st] t:=by
 refine⟨fun pins s σ H F Γ I fo rl hg=>?_⟩
 refine wpAny_execs_cons (thn (h1.run pins s σ H F Γ I fo rl hg) fun fl s1 q=>?_)
 cases fl with
 | next=>exact wpAny_execs_nil q
 | ret v=>exact q
 | brk=>exact q
 | cont=>exact q
theorem z0u(he:PD X e g):PQ X (.Return (some e) pos) (gRet g):=⟨fun pins s σ H F Γ I fo rl hg =>
 wpAny_Return_some (wpAny_mono (he.run pins s σ H F Γ I fo rl (z2g hg)) (fun u s1 ⟨d,v,H',e1,I',rv,S,i⟩=>⟨v,σ,H',F,I',rv,.of_same S,.inl ⟨d,z4j e1,i⟩⟩) fun _ _ x=>x.lift fo rl _)⟩
theorem x0l{g:G->R (List D)}(he:PF X e g):PQ X (.Return (some e) pos) (z8z g):=⟨fun pins s σ H F Γ I fo rl hg =>
 wpAny_Return_some (wpAny_mono (he.run pins s σ H F Γ I fo rl (z2g hg)) (fun u s1 ⟨ds,a,xs,H',e1,I',eu,S,hn,ha,i⟩=>⟨.ref a,σ,H',F,I',eu,.of_same S,.inr ⟨ds,a,xs,z4j e1,rfl,.inr hn,ha,i.same z4a⟩⟩) fun _ _ x=>x.lift fo rl _)⟩
theorem x0k(i:Nat){x:Str}{p:Pos}(hN:X.N[i]? = some x:=by rfl)(hv:Vis X.env.scope x:=by first | exact Or.inl rfl | exact Or.inr (Or.inl rfl) | exact Or.inr (Or.inr rfl))(hd:(x==("__debug__":Str))=false:=by decide)
 (hcd:(x==("__classdict__":Str))=false:=by decide):PQ X (.Return (some (.Name x p)) pos) (z8f i):=by
 refine⟨fun pins s σ H F Γ I fo rl hg=>?_⟩
 unfold z8f at hg ⊢
 cases q:Γ[i]? with
 | none=>rw[q] at hg;exact absurd rfl hg
 | some en =>
   cases en with
   | own ds =>
     obtain⟨a,xs,h1,h2,h3,h4⟩:=rl.own i ds q
     refine wpAny_Return_some (wpAny_mono (y4m (X:=X.nox) hN hv hd hcd pins s σ H (fun v' H'=>v' = .ref a/\H'=H) (I.wish _) ⟨.ref a,h1,rfl,rfl⟩) (fun u s1 ⟨v',H',I',r,e1,e2⟩=>?_) fun _ _ z=>False.elim z)
     subst e1 e2
     exact⟨.ref a,σ,H',F,I'.unwish,r,.refl,.inr ⟨ds,a,xs,rfl,rfl,.inl h2,h3,h4.same z4a⟩⟩
   | _=>rw[q] at hg;exact absurd rfl hg
theorem z5v{cs ds:List Stmt}{gc:G->R Bool}(hc:PTD X c gc)(ha:PQs X cs t)(hb:PQs X ds u):PQ X (.If c cs ds pos) (gIfS gc t u):=by
 refine⟨fun pins s σ H F Γ I fo rl hg=>?_⟩
 refine wpAny_If (wpAny_mono (hc.run pins s σ H F Γ I fo rl (z2g hg)) (fun k s1 ⟨H1,e1,I1,S1⟩=>?_) fun _ _ x=>x.lift fo rl _)
 have e2:gIfS gc t u Γ=if k=true then t Γ else u Γ:=z4j e1
 rw[e2] at hg ⊢
 cases k with
 | true=>exact wpAny_mono (ha.run pins s1 σ H1 F Γ I1 (fo.same S1) (rl.same S1) hg) (fun _ _ q=>q.later (.of_same S1)) fun _ _ q=>q.later (.of_same S1)
 | false=>exact wpAny_mono (hb.run pins s1 σ H1 F Γ I1 (fo.same S1) (rl.same S1) hg) (fun _ _ q=>q.later (.of_same S1)) fun _ _ q=>q.later (.of_same S1)
theorem z1a(i:Nat){x:Str}(he:PDr X e g)(hN:X.N.Nodup)(hi:X.N[i]? = some x:=by rfl)(hx:Loc X.env.scope x:=by first | exact Or.inl rfl | exact Or.inr rfl)(hs:swapsWith e (some (.Name x pos')) pos.line X.env=pure false:=by rfl)(hf:X.fn x=true∨X.env.scope.names.lookup x=some .local:=by first | exact .inl rfl | exact .inr rfl | assumption) :
 PQ X (.Assign [.Name x pos'] e pos) (gSet i g):=by
 refine⟨fun pins s σ H F Γ I fo rl hg=>?_⟩
 refine wpAny_Assign_Name (wpAny_mono (he.run pins s σ H F Γ I fo rl (z2g hg)) (fun v s1 ⟨d,y,H1,e1,I1,r1,S1,i1⟩=>?_) fun _ _ x=>x.lift fo rl _) hs
 exact y2q I1 hN hi hx r1 (fun s2 I2=>⟨_,z4j e1,_,H1,F,I2,fo.same S1,(rl.same S1).set_ro i1,.of_same S1⟩) hf
theorem z5g(i:Nat){x:Str}{g:G->R (List D)}(he:PF X e g)(hN:X.N.Nodup)(hi:X.N[i]? = some x:=by rfl)(hx:Loc X.env.scope x:=by first | exact Or.inl rfl | exact Or.inr rfl)(hs:swapsWith e (some (.Name x pos')) pos.line X.env=pure false:=by rfl)(hf:X.fn x=true∨X.env.scope.names.lookup x=some .local:=by first | exact .inl rfl | exact .inr rfl | assumption) :
 PQ X (.Assign [.Name x pos'] e pos) (z2s i g):=by
 refine⟨fun pins s σ H F Γ I fo rl hg=>?_⟩
 refine wpAny_Assign_Name (wpAny_mono (he.run pins s σ H F Γ I fo rl (z2g hg)) (fun v s1 ⟨ds,a,xs,H1,e1,I1,eu,S1,hn,ha,i1⟩=>?_) fun _ _ x=>x.lift fo rl _) hs
 subst eu
 exact y2q (v:=.ref a) I1 hN hi hx rfl (fun s2 I2=>⟨_,z4j e1,_,H1,a::F,I2,(fo.same S1).cons ha,rl.set_own fo S1 hn ha i1,⟨fun b o _ h=>S1 _ _ h,fun b hb=>(List.mem_cons.mp hb).elim (fun z=>.inr (z ▸ hn)) .inl⟩⟩) hf
theorem z7u(i:Nat){x y:Str}{elt iter:Expr}{px:Pos}{ifs:List Expr}{scope:Scope}{f:D->G->R (Option D)}{gi:G->R (List D)}(hi':PIC X (.Name y px) iter gi)(hp:PC1 X y scope ifs elt f)(hN:X.N.Nodup)(hcalm:X.calm=true)(hi:X.N[i]? = some x:=by rfl)(hx:Loc X.env.scope x:=by first | exact Or.inl rfl | exact Or.inr rfl)
 (hsw:swapsWith (.ListComp elt [⟨.Name y px,iter,ifs,0⟩] scope p) (some (.Name x pos')) pos.line X.env=pure true:=by rfl) (hf:X.fn x=true∨X.env.scope.names.lookup x=some .local:=by first | exact .inl rfl | exact .inr rfl | assumption)
 (chk:y3s X.N X.env y scope=true:=by rfl) (hclos:closureFor scope X.env=pure (capt X.env scope.names []):=by rfl) (hs:∀x,foldedSetIterable iter X.env x=pure x:=by intro _;rfl) :
 PQ X (.Assign [.Name x pos'] (.ListComp elt [⟨.Name y px,iter,ifs,0⟩] scope p) pos) (z2s i (z2t gi f)):=by
 refine⟨fun pins s σ H F Γ I fo rl hg=>?_⟩
 have c:=y5c chk
 rw[exec_Assign_Name_used _ _ _ _ hsw]
 refine wpAny_bind (wpAny_standAt (wpAny_bind ?_))
 show wpAny _ X.A (do let _ <-comprehension (.ListComp elt [⟨.Name y px,iter,ifs,0⟩] scope p) scope X.env _ (newList []) false (eval iter X.env) (some (assign (.Name x pos') X.env))) _ _ s
 have hg0:=z2g hg
 refine wpAny_bind (wpAny_mono (wpAny_comprehension_free (use:=some (assign (.Name x pos') X.env)) (Q:=fun _ s'=>FlP X pins H F (z2s i (z2t gi f) Γ) .next s') rfl hs hclos c.kind c.names
  (wpAny_mono (hi'.run pins s σ H F Γ I fo rl (R.left hg0)) (fun xv s₁ h₁=>wpAny_mono h₁ (fun itv s₂ h₂=>?_) fun _ _ x=>(x.bind _).lift fo rl _) fun _ _ x=>(x.bind _).lift fo rl _)) (fun _ s' hq=>wpAny_pure (wpAny_pure hq)) fun _ _ e=>e)
 obtain⟨items,it,fp,tn,J,H₂,e1,rfl,I2,S2,T,t0,fk,jc⟩:=h₂
 have hgx:=R.next hg0 e1
 obtain⟨hl,e2⟩:=R.guard_ne hgx
 have hne:z0w (fun d=>f d Γ) items [] ≠ .no:=by
  have:=R.next hg0 e1
  rw[e2] at this;exact this
 obtain⟨total,et⟩:=z5l hne
 have eT:z2t gi f Γ = .ok total:=(R.step e1 _).trans (e2.trans et)
 refine y5b (RR:=fun acc C=>compPost (model X.prog X.w) X.A _ (some (assign (.Name x pos') X.env)) _ acc C) hp c hN hcalm I2 (fo.same S2) (rl.same S2) T t0 fk jc et hl ?_
 intro Dd C xs H' m s' hC hDC hn hn' hnC hD S' ia I' hnsC
 have nlt:∀{b:Addr} {o:Obj},s₂.heap.get? b=some o->b≠C:=fun e=>Nat.ne_of_lt (Nat.lt_of_lt_of_le (Heap.lt_size e) hC)
 have S3:=z1x hn' (.lst xs)
 have hall:Same H (upd H' Dd (.lst xs)):=(S2.trans S').trans S3
 have hH:H Dd=none:=S2.free hn
 have ia':IsAll X.K (hid (Dd::F) (upd H' Dd (.lst xs))) total xs:=ia.same fun b o hb=>by
  obtain⟨z1,z2⟩:=z2v hb
  have hbl:b≠Dd:=z0p z2 hn'
  rw[z1j fun z=>(List.mem_cons.mp z).elim hbl z1,z0q hbl]
  exact z2
 show wpAny _ X.A (assign (.Name x pos') X.env (.ref Dd)) _ _ s'
 refine wpAny_assign_Name (z8l (v:=.ref Dd) I' hN hi hx rfl (fun s3 I3 hsb=>?_) hf)
 obtain⟨aa,hsb,haa⟩:=hsb
 have haC:aa≠C:=by
  rcases haa with z | z
  ·subst z;exact Nat.ne_of_lt (Nat.lt_of_lt_of_le I2.lt hC)
  ·obtain⟨v,o,ho,_⟩:=I2.cell x aa z;exact nlt ho
 refine⟨m,hnsC.sameBut hsb (Ne.symm haC),fun h'' hs''=>?_⟩
 have I4:Inv X pins (σ.set i (some (.ref Dd))) (upd H' Dd (.lst xs)) { s3 with heap:=h'' }:=I3.turned (t':=s3.toks) (it:=C) (fun b o hb e=>hs''.extBut b o hb e) (by rw[z0q (Ne.symm hDC)];exact hnC) (Nat.ne_of_gt (Nat.lt_of_lt_of_le I2.lt hC)) (.inr (Nat.le_trans I2.sz hC))
  (fun x k e=>by obtain⟨v,o,ho,_⟩:=I2.cell x k e;exact nlt ho) (fun p hp'=>nlt (I2.pin p hp').1)
 exact⟨_,z4j eT,_,_,Dd::F,I4,(fo.same hall).cons z0v,rl.set_own fo hall hH z0v ia',⟨fun b o _ h=>hall _ _ h,fun b hb=>(List.mem_cons.mp hb).elim (fun z=>.inr (z ▸ hH)) .inl⟩⟩
theorem z5h(i:Nat){x:Str}{apos cpos:Pos}(he:PDr X e g)(hN:X.N[i]? = some x:=by rfl)(hv:Vis X.env.scope x:=by first | exact Or.inl rfl | exact Or.inr (Or.inl rfl) | exact Or.inr (Or.inr rfl))(hd:(x==("__debug__":Str))=false:=by decide)(hcd:(x==("__classdict__":Str))=false:=by decide)
 (hsw:swapsWith (.Call (.Attribute (.Name x p) "append" apos) [e] [] cpos) none pos.line X.env=pure false:=by rfl)
 (hbase:attributeBase (.Name x p) "append" X.env (eval (.Name x p) X.env)=eval (.Name x p) X.env:=by rfl)
 (hfew:((backTo cpos (starEach [e] X.env)).all (fun x=>!x.1)&&(backToKw cpos (keywordEach [] X.env)).all (fun x=>x.1.isSome)
   && decide ([e].length+([]:List Keyword).length+(if ([]:List Keyword).isEmpty then 0 else 1)<30))=true:=by rfl)
 (hline:(apos.endLine==cpos.line)=true:=by rfl) (hs:starEach [e] X.env=(false,eval e X.env)::starEach [] X.env:=by rfl) :
 PQ X (.Expr (.Call (.Attribute (.Name x p) "append" apos) [e] [] cpos) pos) (gApp i g):=by
 refine⟨fun pins s σ H F Γ I fo rl hg=>?_⟩
 refine wpAny_Expr_any ?_ I.quiet hsw
 have hown:∃ds,Γ[i]? = some (.own ds):=by
  unfold gApp at hg
  split at hg
  ·rename_i ds e1;exact⟨ds,e1⟩
  ·exact absurd rfl hg
 obtain⟨ds,eo⟩:=hown
 have egA:gApp i g Γ=lift (g Γ) Γ fun d=>R.guard (ds.length<=100000) (.ok (.nx (Γ.set i (.own (ds++[d]))))):=by unfold gApp;rw[eo]
 rw[egA] at hg ⊢
 obtain⟨a',xs,h1,hF,h3,h4⟩:=rl.own i ds eo
 refine wpAny_Call_method_late hbase hfew hline rfl (wpAny_mono (y4m (X:=X.nox) hN hv hd hcd pins s σ H (fun v' H'=>v' = .ref a'/\H'=H) (I.wish _) ⟨.ref a',h1,rfl,rfl⟩) (fun v s1 ⟨v',H',I1,r1,e1,e2⟩=>?_) fun _ _ z=>False.elim z)
 subst e1 e2
 have I1':=I1.unwish
 obtain⟨t1,t2⟩:=x7g (T:="list") I1' r1 (.inl ⟨rfl,xs,SqL.of h3⟩)
 refine⟨"list",_,PySem.F.plainAttrs_list,PySem.F.slot_list_append,PySem.F.type_list_append,t1,t2,?_⟩
 rw[hs]
 refine Calls.callWith_builtin rfl (Calls.evalArgs_plain ?_)
 show wpAny _ _ (spliced ((false,eval e X.env)::backTo cpos [])) _ _ s1
 refine Calls.spliced_cons (wpAny_mono (he.run pins s1 σ H' F Γ I1' fo rl (z2g hg)) (fun u s2 ⟨d,y,H2,e3,I2,r2,S2,i2⟩=>Calls.spliced_nil ?_) fun _ _ x=>x.lift fo rl _)
 have hgx:=y0v hg e3
 obtain⟨hl,e4⟩:=R.guard_ne hgx
 have hx2:=S2 _ _ h3
 have hsl:(100001:Nat)<=sizeLine:=by rw[sizeLine_eq];decide
 have hxl:=h4.length
 refine wpAny_mono (x0v (X:=X.nox) pins s2 σ H2 (.ref a') [y] v [u] (fun z H''=>z = .non/\H''=upd H2 a' (.lst (xs++[y]))) (I2.wish _) r1 (.cons r2 .nil) ⟨a',xs,y,rfl,rfl,hx2,by lia,rfl,rfl⟩) (fun w' s3 ⟨z,H'',I3,rz,ez,eH⟩=>?_) fun _ _ z=>False.elim z
 subst ez eH
 obtain⟨rl',hF'⟩:=(rl.same S2).put eo h1 (xs':=xs++[y]) (ds':=ds++[d]) ((h4.same (z1y S2)).append (IsAll.cons i2 IsAll.nil))
 refine⟨_,(z4j e3).trans e4,σ,_,F,I3.unwish,fun b hb=>?_,rl',⟨fun b o hb h=>?_,fun b hb=>.inl hb⟩⟩
 ·by_cases hba:b=a'
  ·exact⟨xs++[y],by rw[hba];exact z0v⟩
  ·obtain⟨ys,q⟩:=fo b hb
   exact⟨ys,by rw[z0q hba];exact S2 _ _ q⟩
 ·rw[z0q (fun z=>hb (by rw[z];exact hF))];exact S2 _ _ h
theorem x4q(i:Nat){x:Str}{k:Expr}{gk:G->R D}{spos:Pos}(hk:PD X k gk)(he:PDr X e g)(hN:X.N[i]? = some x:=by rfl)(hv:Vis X.env.scope x:=by first | exact Or.inl rfl | exact Or.inr (Or.inl rfl) | exact Or.inr (Or.inr rfl))(hd:(x==("__debug__":Str))=false:=by decide)(hcd:(x==("__classdict__":Str))=false:=by decide)
 (ha:∀v,assign (.Subscript (.Name x p) k spos) X.env v=(do
   let ov <-holding [v] (eval (.Name x p) X.env)
   let iv <-holding [v,ov] (eval k X.env)
   standAt spos
   holding [v,ov,iv] (setItem ov iv v)
   release [v,ov,iv] []):=by intro _;rfl)
 (hs:swapsWithSole [.Subscript (.Name x p) k spos] e pos.line X.env=pure false:=by rfl) (hw:swappedStores [.Subscript (.Name x p) k spos] e X.env=pure none:=by rfl)
 (h1':(assignEach [.Subscript (.Name x p) k spos] X.env).map (·.2)=[assign (.Subscript (.Name x p) k spos) X.env]:=by rfl) :
 PQ X (.Assign [.Subscript (.Name x p) k spos] e pos) (gPut i gk g):=by
 refine⟨fun pins s σ H F Γ I fo rl hg=>?_⟩
 have hown:∃ds,Γ[i]? = some (.own ds):=by
  unfold gPut at hg
  split at hg
  ·rename_i ds e1;exact⟨ds,e1⟩
  ·exact absurd rfl hg
 obtain⟨ds,eo⟩:=hown
 have egA:gPut i gk g Γ=lift (g Γ) Γ fun d=>lift (gk Γ) Γ fun k=>(match k with
  | .int j=>(match ixN ds.length j with | some j'=>.ok (.nx (Γ.set i (.own (ds.set j' d)))) | none=>.no)
  | _=>.no):=by(unfold gPut;rw[eo])<;>rfl
 rw[egA] at hg ⊢
 obtain⟨a',xs,h1,hF,h3,h4⟩:=rl.own i ds eo
 refine wpAny_Assign_stores (wpAny_mono (he.run pins s σ H F Γ I fo rl (z2g hg)) (fun u s1 ⟨d,y,H1,e1,I1,r1,S1,i1⟩=>?_) fun _ _ x=>x.lift fo rl _) hs hw
 have hg1:=y0v hg e1
 rw[h1']
 rw[z4j e1] at hg ⊢
 show wpAny _ _ (assign (.Subscript (.Name x p) k spos) X.env u) _ _ s1
 rw[ha]
 refine wpAny_bind (wpAny_holding (wpAny_mono (y4m (X:=X.nox) hN hv hd hcd pins s1 σ H1 (fun v' H'=>v' = .ref a'/\H'=H1) (I1.wish _) ⟨.ref a',h1,rfl,rfl⟩) (fun v s2 ⟨v',H',I2,r2,e2,e3⟩=>?_) fun _ _ z=>False.elim z))
 subst e2 e3
 refine wpAny_bind (wpAny_holding (wpAny_mono (hk.run pins s2 σ H' F Γ I2.unwish (fo.same S1) (rl.same S1) (z2g hg)) (fun w' s3 ⟨dk,vk,H3,e4,I3,r3,S3,i3⟩=>?_) fun _ _ x=>(x.lift (fo.same S1) (rl.same S1) _).later (.of_same S1)))
 have hg2:=y0v hg e4
 rw[z4j e4] at hg ⊢
 cases dk with
 | int j =>
   cases q:ixN ds.length j with
   | none=>simp only[q] at hg2;exact absurd rfl hg2
   | some j' =>
     have hx3:=S3 _ _ (S1 _ _ h3)
     refine wpAny_bind (wpAny_standAt (wpAny_bind (wpAny_holding (wpAny_mono (x3e (X:=X.nox) pins s3 σ H3 (.ref a') vk y v w' u (fun H''=>H''=upd H3 a' (.lst (xs.set j' y))) (I3.wish _) r2 r3 r1 ⟨a',xs,j,j',rfl,Is.int_iff.mp i3,hx3,by rw[<-h4.length];exact q,rfl⟩) (fun _ s4 ⟨H'',I4,eH⟩=>?_) fun _ _ z=>False.elim z))))
     subst eH
     refine wpAny_release ?_
     have S13:=S1.trans S3
     obtain⟨rl',hF'⟩:=(rl.same S13).put eo h1 (xs':=xs.set j' y) (ds':=ds.set j' d) (IsAll.set (i1.same (z1y S3)) j' (h4.same (z1y S13)))
     refine⟨_,by simp only[q],σ,_,F,I4.unwish,fun b hb=>?_,rl',⟨fun b o hb h=>?_,fun b hb=>.inl hb⟩⟩
     ·by_cases hba:b=a'
      ·exact⟨_,by rw[hba];exact z0v⟩
      ·obtain⟨ys,q'⟩:=fo b hb
       exact⟨ys,by rw[z0q hba];exact S13 _ _ q'⟩
     ·rw[z0q (fun z=>hb (by rw[z];exact hF))];exact S13 _ _ h
 | _=>exact absurd rfl hg2
noncomputable def PO'(X:Cx):Prop:=∀pins H F r,PassesOwn (model X.prog X.w) X.A X.env (FlX X pins H F r)
theorem z7c(i:Nat){x:Str}{px:Pos}{iter:Expr}{body:List Stmt}{gi:G->R (List D)}{gb:G->R Fl}(hp:PO' X)(hcalm:X.calm=true)(hi:PIF X (.Name x px) iter gi)(hb:PQs X body gb)(hN:X.N.Nodup)(hix:X.N[i]? = some x:=by rfl)(hx:Loc X.env.scope x:=by first | exact Or.inl rfl | exact Or.inr rfl)
 (hf:X.fn x=true∨X.env.scope.names.lookup x=some .local:=by first | exact .inl rfl | exact .inr rfl | assumption)
 (hs:∀x,foldedSetIterable iter X.env x=pure x:=by intro _;rfl):PQ X (.For (.Name x px) iter body [] pos) (gFor i gi gb):=by
 refine⟨fun pins s σ H F Γ I fo rl hg=>?_⟩
 refine wpAny_For (wpAny_mono (hi.run pins s σ H F Γ I fo rl (z2g hg)) (fun v s1 h1=>wpAny_mono h1 (fun itv s2 h2=>?_) fun _ _ x=>x.lift fo rl _) fun _ _ x=>x.lift fo rl _) hs
 obtain⟨ds,it,fp,tn,J,H2,e1,rfl,I2,S2,T,t0,fk,jd⟩:=h2
 have eg:gFor i gi gb Γ=z3k gb i ds Γ:=z4j e1
 rw[eg] at hg ⊢
 have hp':=hp pins H F (z3k gb i ds Γ)
 have stat:∀{H':Hp},(∀b∈fp,H' b=none)->∀b∈fp,FpOk X pins H' b:=fun hn b hb=>⟨hn b hb,(fk b hb).2⟩
 refine codeAny_forLoop_any (fun n s'=>∃(j:Nat) (σ':St) (H':Hp) (F':List Addr) (Γ':G),n=ds.length-j/\j<=ds.length/\Inv X pins σ' H' s'/\tn j s'.heap/\(∀b∈fp,H' b=none)/\FOk H' F'/\Rel X.K H' F' Γ' σ'/\Ext H2 F H' F'/\z3k gb i (ds.drop j) Γ'=z3k gb i ds Γ) ?_ ds.length
  ⟨0,σ,H2,F,Γ,by lia,Nat.zero_le _,I2,t0,fun b hb=>(fk b hb).1,fo.same S2,rl.same S2,.refl,by rw[List.drop_zero]⟩
 rintro n s3 ⟨j,σ3,H3,F3,Γ3,en,hj,I3,t3,fr3,fo3,rl3,E3,ev3⟩
 have E03:Ext H F H3 F3:=(Ext.of_same S2).trans E3
 obtain⟨jgo,jstop⟩:=jd H3 fun b o hb h=>E3.keep b o hb h
 by_cases hlt:j<ds.length
 ·obtain⟨go,yl⟩:=jgo j hlt
  refine wpAny_passesOwn hp' (thn (T.item X rfl rfl rfl hcalm j pins s3 σ3 H3 _ I3 (stat fr3) t3 go) fun r s4 ⟨u,hr,h4⟩=>?_)
  subst hr
  refine wpAny_passesOwn hp' (thn h4 fun _ s5 ⟨y,H5,I5,r5,y5,st5,fr5⟩=>?_)
  obtain⟨e5,d,ed,iv⟩:=yl y H5 y5
  subst e5
  have iv':=iv F3 fun b hb=>E3.old b hb
  have hdrop:ds.drop j=d::ds.drop (j+1):=by
   rw[List.drop_eq_getElem_cons hlt]
   have:ds[j]=d:=by
    have:=List.getElem?_eq_getElem hlt
    rw[ed] at this;exact(Option.some.inj this).symm
   rw[this]
  have I5':=I5.pinned (stat fr5) (T.obj _ _ st5)
  have hpg:PG X.nox (.Name x px) (y8w i):=y0o (X:=X.nox) hN hix hx hf
  refine wpAny_passesOwn hp' (wpAny_mono (hpg _ s5 σ3 H5 y u (fun σ' H'=>σ'=σ3.set i (some y)/\H'=H5) (I5'.wish _) r5 ⟨rfl,rfl⟩) (fun _ s6 ⟨σ6,H6,I6,e6,e6'⟩=>?_) fun _ _ z=>False.elim z)
  subst e6 e6'
  have evd:z3k gb i (d::ds.drop (j+1)) Γ3=z3k gb i ds Γ:=by rw[<-hdrop];exact ev3
  have hgb:gb (Γ3.set i (.ro d)) ≠ .no:=fun z=>by
   rw[<-evd] at hg
   unfold z3k at hg
   rw[z] at hg
   exact hg rfl
  have back:∀{s7:Shared} {σ7:St} {H7:Hp},Inv X (pins++y0m fp s5.heap) σ7 H7 s7->Inv X pins σ7 H7 s7/\tn (j+1) s7.heap/\∀b∈fp,H7 b=none:=fun {s7 σ7 H7} I7=>by
   refine⟨I7.unpinned,T.keep _ _ _ st5 fun b hb o e=>(I7.pin (b,o) (List.mem_append_right _ (List.mem_append_right _ (z3v hb e)))).1,fun b hb=>?_⟩
   obtain⟨o,e,dd⟩:=T.obj _ _ st5 b hb
   exact(I7.pin (b,o) (List.mem_append_right _ (List.mem_append_right _ (z3v hb e)))).2.1
  refine wpAny_passesOwn hp' (wpAny_mono (hb.run _ s6 _ H6 F3 _ I6.unwish fo3 (rl3.set_ro iv') hgb) (fun f s7 q7=>?_) fun x7 s7 q7=>?_)
  ·cases f with
   | next =>
     obtain⟨Γ7,e7,σ7,H7,F7,I7,fo7,rl7,E7⟩:=q7
     obtain⟨b1,b2,b3⟩:=back I7
     refine⟨ds.length-(j+1),by lia,j+1,σ7,H7,F7,Γ7,rfl,hlt,b1,b2,b3,fo7,rl7,E3.trans E7,?_⟩
     rw[<-evd]
     conv=>rhs;unfold z3k
     rw[e7]
   | cont =>
     obtain⟨Γ7,e7,σ7,H7,F7,I7,fo7,rl7,E7⟩:=q7
     obtain⟨b1,b2,b3⟩:=back I7
     refine⟨ds.length-(j+1),by lia,j+1,σ7,H7,F7,Γ7,rfl,hlt,b1,b2,b3,fo7,rl7,E3.trans E7,?_⟩
     rw[<-evd]
     conv=>rhs;unfold z3k
     rw[e7]
   | brk =>
     obtain⟨Γ7,e7,σ7,H7,F7,I7,fo7,rl7,E7⟩:=q7
     refine⟨Γ7,?_,σ7,H7,F7,I7.unpinned,fo7,rl7,E03.trans E7⟩
     rw[<-evd]
     conv=>lhs;unfold z3k
     rw[e7]
   | ret v7 =>
     refine RtP.map q7 E03 (fun _ _ I7=>I7.unpinned) (fun d7 e7=>?_) fun d7 e7=>?_
     ·rw[<-evd]
      conv=>lhs;unfold z3k
      rw[e7]
     ·rw[<-evd]
      conv=>lhs;unfold z3k
      rw[e7]
  ·obtain⟨c7,Γ7,σ7,H7,F7,e7,fl7,fo7,rl7,E7⟩:=q7
   refine⟨c7,Γ7,σ7,H7,F7,?_,?_,fo7,rl7,E03.trans E7⟩
   ·rw[<-evd]
    conv=>lhs;unfold z3k
    rw[e7]
   ·obtain⟨I7,e',C',oe,vs,q1,q2,q3,q4,q5,q6,q7',q8⟩:=fl7
    refine⟨I7.unpinned,e',C',oe,vs,q1,q2,q3,q4,q5,q6,fun p hp2=>q7' p ?_,?_⟩
    ·rcases List.mem_append.mp hp2 with z | z
     ·exact List.mem_append_left _ z
     ·exact List.mem_append_right _ (List.mem_append_left _ z)
    ·obtain⟨w1,w2,w3,w4,w5⟩:=q8
     refine⟨w1,w2,w3,w4,?_⟩
     rcases w5 with w5 | ⟨T',oT,ts,z1,z2,z3,z4,z5,z6,z7⟩
     ·exact .inl w5
     ·refine .inr ⟨T',oT,ts,z1,z2,z3,z4,z5,fun p hp2=>z6 p ?_,z7⟩
      rcases List.mem_append.mp hp2 with z | z
      ·exact List.mem_append_left _ z
      ·exact List.mem_append_right _ (List.mem_append_left _ z)
 ·have ej:j=ds.length:=by lia
  subst ej
  refine wpAny_passesOwn hp' (thn (T.done X rfl rfl rfl hcalm _ pins s3 σ3 H3 _ I3 (stat fr3) t3 jstop) fun r s4 ⟨hr,I4⟩=>?_)
  subst hr
  rw[List.drop_length] at ev3
  exact wpAny_execs_nil ⟨Γ3,ev3.symm,σ3,H3,F3,I4,fo3,rl3,E03⟩
theorem y2v(n:Nat){cnd:Expr}{body:List Stmt}{gc:G->R Bool}{gb:G->R Fl}(hp:PO' X)(hc:PTD X cnd gc)(hb:PQs X body gb):PQ X (.While cnd body [] pos) (whGo gc gb n):=by
 refine⟨fun pins s σ H F Γ I fo rl hg=>?_⟩
 have hp':=hp pins H F (whGo gc gb n Γ)
 refine wpAny_While (codeAny_whileLoop (fun m s'=>∃(σ':St) (H':Hp) (F':List Addr) (Γ':G),Inv X pins σ' H' s'/\FOk H' F'/\Rel X.K H' F' Γ' σ'/\Ext H F H' F'/\whGo gc gb m Γ'=whGo gc gb n Γ) ?_ n ⟨σ,H,F,Γ,I,fo,rl,.refl,rfl⟩)
 rintro m s1 ⟨σ1,H1,F1,Γ1,I1,fo1,rl1,E1,ev1⟩
 have hg1:whGo gc gb m Γ1 ≠ .no:=by rw[ev1];exact hg
 cases m with
 | zero=>exact absurd rfl hg1
 | succ m =>
   have evu:whGo gc gb (m+1) Γ1=lift (gc Γ1) Γ1 fun k=>if k=true then (match gb Γ1 with
    | .ok (.nx Γ')=>whGo gc gb m Γ'
    | .ok (.ct Γ')=>whGo gc gb m Γ'
    | .ok (.bk Γ')=>.ok (.nx Γ')
    | .ok (.rt d)=>.ok (.rt d)
    | .ok (.rtF d)=>.ok (.rtF d)
    | .ok (.ex c Γ')=>.ok (.ex c Γ')
    | _=>.no) else .ok (.nx Γ1):=rfl
   rw[evu] at hg1 ev1
   refine wpAny_passesOwn hp' (wpAny_mono (hc.run pins s1 σ1 H1 F1 Γ1 I1 fo1 rl1 (z2g hg1)) (fun k s2 ⟨H2,e2,I2,S2⟩=>?_) fun _ _ x=>by rw[<-ev1];exact(x.lift fo1 rl1 _).later E1)
   rw[z4j e2] at hg1 ev1
   cases k with
   | false =>
     rw[if_neg Bool.false_ne_true] at ev1 ⊢
     exact wpAny_execs_nil ⟨Γ1,ev1.symm,σ1,H2,F1,I2,fo1.same S2,rl1.same S2,E1.trans (.of_same S2)⟩
   | true =>
     rw[if_pos rfl] at ev1 hg1 ⊢
     have hgb:gb Γ1 ≠ .no:=fun z=>by rw[z] at hg1;exact hg1 rfl
     refine wpAny_passesOwn hp' (wpAny_mono (hb.run pins s2 σ1 H2 F1 Γ1 I2 (fo1.same S2) (rl1.same S2) hgb) (fun f s3 q3=>?_) fun x3 s3 q3=>?_)
     ·cases f with
      | next =>
        obtain⟨Γ7,e7,σ7,H7,F7,I7,fo7,rl7,E7⟩:=q3
        rw[e7] at ev1
        exact⟨m,Nat.lt_succ_self _,σ7,H7,F7,Γ7,I7,fo7,rl7,(E1.trans (.of_same S2)).trans E7,ev1⟩
      | cont =>
        obtain⟨Γ7,e7,σ7,H7,F7,I7,fo7,rl7,E7⟩:=q3
        rw[e7] at ev1
        exact⟨m,Nat.lt_succ_self _,σ7,H7,F7,Γ7,I7,fo7,rl7,(E1.trans (.of_same S2)).trans E7,ev1⟩
      | brk =>
        obtain⟨Γ7,e7,σ7,H7,F7,I7,fo7,rl7,E7⟩:=q3
        rw[e7] at ev1
        exact⟨Γ7,ev1.symm,σ7,H7,F7,I7,fo7,rl7,(E1.trans (.of_same S2)).trans E7⟩
      | ret v =>
        exact RtP.map q3 (E1.trans (.of_same S2)) (fun _ _ I7=>I7) (fun d7 e7=>by rw[e7] at ev1;exact ev1.symm) fun d7 e7=>by rw[e7] at ev1;exact ev1.symm
     ·obtain⟨c7,Γ7,σ7,H7,F7,e7,fl7,fo7,rl7,E7⟩:=q3
      rw[e7] at ev1
      exact⟨c7,Γ7,σ7,H7,F7,ev1.symm,fl7,fo7,rl7,(E1.trans (.of_same S2)).trans E7⟩
end
noncomputable def z9t(X:Cx)(pins:List (Addr×Obj))(σ:St)(H:Hp)(c:Er)(x:Value)(s:Shared)(fl:Value):Prop :=
 Inv X pins σ H s/\∃(e C:Addr) (oe:Obj) (vs:Array Value),x = .ref e/\X.mg c.nm=some (.ref C)/\H e=none/\X.s₀.heap.get? e=none/\e≠X.env.locals/\(∀y k,X.env.cells.lookup y=some k->k≠e)/\(∀p∈X.pn++pins,p.1≠e) /\
  s.heap.get? e=some oe/\oe.cls = .ref C/\oe.data = .fields vs/\(∃a0,vs[0]? = some a0) /\
  ∃(T:Addr) (oT:Obj) (ts:Array Value),vs[1]? = some (.ref T)/\H T=none/\X.s₀.heap.get? T=none/\T≠X.env.locals/\(∀y k,X.env.cells.lookup y=some k->k≠T)/\(∀p∈X.pn++pins,p.1≠T)/\T≠e /\
   s.heap.get? T=some oT/\oT.data = .fields ts/\ts[3]? = some fl
section
variable {X:Cx}{pins:List (Addr×Obj)}{σ:St}{H:Hp}{c:Er}{x:Value}{s:Shared}{E:Value->Shared->Prop}{Q:Unit->Shared->Prop}
theorem z9t.here{L:Addr}(hf:X.env.frame=some L)(h:z9t X pins σ H c x s (rawInt L)):y5p X pins σ H c x s:=by
 obtain⟨I,e,C,oe,vs,h1,h2,h3,h4,h5,h6,h7,h8,h9,h10,h11,T,oT,ts,k1,k2,k3,k4,k5,k6,k7,k8,k9,k10⟩:=h
 exact⟨I,e,C,oe,vs,h1,h2,h3,h4,h5,h6,h7,h8,h9,h10,h11,.inr ⟨T,oT,ts,k1,k2,k3,k4,k5,k6,k7,k8,k9,.inr ⟨L,hf,k10⟩⟩⟩
theorem x4v{P:Program}{w:World}{H:Hp}{h:Heap}{a:Addr}{o:HO}(x:z7z P w H h a o):∃ob,h.get? a=some ob:=by
 cases o with
 | lst xs=>obtain⟨_,_,_,_,e⟩:=x;exact⟨_,e⟩
 | tup xs=>obtain⟨_,_,_,ob,e,_⟩:=x;exact⟨_,e⟩
 | dK kvs=>obtain⟨_,_,_,_,o,_,_,e,_⟩:=x;exact⟨_,e⟩
 | dT kvs=>obtain⟨_,_,_,_,o,_,_,e,_⟩:=x;exact⟨_,e⟩
 | set S n=>obtain⟨o,_,_,_,e,_⟩:=x;exact⟨_,e⟩
 | ins C dx fs=>obtain⟨_,_,_,e,_⟩:=x;exact⟨_,e⟩
 | own y=>exact x
 | xd fs=>obtain⟨_,⟨_,_,_,e,_⟩,_⟩:=x;exact⟨_,e⟩
 | rng lo hi=>obtain⟨_,_,_,e⟩:=x;exact⟨_,e⟩
 | frz ob u=>obtain⟨e,_⟩:=x;exact⟨_,e⟩
 | tbl ps=>exact⟨_,x⟩
 | met f y=>exact⟨_,x⟩
 | ext φ=>exact x.2.1
theorem Inv.recs{ch:List Addr}{h':Heap}(I:Inv X pins σ H s)(hch:∀b∈ch,H b=none/\X.s₀.heap.get? b=none/\b≠X.env.locals/\(∀y k,X.env.cells.lookup y=some k->k≠b)/\∀p∈X.pn++pins,p.1≠b)
 (keep:∀b o,b ∉ frs X.stack->b ∉ ch->s.heap.get? b=some o->h'.get? b=some o) (slot:∀b o,b ∉ ch->s.heap.get? b=some o->∃sl,h'.get? b=some { o with slots:=sl }):Inv X pins σ H { s with heap:=h' }:=by
 refine I.call (g':=s.gens) (t':=s.toks) (d':=s.drawn) (ch:=ch) ⟨fun b o e _ hb hc=>keep b o hb hc e,fun b o e _ _ hc=>slot b o hc e,fun _ _ _ n _=>n,fun b o e hc=>let ⟨sl,q⟩:=slot b o hc e;⟨_,q⟩,fun _ _ q=>q,fun _ _ _ q=>q,fun _ ps q=>⟨#[],by rw[q];simp⟩⟩ (fun b u e=>?_) I.bare fun b hb=>?_
 ·have tr:∀d w',H d=some w'->d ∉ frs X.stack/\d ∉ ch:=fun d w' q=>by
   refine⟨fun z=>?_,fun z=>?_⟩
   ·rw[I.stkFree d z] at q;cases q
   ·rw[(hch d z).1] at q;cases q
  refine(I.hok b u e).stay (fun d v hd q=>?_) (fun _ q=>q) fun _ _ q=>q
  rcases hd with z | z
  ·rw[z] at q ⊢;exact keep b v (tr b u e).1 (tr b u e).2 q
  ·exact keep d v (tr d _ z).1 (tr d _ z).2 q
 ·obtain⟨h1,h2,h3,h4,h5⟩:=hch b hb
  exact⟨.inr h2,h3,h4,h5⟩
noncomputable def hx(l:List Addr):Hp:=fun b=>if b∈l then some (.own 0) else none
theorem x9x{l:List Addr}{b:Addr}(h:b∈l):hx l b=some (.own 0):=by unfold hx;rw[if_pos h]
theorem x5c{l:List Addr}{b:Addr}(h:b ∉ l):hx l b=none:=by unfold hx;rw[if_neg h]
theorem z7k{h:Heap}{l:List Addr}{b:Addr}(hb:b∈l):(hidT h (hx l)).get? b=none:=by
 cases q:(hidT h (hx l)).get? b with
 | none=>rfl
 | some o =>
   have z:=(y6a q).2
   rw[x9x hb] at z;cases z
theorem y4q{L e C:Addr}{a0:Value}{ch:List Addr}{h':Heap}(hex:X.ex=[])(I:Inv X pins σ H s)(hmg:X.mg c.nm=some (.ref C))(he:e∈ch)(hch:∀b∈ch,H b=none/\X.s₀.heap.get? b=none/\b≠X.env.locals/\(∀y k,X.env.cells.lookup y=some k->k≠b)/\∀p∈X.pn++pins,p.1≠b)
 (hN:Heap.NotedW (hidT s.heap (hx (frs X.stack++ch))) X.stack e (.ref C) a0 (rawInt L) s.heap h'):z9t X pins σ H c (.ref e) { s with heap:=h' } (rawInt L):=by
 obtain⟨st,ff,⟨oe',vs',T',oT',ts',q1,⟨q2,q2'⟩,q3,q4,q5,q6,q7,q8,q9⟩,up⟩:=hN
 have keep:∀b o,b ∉ frs X.stack->b ∉ ch->s.heap.get? b=some o->h'.get? b=some o:=fun b o h1 h2 q=>st b o (y3n q (x5c fun z=>(List.mem_append.mp z).elim h1 h2))
 have slot:∀b o,b ∉ ch->s.heap.get? b=some o->∃sl,h'.get? b=some { o with slots:=sl }:=fun b o h2 q=>by
  by_cases hb:b∈frs X.stack
  ·obtain⟨_,o',ho',hnf⟩:=I.stack.mem hb
   rw[q] at ho';cases ho'
   exact up b o q hnf
  ·exact⟨o.slots,keep b o hb h2 q⟩
 have hT:H T'=none/\X.s₀.heap.get? T'=none/\T'≠X.env.locals/\(∀y k,X.env.cells.lookup y=some k->k≠T')/\∀p∈X.pn++pins,p.1≠T':=by
  cases q:s.heap.get? T' with
  | none =>
    refine⟨?_,I.gone hex q⟩
    cases z:H T' with
    | none=>rfl
    | some u =>
      obtain⟨o,eo⟩:=x4v (I.hok T' u z)
      rw[q] at eo;cases eo
  | some o =>
    have hin:T'∈frs X.stack++ch:=by
     by_cases z:T'∈frs X.stack++ch
     ·exact z
     ·have:=y3n q (x5c z)
      rw[q5] at this;cases this
    rcases List.mem_append.mp hin with z | z
    ·exfalso
     obtain⟨_,o',ho',hnf⟩:=I.stack.mem z
     rw[q] at ho';cases ho'
     obtain⟨sl,e1⟩:=up T' o q hnf
     rw[q7] at e1;cases e1
     exact hnf _ q8
    ·exact hch T' z
 obtain⟨f1,f2,f3,f4,f5⟩:=hch e he
 obtain⟨g1,g2,g3,g4,g5⟩:=hT
 exact⟨Inv.recs I hch keep slot,e,C,oe',vs',rfl,hmg,f1,f2,f3,f4,f5,q1,q2,q3,⟨a0,q2'⟩,T',oT',ts',q4,g1,g2,g3,g4,g5,q6,q7,q8,q9⟩
theorem y7s{M:Model}{L:Addr}(hex:X.ex=[])(hstk:X.stack=X.env::X.outer)(hf:X.env.frame=some L)(h:y5p X pins σ H c x s)(hQ:∀s',z9t X pins σ H c x s' (rawInt L)->Q () s'):wpAny M X.A (noteFrame x X.env) Q E s:=by
 obtain⟨I,e,C,oe,vs,h1,h2,h3,h4,h5,h6,h7,h8,h9,h10,h11,h12⟩:=h
 subst h1
 obtain⟨a0,h11⟩:=h11
 have hfr:X.A.frames=some (X.env::X.outer):=by rw[<-hstk];exact I.ok.frames
 have nfe:∀{b:Addr} {o:Obj} {ws:Array Value},s.heap.get? b=some o->o.data = .fields ws->b ∉ frs X.stack:=fun {b o ws} q1 q2 z=>by
  obtain⟨_,o',ho',hnf⟩:=I.stack.mem z
  rw[q1] at ho';cases ho'
  exact hnf _ q2
 have hl:∀ch:List Addr,s.heap.FunFrames (hidT s.heap (hx (frs X.stack++ch))) (X.env::X.outer):=fun ch=>by
  have gen:∀(l:List Env),(∀b∈frs l,b∈frs X.stack)->s.heap.FunFrames X.base l->s.heap.FunFrames (hidT s.heap (hx (frs X.stack++ch))) l:=by
   intro l
   induction l with
   | nil=>intro _ _;trivial
   | cons env r ih =>
     intro hs ⟨hk,⟨L',o,hf',hn,ho,hd⟩,hr⟩
     have m1:∀b∈frs r,b∈frs (env::r):=fun b hb=>by unfold frs at hb ⊢;rw[List.filterMap_cons,hf'];exact List.mem_cons_of_mem _ hb
     have m0:L'∈frs (env::r):=by unfold frs;rw[List.filterMap_cons,hf'];exact List.mem_cons_self
     exact⟨hk,⟨L',o,hf',z7k (List.mem_append_left _ (hs L' m0)),ho,hd⟩,ih (fun b hb=>hs b (m1 b hb)) hr⟩
  rw[<-hstk]
  exact gen X.stack (fun _ h=>h) I.stack
 have stays:∀ch:List Addr,(hidT s.heap (hx (frs X.stack++ch))).StaysIn s.heap:=fun ch b o q=>(y6a q).1
 rcases h12 with h12 | ⟨T,oT,ts,k1,k2,k3,k4,k5,k6,k7,k8,k9,k10⟩
 ·have hsz:1<vs.size:=(Array.getElem?_eq_some_iff.mp h12).1
  unfold noteFrame
  simp only[hf]
  refine wpAny_bind (wpAny_field h8 h10 h12 ?_)
  rw[if_neg (by decide)]
  refine wpAny_entryW hfr (hl [e]) hf h8 (stays [e]) (z7k (by simp)) h10 hsz h11 fun h' hN=>hQ _ ?_
  rw[h9,<-hstk] at hN
  refine y4q (ch:=[e]) hex I h2 (by simp) (fun b hb=>?_) hN
  have:b=e:=by simpa using hb
  subst this
  exact⟨h3,h4,h5,h6,h7⟩
 ·have hcc:∀b∈[e,T],H b=none/\X.s₀.heap.get? b=none/\b≠X.env.locals/\(∀y k,X.env.cells.lookup y=some k->k≠b)/\∀p∈X.pn++pins,p.1≠b:=fun b hb=>by
   have:b=e∨b=T:=by simpa using hb
   rcases this with rfl | rfl
   ·exact⟨h3,h4,h5,h6,h7⟩
   ·exact⟨k2,k3,k4,k5,k6⟩
  rcases k10 with k10 | ⟨L',hL',k10⟩
  ·refine wpAny_noteFrame_onW (cls:=.ref C) (a0:=a0) hfr (hl [e,T]) hf ⟨oe,vs,T,oT,ts,h8,⟨h9,h11⟩,h10,k1,z7k (by simp),k7,k8,k9,k10⟩ (stays [e,T]) (z7k (by simp)) fun h' hN=>hQ _ ?_
   rw[<-hstk] at hN
   exact y4q (ch:=[e,T]) hex I h2 (by simp) hcc hN
  ·rw[hf] at hL';cases hL'
   refine wpAny_noteFrame_againW (base:=hidT s.heap (hx (frs X.stack++[e,T]))) (cls:=.ref C) (a0:=a0) hf ⟨oe,vs,T,oT,ts,h8,⟨h9,h11⟩,h10,k1,z7k (by simp),k7,k8,k9,k10⟩ (hQ s ?_)
   exact⟨I,e,C,oe,vs,rfl,h2,h3,h4,h5,h6,h7,h8,h9,h10,⟨a0,h11⟩,T,oT,ts,k1,k2,k3,k4,k5,k6,k7,k8,k9,k10⟩
theorem x1t{M:Model}{A:Around}{fl:Value}{fr:Option Addr}(h:z9t X pins σ H c x s fl)(hQ:∀s',z9t X pins σ H c x s' (fr.elim .none fun f=>rawInt f)->Q () s'):wpAny M A (setFlight x fr) Q E s:=by
 obtain⟨I,e,C,oe,vs,h1,h2,h3,h4,h5,h6,h7,h8,h9,h10,h11,T,oT,ts,k1,k2,k3,k4,k5,k6,k7,k8,k9,k10⟩:=h
 subst h1
 have hsz3:3<ts.size:=(Array.getElem?_eq_some_iff.mp k10).1
 have other:∀b,b≠T->(s.heap.update T (Obj.mapFields (·.setIfInBounds 3 (fr.elim Value.none fun f=>rawInt f)))).get? b=s.heap.get? b:=fun b hb=>Heap.get?_update_other _ _ (Ne.symm hb)
 unfold setFlight
 refine wpAny_bind (wpAny_field h8 h10 k1 ?_)
 rw[if_pos (show(Value.ref T != Value.none)=true from by simp)]
 refine wpAny_setField k8 k9 hsz3 (hQ _ ⟨Inv.recs (ch:=[T]) I (fun b hb=>?_) (fun b o hb hc q=>?_) (fun b o hc q=>?_),e,C,oe,vs,rfl,h2,h3,h4,h5,h6,h7,(other e (Ne.symm k7)).trans h8,h9,h10,h11,T,_,_,k1,k2,k3,k4,k5,k6,k7,
  Heap.get?_update_self _ k8 (Obj.isFreed_of_fields (Obj.data_mapFields k9 _)),Obj.data_mapFields k9 _,by simp[hsz3]⟩)
 ·have:b=T:=by simpa using hb
  subst this
  exact⟨k2,k3,k4,k5,k6⟩
 ·have hc':b≠T:=by simpa using hc
  exact(other b hc').trans q
 ·have hc':b≠T:=by simpa using hc
  exact⟨o.slots,(other b hc').trans q⟩
theorem x9n{L:Addr}(hex:X.ex=[])(hstk:X.stack=X.env::X.outer)(hf:X.env.frame=some L):PO' X:=fun pins H F r e s' h=>by
 obtain⟨c,Γ',σ',H',F',e1,fl,fo,rl,Ex⟩:=h
 refine y7s hex hstk hf fl fun s1 f1=>?_
 obtain⟨I,e',C,oe,vs,h1,h2,h3,h4,h5,h6,h7,h8,h9,h10,h11,T,oT,ts,k1,kr⟩:=id f1
 subst h1
 show wpAny _ _ _ _ _ _
 refine wpAny_bind (wpAny_field h8 h10 k1 ?_)
 rw[if_neg (show ¬((Value.ref T==Value.none)=true) from by simp)]
 rw[hf]
 exact x1t f1 fun s2 f2=>⟨c,Γ',σ',H',F',e1,f2.here hf,fo,rl,Ex⟩
end
theorem x6r{H:Hp}:hid [] H=H:=by funext b;unfold hid;simp
theorem y4k{K:PySem.W.Frag}{H:Hp}{N:List Str}{ds:List D}{vs:List V}(i:IsAll K H ds vs):Rel K H [] (ini N.length ds) (L2.start N vs):=by
 have hl:=i.length
 have key:∀(j:Nat) (en:En),(ini N.length ds)[j]? = some en->(∃d,en = .ro d/\ds[j]? = some d)∨en = .no:=fun j en h=>by
  unfold ini at h
  by_cases hj:j<ds.length
  ·rw[List.getElem?_append_left (by simpa using hj),List.getElem?_map,List.getElem?_eq_getElem hj] at h
   cases h
   exact .inl ⟨_,rfl,List.getElem?_eq_getElem hj⟩
  ·rw[List.getElem?_append_right (by simpa using hj),List.getElem?_replicate] at h
   split at h
   ·cases h;exact .inr rfl
   ·cases h
 refine⟨?_,fun j d h=>?_,fun j es h=>?_,fun j k es fs a h1 _ _ _=>?_⟩
 ·unfold ini L2.start
  simp[hl]
 ·rcases key j _ h with ⟨d',e,hd⟩ | e
  ·cases e
   obtain⟨v,hv,iv⟩:=i.get hd
   refine⟨v,?_,by rw[x6r];exact iv⟩
   unfold L2.start
   rw[List.getElem?_append_left (by rw[List.length_map];exact(List.getElem?_eq_some_iff.mp hv).1),List.getElem?_map,hv];rfl
  ·cases e
 ·rcases key j _ h with ⟨d',e,_⟩ | e<;>cases e
 ·rcases key j _ h1 with ⟨d',e,_⟩ | e<;>cases e
section
variable {P:Program}{w:World}{K:PySem.W.Frag}{mg:Str->Option Value}{base:Heap}
noncomputable abbrev y1m (P:Program) (w:World) (K:PySem.W.Frag) (mg:Str->Option Value) (base:Heap) (N:List Str) (qual:Str) (st:Stmt) (f:Addr) (cdv:Value) (A:Around) (outer:List Env) (s:Shared) (H:Hp) (E:XK):Cx :=
 cxOf (CXE P w) P w K mg base N qual (z0d st) f cdv A outer s H E
theorem x1e{N:List Str}{qual:Str}{st:Stmt}{f:Addr}{cdv:Value}{A:Around}{outer:List Env}{s s':Shared}{H H':Hp}{E:XK}{pins:List (Addr×Obj)}{σ':St}{F':List Addr}{c:Er}{x:Value}
 (fl:y5p (y1m P w K mg base N qual st f cdv A outer s H E) pins σ' H' c x s') (hE:∀C,mg c.nm=some (.ref C)->E (.ref C) none H'):(y1m P w K mg base N qual st f cdv A outer s H E).xe x s':=by
 show wpAny _ _ (leaving _ x) _ _ s'
 unfold leaving
 refine wpAny_bind (y7s (L:=s.heap.objs.size) rfl rfl rfl fl fun s1 f1=>?_)
 refine x1t (fr:=none) f1 fun s2 f2=>?_
 obtain⟨I,e,C,oe,vs,h1,h2,h3,h4,h5,h6,h7,h8,h9,h10,h11,T,oT,ts,k1,k2,k3,k4,k5,k6,k7,k8,k9,k10⟩:=f2
 exact⟨e,C,T,oe,oT,vs,ts,H',h1,I.os,I.bare,I.base,I.hok,h3,h4,h8,h9,h10,h11,k1,k2,k3,k7,k8,k9,k10,hE C h2⟩
theorem z1k{x qual:Str}{st:Stmt}{f:Addr}{fd:FuncData}{N ps:List Str}{k:Nat}{φ:List D->R D}(Fu:Fun K x qual st f fd)(S:FnScope N ps (z0d st))(hb:z1s K fd ps [])(hlen:∀ds,φ ds ≠ .no->ds.length=ps.length)
 (hbody:∀(cdv:Value) (A:Around) (outer:List Env) (s:Shared) (H:Hp) (E:XK),Room k (y1m P w K mg base N qual st f cdv A outer s H E).A->∃g,PQs (y1m P w K mg base N qual st f cdv A outer s H E) (z0m st) g/\∀ds,φ ds ≠ .no->fin (g (ini N.length ds))=φ ds) :
 FnD P w K mg base (k+1) f fd ps φ:=by
 refine⟨?_,hb,Fu.kp⟩
 obtain⟨oc,od,kV,doc,pm,an,cdv,ct,osl,rfl,lk,hcd⟩:=Fu.ex
 refine x4d lk hcd S (fun vs H Q E h=>?_) fun A outer s H vs Q E hr hsp=>?_
 ·obtain⟨ds,i,hne,_⟩:=h
  rw[<-i.length];exact hlen ds hne
 obtain⟨g,hq,hg⟩:=hbody cdv A outer s H E hr
 obtain⟨ds,i,hne,hok,her⟩:=hsp
 have e0:=hg ds hne
 refine⟨fun D' σ' H'=>D'={ nx:=fun _ H'=>Q .non H',rt:=Q }/\σ'=L2.start N vs/\H'=H,?_,rfl,rfl,rfl⟩
 intro pins s1 σ1 H1 D1 I hw
 obtain⟨rfl,rfl,rfl⟩:=hw
 have hgne:g (ini N.length ds) ≠ .no:=fun z=>hne (by rw[<-e0,z];rfl)
 refine wpAny_mono (hq.run pins s1 (L2.start N vs) H1 [] (ini N.length ds) I FOk.nil (y4k i) hgne) (fun fl s' q=>?_) fun x' s' q=>?_
 ·cases fl with
  | next =>
    obtain⟨Γ',e1,σ',H',F',I',_,_,Ex⟩:=q
    exact⟨σ',H',I',hok .non .non H' (by rw[<-e0,e1];rfl) Ex.same (Is.non_iff.mpr rfl)⟩
  | ret u =>
    obtain⟨v,σ',H',F',I',rv,Ex,⟨d,e1,iv⟩ | ⟨es,a,xs,e1,ev,hn,ha,ia⟩⟩:=q
    ·exact⟨v,σ',H',I',rv,hok d v H' (by rw[<-e0,e1];rfl) Ex.same iv⟩
    ·exact absurd (by rw[<-e0,e1];rfl) hne
  | brk=>obtain⟨Γ',e1,_⟩:=q;exact absurd (by rw[<-e0,e1];rfl) hne
  | cont=>obtain⟨Γ',e1,_⟩:=q;exact absurd (by rw[<-e0,e1];rfl) hne
 ·obtain⟨c,Γ',σ',H',F',e1,fl,fo,rl,Ex⟩:=q
  exact x1e (F':=F') fl fun C hC=>her c C H' (by rw[<-e0,e1];rfl) hC Ex.same
theorem y7r{x qual:Str}{st:Stmt}{f:Addr}{fd:FuncData}{N ps:List Str}{k:Nat}{φ:List D->R (List D)}(Fu:Fun K x qual st f fd)(S:FnScope N ps (z0d st))(hb:z1s K fd ps [])(hlen:∀ds,φ ds ≠ .no->ds.length=ps.length)
 (hbody:∀(cdv:Value) (A:Around) (outer:List Env) (s:Shared) (H:Hp) (E:XK),Room k (y1m P w K mg base N qual st f cdv A outer s H E).A->∃g,PQs (y1m P w K mg base N qual st f cdv A outer s H E) (z0m st) g/\∀ds,φ ds ≠ .no->finF (g (ini N.length ds))=φ ds) :
 FnF P w K mg base (k+1) f fd ps φ:=by
 refine⟨?_,hb,Fu.kp⟩
 obtain⟨oc,od,kV,doc,pm,an,cdv,ct,osl,rfl,lk,hcd⟩:=Fu.ex
 refine x4d lk hcd S (fun vs H Q E h=>?_) fun A outer s H vs Q E hr hsp=>?_
 ·obtain⟨ds,i,hne,_⟩:=h
  rw[<-i.length];exact hlen ds hne
 obtain⟨g,hq,hg⟩:=hbody cdv A outer s H E hr
 obtain⟨ds,i,hne,hok,her⟩:=hsp
 have e0:=hg ds hne
 refine⟨fun D' σ' H'=>D'={ nx:=fun _ H'=>Q .non H',rt:=Q }/\σ'=L2.start N vs/\H'=H,?_,rfl,rfl,rfl⟩
 intro pins s1 σ1 H1 D1 I hw
 obtain⟨rfl,rfl,rfl⟩:=hw
 have hgne:g (ini N.length ds) ≠ .no:=fun z=>hne (by rw[<-e0,z];rfl)
 refine wpAny_mono (hq.run pins s1 (L2.start N vs) H1 [] (ini N.length ds) I FOk.nil (y4k i) hgne) (fun fl s' q=>?_) fun x' s' q=>?_
 ·cases fl with
  | next =>
    obtain⟨Γ',e1,_⟩:=q
    exact absurd (by rw[<-e0,e1];rfl) hne
  | ret u =>
    obtain⟨v,σ',H',F',I',rv,Ex,⟨d,e1,iv⟩ | ⟨es,a,xs,e1,ev,hn,ha,ia⟩⟩:=q
    ·exact absurd (by rw[<-e0,e1];rfl) hne
    ·subst ev
     exact⟨.ref a,σ',H',I',rv,hok es a xs H' (by rw[<-e0,e1];rfl) Ex.same (hn.elim (fun z=>absurd z (by simp)) fun z=>z) ha ia⟩
  | brk=>obtain⟨Γ',e1,_⟩:=q;exact absurd (by rw[<-e0,e1];rfl) hne
  | cont=>obtain⟨Γ',e1,_⟩:=q;exact absurd (by rw[<-e0,e1];rfl) hne
 ·obtain⟨c,Γ',σ',H',F',e1,fl,fo,rl,Ex⟩:=q
  exact x1e (F':=F') fl fun C hC=>her c C H' (by rw[<-e0,e1];rfl) hC Ex.same
theorem z3s{N:List Str}{qual:Str}{st:Stmt}{f:Addr}{cdv:Value}{A:Around}{outer:List Env}{s:Shared}{H:Hp}{E:XK}:PO' (y1m P w K mg base N qual st f cdv A outer s H E):=x9n (L:=s.heap.objs.size) rfl rfl rfl
end
section
variable {X:Cx}{e a b c:Expr}{g ga gb gc:G->R D}{pos p:Pos}
noncomputable def isIC:Expr->Bool
 | .Constant (.int _) _ _=>true
 | _=>false
noncomputable def icD:Expr->D
 | .Constant (.int i) _ _=>.int i
 | _=>.non
theorem y8r{es:List Expr}(h:es.all isIC=true:=by rfl):PAD X es (fun _=>.ok (es.map icD)):=by
 induction es with
 | nil=>exact z0c
 | cons e es ih =>
   have h1:isIC e=true/\es.all isIC=true:=by simpa using h
   have h2:=ih h1.2
   cases e with
   | Constant c j q =>
     cases c with
     | int i =>
       refine⟨fun pos pins s σ H F Γ I fo rl hg=>?_⟩
       exact(z0a (X:=X) (e:=.Constant (.int i) j q) z0f h2 (by rfl)).run pos pins s σ H F Γ I fo rl (fun z=>nomatch z)
     | _=>exact absurd h1.1 (by simp[isIC])
   | _=>exact absurd h1.1 (by simp[isIC])
theorem x8v{pins:List (Addr×Obj)}{σ:St}{H:Hp}{s:Shared}{A:Around}{E:Value->Shared->Prop}{Q:Value->Shared->Prop}{d:D}{v:V}{u cv:Value}{b:Bool}(I:Inv X pins σ H s)(hnx:d.noX=true)(i:Is X.K H d v)(r:RelV v u)(e:PySem.W.kitOne X.K (.type d.ty) cv=some b)(h:∀tk,Q (.bool b) { s with toks:=tk }) :
 wpAny (model X.prog X.w) A (call (.builtin "isinstance") [u,cv]) Q E s:=by
 cases d with
 | non=>rw[Is.non_iff.mp i] at r;cases (show u=Value.none from r);exact PySem.W.kia_one PySem.W.kitx_none I.kIn True.intro e (fun z=>nomatch z) h
 | bl y=>rw[Is.bl_iff.mp i] at r;cases (show u=Value.bool y from r);exact PySem.W.kia_one PySem.W.kitx_bool I.kIn True.intro e (fun z=>nomatch z) h
 | int y=>rw[Is.int_iff.mp i] at r;obtain⟨t,q⟩:=(show ∃t,u=Value.int y t from r);cases q;exact PySem.W.kia_one PySem.W.kitx_int I.kIn True.intro e (fun z=>nomatch z) h
 | str y=>rw[Is.str_iff.mp i] at r;obtain⟨t,q⟩:=(show ∃t,u=Value.str y t from r);cases q;exact PySem.W.kia_one PySem.W.kitx_str I.kIn True.intro e (fun z=>nomatch z) h
 | tup ds =>
   obtain⟨a,xs,rfl,h1,_⟩:=Is.tup_iff.mp i
   cases (show u=Value.ref a from r)
   obtain⟨its,_,⟨o,ho,hc,_⟩,_⟩:=I.tuple h1
   exact PySem.W.kia_one PySem.W.kitx_tuple I.kIn ⟨o,ho,hc⟩ e (fun z=>nomatch z) h
 | lst ds =>
   obtain⟨a,xs,rfl,h1,_⟩:=Is.lst_iff.mp i
   cases (show u=Value.ref a from r)
   obtain⟨its,_,⟨o,n,ho,hc,_⟩,_⟩:=I.list h1
   exact PySem.W.kia_one PySem.W.kitx_list I.kIn ⟨o,ho,hc⟩ e (fun z=>nomatch z) h
 | dct =>
   obtain⟨a,ob,rfl,h1,h2⟩:∃a ob,v=V.ref a/\H a=some (.frz ob (.own 0))/\ob.cls = .type "dict":=by unfold Is at i;exact i
   cases (show u=Value.ref a from r)
   exact PySem.W.kia_one PySem.W.kitx_dict I.kIn ⟨ob,(I.hok a _ h1).1,h2⟩ e (fun z=>nomatch z) h
 | exc c=>simp[D.noX] at hnx
theorem y7g{y:Str}{py:Pos}{cv:Value}(f:String->Bool)(ha:PD X a ga)(hm:X.mg "isinstance"=none)(hb:∀{E:Value->Shared->Prop} {pins σ H s} {Q:Value->Shared->Prop},Inv X pins σ H s->Q cv s->wpAny (model X.prog X.w) X.A (eval (.Name y py) X.env) Q E s)
 (hk:∀d:D,d.noX=true->PySem.W.kitOne X.K (.type d.ty) cv=some (f d.ty)) (hg:Gl X "isinstance":=by rfl)
 (he:starEach [a,.Name y py] X.env=(false,eval a X.env)::(false,eval (.Name y py) X.env)::[]:=by rfl) (hpl:(backTo pos (starEach [.Name y py] X.env)).any (·.1)=false:=by rfl) (he2:starEach [.Name y py] X.env=[(false,eval (.Name y py) X.env)]:=by rfl) :
 PD X (.Call (.Name "isinstance" p) [a,.Name y py] [] pos) (gIsi f ga):=by
 refine⟨fun pins s σ H F Γ I fo rl hgg=>?_⟩
 refine wpAny_Call_Name_kw (z6f I hg hm (by decide +kernel:bootBuiltins "isinstance"=some (.builtin "isinstance")) ?_ (by decide) (by decide))
 refine PyProof.Rows.callWith_builtin1 ?_ (by rw[he,he2]) hpl
 rw[he]
 show wpAny _ _ (spliced ((false,eval a X.env)::backTo pos [(false,eval (.Name y py) X.env)])) _ _ s
 refine Calls.spliced_cons (wpAny_mono (ha.run pins s σ H F Γ I fo rl (R.left hgg)) (fun u s1 ⟨d,v,H1,e1,I1,r1,S1,i1⟩=>?_) fun _ _ x=>x.bind _)
 show wpAny _ _ (spliced ((false,eval (.Name y py) X.env)::backTo pos [])) _ _ s1
 refine Calls.spliced_cons (hb I1 (Calls.spliced_nil ?_))
 obtain⟨hnx,e2⟩:=x6v (R.next hgg e1)
 exact x8v I1 hnx i1 r1 (hk d hnx) fun tk=>Post.bind e1 S1 ⟨.bl (f d.ty),.bl (f d.ty),H1,e2,I1.tok _,rfl,.refl _,Is.bl_iff.mpr rfl⟩
theorem x9w{K:PySem.W.Frag}(d:D)(h:d.noX=true):PySem.W.kitOne K (.type d.ty) (.type "int")=some (z7e d.ty):=by cases d<;>first | rfl | (simp[D.noX] at h)
theorem x8u{K:PySem.W.Frag}(d:D)(h:d.noX=true):PySem.W.kitOne K (.type d.ty) (.type "bool")=some (z4t d.ty):=by cases d<;>first | rfl | (simp[D.noX] at h)
theorem x1i{K:PySem.W.Frag}(d:D)(h:d.noX=true):PySem.W.kitOne K (.type d.ty) (.type "tuple")=some (z2w d.ty):=by cases d<;>first | rfl | (simp[D.noX] at h)
end
theorem FnF.mono{P:Program}{w:World}{K:PySem.W.Frag}{mg:Str->Option Value}{base:Heap}{j k:Nat}{f:Addr}{fd:FuncData}{ps:List Str}{φ:List D->R (List D)}(F:FnF P w K mg base j f fd ps φ)(h:j<=k):FnF P w K mg base k f fd ps φ:=⟨F.ok.mono h,F.binds,F.kp⟩
noncomputable def spN(φ:List D->R D)(K:PySem.W.Frag):Sp:=fun vs H Q _=>∃ds d,IsAll K H ds vs/\φ ds = .ok d/\(∀v H',Same H H'->Is K H' d v->Q v H')
theorem x7n{φ:List D->R D}{K:PySem.W.Frag}{mg:Str->Option Value}{vs:List V}{H:Hp}{Q:VK}{E:XK}(h:spN φ K vs H Q E):spD K mg φ vs H Q E:=by
 obtain⟨ds,d,i,e,q⟩:=h
 exact⟨ds,i,(by rw[e];exact(fun z=>nomatch z)),(fun d' v H' e' S iv=>by rw[e] at e';cases e';exact q v H' S iv),(fun c C H' e'=>by rw[e] at e';cases e')⟩
theorem FnD.okN{P:Program}{w:World}{K:PySem.W.Frag}{mg:Str->Option Value}{base:Heap}{k:Nat}{f:Addr}{fd:FuncData}{ps:List Str}{φ:List D->R D}(F:FnD P w K mg base k f fd ps φ):FnOk P w K mg base (CXE P w) k f fd ps (spN φ K) :=
 F.ok.imp fun _ _ _ _ h=>x7n h
theorem law_true{c:List D->R D}(hc:∀ns:List Int,ns.length<=63->c [.lst (ns.map D.int)] = .ok (.bl true)){K:PySem.W.Frag}{H:Hp}{a:Addr}{ns:List Int}(hl:ns.length<=63)(hS:SqL K H a (ns.map V.int)):spN c K [.ref a] H (fun v _=>v = .bl true) fun _ _ _=>False :=
 ⟨[.lst (ns.map D.int)],.bl true,IsAll.cons (Is.lst_iff.mpr ⟨a,_,rfl,hS,IsAll.ints ns⟩) IsAll.nil,hc ns hl,fun v H' _ iv=>Is.bl_iff.mp iv⟩
theorem cxe_false{P:Program}{w:World}{H:Hp}{s:Shared}{e:Value}{s':Shared}(h:CXE P w [] H s (fun _ _ _=>False) e s'):False:=by
 obtain⟨_,_,_,_,_,_,_,_,_,_,_,_,_,_,_,_,_,_,_,_,_,_,_,_,_,_,z⟩:=h
 exact z
theorem walk_ofL{l:PySem.W.OpenLaw}{n k:Nat}{q:Program}{loose:List Str}{XP:(Str->Option Value)->Heap->Prop}{YP:World->Heap->Prop}{d:DefRec}{K:Params->PySem.W.Frag}{CX:World->CXT}(sp:PySem.W.Frag->Sp){x:Str}
 (hn:l.most=some n) (hn2:n<=sizeLine) (hdf:d.params.defaults=[]) (hr:Room k callerA)
 (hY:∀(w:World) (h:Heap),YP w h->(K w.params).In h)
 (F:∀(w:World) (mg:Str->Option Value) (fa:Addr) (h:Heap),(K w.params).In h->h.Ns mainGlobals mg->mg d.name=some (.ref fa) ->
   ∃fd:FuncData,(∀(s:Shared) (u:Value),BindsTo s fd ⟨[u],[]⟩ [(x,u)]) /\
    ∀base:Heap,(K w.params).In base->base.Ns mainGlobals mg->FnOk l.prog w (K w.params) mg base (CX w) k fa fd [x] (sp (K w.params)))
 (hsp:∀(K:PySem.W.Frag) (H:Hp) (a:Addr) (ns:List Int),ns.length<=n->SqL K H a (ns.map V.int)->sp K [.ref a] H (fun v _=>v = .bl true) fun _ _ _=>False)
 (hCX:∀(w:World) (H:Hp) (s:Shared) (e:Value) (s':Shared),CX w [] H s (fun _ _ _=>False) e s'->False) :
 PySem.W.WalkO q loose XP YP l.row.toRowW d [] (fun f vs=>PySem.call f vs) :=
 walk_of (K:=K) (CX:=CX) (sp:=fun w=>sp (K w.params)) hn hn2 hdf hr hY F (fun w H a ns h1 _ h3=>hsp (K w.params) H a ns h1 h3) hCX
end L3
namespace L3
open PySem PySem.Spec PyProof.Rows L2
noncomputable def Its(lo st:Int)(n:Nat):It:=⟨fun i _=>i<n,fun i H x H'=>H'=H/\x = .int (lo+st*(i:Int)),fun i _=>n<=i⟩
theorem y9n{P:Program}{w:World}{K:PySem.W.Frag}{tg:Expr}(it:Addr)(lo st:Int)(n:Nat):Turn P w K tg (Its lo st n) [it] it (fun i h=>IsRangeIter h it (lo+(i:Nat)*st) ((n:Int)-(i:Nat)) st) where
 mem:=by simp
 obj:=fun i h st b hb=>by
  have e:b=it:=by simpa using hb
  subst e
  exact⟨_,st,fun v z=>by
   have z':Data.fields _=Data.cell v:=z
   cases z'⟩
 keep:=fun i h h' st k=>k it (by simp) _ st
 item:=by
  intro X hP hw hK hc i pins s σ H E I hf sx hg
  subst hP hw hK
  obtain⟨f0,f1,f2,f3,f4,f5⟩:=hf it (by simp)
  have W:=Walks.range (prog:=X.prog) (w:=X.w) (I.ok.hd hc) it lo st n
  refine W.item i s _ _ hg sx fun v h' tk hv st' kk=>?_
  obtain⟨t,rfl⟩:=hv
  have I1:Inv X pins σ H { s with heap:=h',toks:=tk }:=I.turned (fun b o hb e=>kk b o (by simpa using hb) e) f0 f1 f3 f4 f5
  refine⟨_,rfl,x4b (s:={ s with heap:=h',toks:=tk }) (n:="range_iterator") st' rfl rfl (by decide) ⟨.int (lo+st*i),H,I1,⟨t,?_⟩,⟨rfl,rfl⟩,st',fun b hb=>(hf b hb).1⟩⟩
  rw[Int.mul_comm]
 done:=by
  intro X hP hw hK hc i pins s σ H E I hf sx hg
  subst hP hw hK
  obtain⟨f0,f1,f2,f3,f4,f5⟩:=hf it (by simp)
  exact wpAny_pyNext_range_end (I.ok.hd hc) sx (by have:n<=i:=hg;lia) fun h' eb=>⟨rfl,I.turned (t':=s.toks) (fun b o hb e=>eb b o hb e) f0 f1 f3 f4 f5⟩
 self:=fun _ _ _ _ _ st h=>wpAny_pyIter_rangeiter st h
theorem z8n{a b c:Int}(hc:0<c):Builtin.Range.rangeSize a b c=((z8m a b c:Nat):Int):=by
 unfold Builtin.Range.rangeSize z8m
 rw[if_pos hc]
 by_cases h:a<b
 ·rw[if_pos h,show b-a+c-1=(b-a-1)+c*1 by lia,Int.add_mul_ediv_left _ _ (by lia)]
  have:0<=(b-a-1)/c:=Int.ediv_nonneg (by lia) (by lia)
  lia
 ·rw[if_neg h]
  have h1:(b-a+c-1)/c<=0:=by
   have:(b-a+c-1)/c<=(c-1)/c:=Int.ediv_le_ediv hc (by lia)
   have h2:(c-1)/c=0:=Int.ediv_eq_zero_of_lt (by lia) (by lia)
   lia
  lia
theorem x3d{a b c:Int}(hc:0<c)(h:a<=b):((z8m a b c:Nat):Int)<=b-a:=by
 rw[<-z8n hc]
 unfold Builtin.Range.rangeSize
 rw[if_pos hc]
 by_cases h:a<b
 ·rw[if_pos h]
  have:=Int.ediv_le_self (a:=b-a-1) c (by lia)
  lia
 ·rw[if_neg h];lia
theorem y8g{a b c:Int}(ha:-1073741824<=a)(ha':a<1073741824)(hb:-1073741824<=b)(hb':b<1073741824)(hc:0<c)(hc':c<1073741824):Builtin.Range.small a b c=true:=by
 unfold Builtin.Range.small
 have hs:((z8m a b c:Nat):Int)<=4294967296:=by
  by_cases h:a<=b
  ·have:=x3d hc h;lia
  ·rw[<-z8n hc]
   unfold Builtin.Range.rangeSize
   rw[if_pos hc,if_neg (by lia)];lia
 rw[z8n hc]
 generalize z8m a b c=n at *
 simp only[Builtin.Range.rangeFitsLong,Bool.and_eq_true,Bool.or_eq_true,decide_eq_true_eq,beq_iff_eq,if_pos (show c>0 from hc)]
 lia
section
variable {X:Cx}{tg a b c:Expr}{ga gb gc:G->R D}
theorem x5n{pins:List (Addr×Obj)}{σ:St}{H:Hp}{s:Shared}{R:It->Hp->Prop}{E:Value->Shared->Prop}{lo hi st:Int}{t u v:Tok}{tk:Nat}(I:Inv X pins σ H s)(h1:-1073741824<=lo)(h2:lo<1073741824)(h3:-1073741824<=hi)(h4:hi<1073741824)(h5:0<st)(h6:st<1073741824)
 (q:R (Its lo st (z8m lo hi st)) H):wpAny (model X.prog X.w) X.A (pyIter (.ref s.heap.objs.size)) (PIE X pins σ tg R) E { s with heap:=s.heap.push { cls:=.type "range",data:=.fields #[.int lo t,.int hi u,.int st v] },toks:=tk }:=by
 refine wpAny_pyIter_range (IsRange.new ..) (y8g h1 h2 h3 h4 h5 h6) ?_
 have I1:Inv X pins σ H { s with heap:=s.heap.push { cls:=.type "range",data:=.fields #[.int lo t,.int hi u,.int st v] },toks:=tk }:=I.kept fun b o e=>Heap.get?_push_of_some _ e
 refine⟨(s.heap.push { cls:=.type "range",data:=.fields #[.int lo t,.int hi u,.int st v] }).objs.size,[(s.heap.push { cls:=.type "range",data:=.fields #[.int lo t,.int hi u,.int st v] }).objs.size],_,_,H,rfl,
  I1.kept (t':=tk) fun b o e=>Heap.get?_push_of_some _ e,y9n _ lo st (z8m lo hi st),?_,fun b hb=>?_,q⟩
 ·have e1:lo+((0:Nat):Int)*st=lo:=by simp
  have e2:((z8m lo hi st:Nat):Int)-((0:Nat):Int)=Builtin.Range.rangeSize lo hi st:=by rw[z8n h5];lia
  show IsRangeIter _ _ (lo+((0:Nat):Int)*st) (((z8m lo hi st:Nat):Int)-((0:Nat):Int)) st
  rw[e1,e2]
  exact Heap.get?_push_size _ rfl
 ·have e:b=(s.heap.push { cls:=.type "range",data:=.fields #[.int lo t,.int hi u,.int st v] }).objs.size:=by simpa using hb
  subst e
  exact I1.fpOk (Nat.le_refl _) (I1.hok.fresh (Nat.le_refl _))
theorem y9z(lo st:Int)(n:Nat):(z9d lo st n).length=n:=by unfold z9d;simp
theorem x6l{K:PySem.W.Frag}{H:Hp}{F:List Addr}(lo st:Int)(n:Nat):JD K H F (Its lo st n) (z9d lo st n):=fun H1 S=>by
 rw[y9z]
 refine⟨fun j hj=>⟨hj,fun x H2 y=>⟨y.1,.int (lo+st*(j:Int)),by unfold z9d;simp[hj],fun F' _=>?_⟩⟩,Nat.le_refl _⟩
 exact Is.int_iff.mpr y.2
theorem y8p{p pos:Pos}(ha:PD X a ga)(hb:PD X b gb)(hc:PD X c gc)(hm:X.mg "range"=none)(hg:Gl X "range":=by rfl)(hs:starEach [a,b,c] X.env=[(false,eval a X.env),(false,eval b X.env),(false,eval c X.env)]:=by rfl)(hs2:starEach [b,c] X.env=[(false,eval b X.env),(false,eval c X.env)]:=by rfl) :
 PIF X tg (.Call (.Name "range" p) [a,b,c] [] pos) (y1e ga gb gc):=by
 refine⟨fun pins s σ H F Γ I fo rl hgg=>?_⟩
 refine Call_ (z6f I hg hm boot_range (PyProof.Rows.callWith_type1 ?_ (by rw[hs,hs2]) (by rw[hs2];rfl)))
 rw[hs]
 show wpAny _ _ (spliced ((false,eval a X.env)::backTo pos [(false,eval b X.env),(false,eval c X.env)])) _ _ s
 refine Calls.spliced_cons (wpAny_mono (ha.run pins s σ H F Γ I fo rl (R.left hgg)) (fun u s1 ⟨d,v,H1,e1,I1,r1,S1,i1⟩=>?_) fun _ _ x=>x.bind _)
 have hg1:=R.next hgg e1
 show wpAny _ _ (spliced ((false,eval b X.env)::backTo pos [(false,eval c X.env)])) _ _ s1
 refine Calls.spliced_cons (wpAny_mono (hb.run pins s1 σ H1 F Γ I1 (fo.same S1) (rl.same S1) (R.left hg1)) (fun u2 s2 ⟨d2,v2,H2,e2,I2,r2,S2,i2⟩=>?_) fun _ _ x=>z1n.later e1 S1 (x.bind _))
 have hg2:=R.next hg1 e2
 show wpAny _ _ (spliced ((false,eval c X.env)::backTo pos [])) _ _ s2
 refine Calls.spliced_cons (wpAny_mono (hc.run pins s2 σ H2 F Γ I2 ((fo.same S1).same S2) ((rl.same S1).same S2) (R.left hg2)) (fun u3 s3 ⟨d3,v3,H3,e3,I3,r3,S3,i3⟩=>Calls.spliced_nil ?_) fun _ _ x=>z1n.later e1 S1 (z1n.later e2 S2 (x.bind _)))
 have hg3:=R.next hg2 e3
 cases d with
 | int i =>
   cases d2 with
   | int j =>
     cases d3 with
     | int k =>
       obtain⟨⟨⟨h1,h2⟩,⟨h3,h4⟩,h5,h6⟩,e4⟩:=R.guard_ne (show R.guard ((-1073741824<=i/\i<1073741824)/\(-1073741824<=j/\j<1073741824)/\0<k/\k<1073741824) (.ok (z9d i k (z8m i j k))) ≠ .no from hg3)
       rw[Is.int_iff.mp i1] at r1
       rw[Is.int_iff.mp i2] at r2
       rw[Is.int_iff.mp i3] at r3
       obtain⟨t,rfl⟩:=(show ∃t,u=Value.int i t from r1)
       obtain⟨t',rfl⟩:=(show ∃t,u2=Value.int j t from r2)
       obtain⟨t'',rfl⟩:=(show ∃t,u3=Value.int k t from r3)
       refine call_range_3 (by lia) (thn (x5n (tg:=tg) (R:=fun J H'=>J=Its i k (z8m i j k)/\H'=H3) I3 h1 h2 h3 h4 h5 h6 ⟨rfl,rfl⟩) fun itv s4 ⟨it,fp,tn,J,H',ei,I4,T,t0,fk,eJ,eH⟩=>?_) (.inl (PyProof.noPylong_small (by lia)))
       subst eJ eH
       exact⟨_,it,fp,tn,_,H',(R.step e1 _).trans ((R.step e2 _).trans ((R.step e3 _).trans e4)),ei,I4,(S1.trans S2).trans S3,T,t0,fk,x6l i k _⟩
     | _=>exact absurd rfl hg3
   | _=>exact absurd rfl hg3
 | _=>exact absurd rfl hg3
end
section
variable {prog:Program}{w:World}{A:Around}{E:Value->Shared->Prop}{s:Shared}
open HT in
theorem z8e{t sl:Addr}{items:Array Value}{vl vu:Value}{lo hi:Option Int}{Q:Value->Shared->Prop}(ht:IsTup s.heap t items)(hs:s.heap.IsSliceOf sl vl vu .none)(pl:IsPart vl lo)(pu:IsPart vu hi)
 (hw:HT.sIx items.size 0 lo=0/\HT.sIx items.size items.size hi=items.size) (h:Q (.ref t) s):wpAny (model prog w) A (getItem (.ref t) (.ref sl)) Q E s:=by
 obtain⟨os,hos,hcs,hds⟩:=id hs
 have hTs:s.TypeIs (.ref sl) "slice":=⟨os,hos,hcs⟩
 unfold getItem
 try with_reducible refine wpAny_holding ?_
 first | refine wpAny_bind (wpAny_pure ?_) | skip
 refine wpAny_bind (wpAny_sequenceKey ht.typeIs (by decide) ?_)
 refine wpAny_bind (wpAny_callSpecial?_slot (name:=Str.ofString "__getitem__") ht.typeIs PyProof.Rows.slot_tuple_getitem
  (wpAny_call_entry PyProof.Rows.slot_tuple_getitem ht.typeIs entry_tuple_getitem ?_ (args_tuple_getitem _ _)))
 show wpAny _ _ (Builtin.Tuple.tupleItemsOf (.ref t)>>=_) _ _ s
 refine wpAny_bind (tupleItemsOf_ ht ?_)
 refine wpAny_bind (wpAny_typeOf hTs ?_)
 rw[if_pos (by decide)]
 refine wpAny_bind (z7b hs pl pu ?_)
 have hyes:(((HT.sIx items.size 0 lo:Nat):Int)==0&&(1:Int)==1&&(HT.sIx items.size items.size hi-HT.sIx items.size 0 lo)==items.size)=true:=by
  rw[hw.1,hw.2];simp
 show wpAny _ _ (if (((HT.sIx items.size 0 lo:Nat):Int)==0&&(1:Int)==1&&(HT.sIx items.size items.size hi-HT.sIx items.size 0 lo)==items.size)=true then _ else _) _ _ s
 rw[if_pos hyes]
 unfold Builtin.Tuple.tupleIsExact
 refine wpAny_bind (wpAny_bind (wpAny_typeOf ht.typeIs ?_))
 refine wpAny_pure ?_
 rw[if_pos (by decide)]
 exact wpAny_bind (wpAny_rule (wpAny_pure ⟨_,rfl,wpAny_pure h⟩))
end
section
variable {X:Cx}{e a b c:Expr}{g ga gb gc:G->R D}{lo hi:Option Expr}{gl gh:G->R (Option Int)}{pos p2:Pos}
noncomputable def rSlW(K:PySem.W.Frag):V->Option Int->Option Int->Hp->VK->Prop:=fun x lo hi H Q=>∃a xs,x = .ref a/\SqT K H a xs/\(HT.sIx xs.length 0 lo=0/\HT.sIx xs.length xs.length hi=xs.length)/\Q (.ref a) H
theorem x5o:SlR X (rSlW X.K):=by
 intro pins s σ H x v vl vu lo hi sl Q I rx hs pl pu h
 obtain⟨a,xs,rfl,hx,hw,q⟩:=h
 cases rx
 obtain⟨its,r,ht,hz⟩:=I.tuple hx
 have hlen:its.toArray.size=xs.length:=by rw[List.size_toArray];exact r.length.symm
 refine⟨"tuple",_,PyProof.Rows.slot_tuple_getitem.lookup,ht.typeIs,?_⟩
 exact z8e ht hs pl pu (by rw[hlen];exact hw) ⟨.ref a,H,I,rfl,q⟩
structure POD (X:Cx) (e:Option Expr) (g:G->R (Option Int)):Prop where
 run:∀(pins:List (Addr×Obj)) (s:Shared) (σ:St) (H:Hp) (F:List Addr) (Γ:G),Inv X pins σ H s->FOk H F->Rel X.K H F Γ σ->g Γ ≠ .no ->
  wpAny (model X.prog X.w) X.A (evalPart e X.env) (fun u s'=>∃o H',g Γ = .ok o/\Inv X pins σ H' s'/\IsPart u o/\Same H H') (z1n X pins σ H (g Γ)) s
theorem podN:POD X none gON:=⟨fun pins s σ H F Γ I fo rl hg=>by
 rw[evalPart_none]
 exact wpAny_pure ⟨none,H,rfl,I,.none,.refl _⟩⟩
theorem podS(h:PD X e g):POD X (some e) (gOS g):=⟨fun pins s σ H F Γ I fo rl hg=>by
 rw[evalPart_some]
 refine wpAny_mono (h.run pins s σ H F Γ I fo rl (R.left hg)) (fun u s1 ⟨d,x,H1,e1,I1,r1,S1,i1⟩=>?_) fun _ _ x=>x.bind _
 have hg1:=R.next hg e1
 cases d with
 | int i =>
   rw[Is.int_iff.mp i1] at r1
   obtain⟨t,rfl⟩:=(show ∃t,u=Value.int i t from r1)
   exact⟨some i,H1,R.step e1 _,I1,.int i t,S1⟩
 | _=>exact absurd rfl hg1⟩
theorem IsAll.cut{K:PySem.W.Frag}{H:Hp}{ds:List D}{xs:List V}(h:IsAll K H ds xs)(lo hi:Option Int):IsAll K H (cutL ds lo hi) (cutV xs lo hi):=by
 have hl:=h.length
 unfold cutL cutV
 rw[hl]
 exact(h.drop _).take _
theorem x7p{r:V->Option Int->Option Int->Hp->VK->Prop}(hr:SlR X.nox r)(ha:PD X a ga)(hl:POD X lo gl)(hh:POD X hi gh){pins:List (Addr×Obj)}{s:Shared}{σ:St}{H:Hp}{F:List Addr}{Γ:G}(I:Inv X pins σ H s)(fo:FOk H F)(rl:Rel X.K H F Γ σ)
 {α:Type} {rr:R α} {k:D->Option Int->Option Int->R α} (hrr:rr=(ga Γ>>=fun d=>gl Γ>>=fun l=>gh Γ>>=fun h=>k d l h)) (hg:rr ≠ .no) {Q:Value->Shared->Prop}
 (hq:∀d x l h H3,k d l h ≠ .no->rr=k d l h->Same H H3->Is X.K H3 d x->FOk H3 F->Rel X.K H3 F Γ σ->r x l h H3 fun z H'=>∀u s',Inv X pins σ H' s'->RelV z u->Q u s') :
 wpAny (model X.prog X.w) X.A (eval (.Subscript a (.Slice lo hi none p2) pos) X.env) Q (z1n X pins σ H rr) s:=by
 subst hrr
 refine Subscript_ (wpAny_mono (ha.run pins s σ H F Γ I fo rl (R.left hg)) (fun v s1 ⟨d,x,H1,e1,I1,r1,S1,i1⟩=>?_) fun _ _ x=>x.bind _)
 have hg1:=R.next hg e1
 refine wpAny_Slice (wpAny_mono (hl.run pins s1 σ H1 F Γ I1 (fo.same S1) (rl.same S1) (R.left hg1)) (fun vl s2 ⟨l,H2,e2,I2,pl,S2⟩=>?_) fun _ _ x=>z1n.later e1 S1 (x.bind _))
 have hg2:=R.next hg1 e2
 refine wpAny_mono (hh.run pins s2 σ H2 F Γ I2 ((fo.same S1).same S2) ((rl.same S1).same S2) (R.left hg2)) (fun vu s3 ⟨h,H3,e3,I3,pu,S3⟩=>?_) fun _ _ x=>z1n.later e1 S1 (z1n.later e2 S2 (x.bind _))
 have hg3:=R.next hg2 e3
 have S03:=(S1.trans S2).trans S3
 rw[evalPart_none]
 refine wpAny_pure ?_
 have I4:Inv X pins σ H3 { s3 with heap:=s3.heap.push { cls:=.type "slice",data:=.fields #[vl,vu,.none] } }:=I3.kept (t':=s3.toks) fun b ob q=>Heap.get?_push_of_some _ q
 obtain⟨T,id,hT,ht,hgi⟩:=hr pins { s3 with heap:=s3.heap.push { cls:=.type "slice",data:=.fields #[vl,vu,.none] } } σ H3 x v vl vu l h s3.heap.objs.size _ (I4.wish _) r1 (Heap.IsSliceOf.new ..) pl pu (hq d x l h H3 hg3 ((R.step e1 _).trans ((R.step e2 _).trans (R.step e3 _))) S03 ((i1.same S2).same S3) (fo.same S03) (rl.same S03))
 show wpAny (model X.prog X.w) X.A (subscriptTail a (.Slice lo hi none p2) v (.ref s3.heap.objs.size)) _ _ { s3 with heap:=s3.heap.push { cls:=.type "slice",data:=.fields #[vl,vu,.none] } }
 refine tail_any (ops:=[.ref s3.heap.objs.size,v]) ht hT (wpAny_mono hgi (fun u s5 ⟨z,H5,I5,rz,q5⟩=>q5 u s5 I5.unwish rz) fun _ _ z=>False.elim z) (by with_unfolding_all rfl)
theorem z9g(ha:PD X a ga)(hl:POD X lo gl)(hh:POD X hi gh):PD X (.Subscript a (.Slice lo hi none p2) pos) (gSl ga gl gh):=⟨fun pins s σ H F Γ I fo rl hg =>
 x7p (SlR.or (SlR.or x7o x5o) x5p) ha hl hh I fo rl (k:=dCut) rfl hg fun d x l h H3 hk er S i fo3 rl3=>by
  cases d with
  | tup ds =>
    obtain⟨p,xs,rfl,h1,h2⟩:=Is.tup_iff.mp i
    by_cases hw:HT.sIx xs.length 0 l=0/\HT.sIx xs.length xs.length h=xs.length
    ·refine .inl (.inr ⟨p,xs,rfl,h1,hw,fun u s' I' rz=>⟨_,.ref p,H3,er,I',rz,S,Is.tup_iff.mpr ⟨p,xs,rfl,h1,?_⟩⟩⟩)
     have:=h2.cut l h
     unfold cutV at this
     rw[hw.1,hw.2,List.drop_zero,Nat.sub_zero,List.take_length] at this
     exact this
    ·refine .inl (.inl ⟨p,xs,rfl,h1,hw,fun q hq u s' I' rz=>?_⟩)
     have S2:=z1x hq (.tup (cutV xs l h))
     exact⟨_,.ref q,_,er,I',rz,S.trans S2,Is.tup_iff.mpr ⟨q,_,rfl,SqT.of z0v,(h2.cut l h).same S2⟩⟩
  | lst ds =>
    obtain⟨p,xs,rfl,h1,h2⟩:=Is.lst_iff.mp i
    refine .inr ⟨p,xs,rfl,h1,fun q hq u s' I' rz=>?_⟩
    have S2:=z1x hq (.lst (cutV xs l h))
    exact⟨_,.ref q,_,er,I',rz,S.trans S2,Is.lst_iff.mpr ⟨q,_,rfl,SqL.of z0v,(h2.cut l h).same S2⟩⟩
  | _=>exact absurd rfl hk⟩
end
end L3
namespace L3
open PySem PySem.Spec PyProof.Rows L2
section
variable {prog:Program}{w:World}{A:Around}{E:Value->Shared->Prop}{s:Shared}
end
section
variable {X:Cx}{e:Expr}{g:G->R D}{pos pt:Pos}
end
noncomputable def bmV:List Value:=[.type "ValueError",.type "Exception",.type "BaseException",.type "object"]
noncomputable def x9d(h:Heap)(C:Addr):Prop:=∃bm N nm q bs hdct sn sub ab col dd k0 k1 k2 k3 k5 mN,h.get? C=some (excClassObj nm q C N bs bm hdct sn sub ab col dd k0 k1 k2 k3 k5 "ValueError.__new__")/\h.Ns N mN/\mN "__init__"=none/\OwnTail h bmV bm
theorem x1u{K:PySem.W.Frag}{h:Heap}{C:Addr}(X:K.In h)(q:PySem.W.excIn K C bmV "ValueError.__new__"=true):x9d h C:=by
 unfold PySem.W.excIn at q
 cases e:K.lookup C with
 | none=>rw[e] at q;cases q
 | some o =>
   rw[e] at q
   obtain⟨cls,dd,data,sl⟩:=o
   split at q
   ·rename_i heq
    obtain⟨rfl,rfl,rfl,rfl⟩:cls=_/\dd=_/\data=_/\sl=_:=by
     have z:=Option.some.inj heq
     injection z with z1 z2 z3 z4
     exact⟨z1,z2,z3,z4⟩
    split at q
    ·rename_i hm hs
     rename_i cd xa xb C' bm k0 k1 k2 k3 n k5
     simp only[Bool.and_eq_true,beq_iff_eq,Bool.not_eq_true'] at q
     obtain⟨⟨⟨⟨⟨q1,q2⟩,q3⟩,q4⟩,q5⟩,q6⟩:=q
     obtain⟨nm,bs,mro,ns,qn,hd,sn,sub,ab,col,del⟩:=cd
     subst q1 q2
     have h1:mro = .ref C'::bm:=hm
     have h2:del=false:=q3
     subst h1 h2
     have h3:sl=#[k0,k1,k2,k3,some (.builtin "ValueError.__new__"),k5]:=by
      cases sl with | mk l=>exact congrArg Array.mk hs
     subst h3
     exact⟨bm,ns,nm,qn,bs,hd,sn,sub,ab,col,dd,k0,k1,k2,k3,k5,_,X _ _ e,.of_isNs (PySem.W.isNs_of_in X q5),PySem.W.nsMap_none_of_in X q5 q6,PySem.W.tail_of_in X q4⟩
    ·cases q
   ·cases q
structure XOk (K:PySem.W.Frag) (mg:Str->Option Value) (c:Er) (C:Addr):Prop where
 ns:PySem.W.nsIn K mainGlobals c.nm=some (some (.ref C))
 mg:mg c.nm=some (.ref C)
 ex:PySem.W.excIn K C bmV "ValueError.__new__"=true
section
variable {X:Cx}{e:Expr}{g:G->R D}{pos np cpos:Pos}
theorem x9y{pins:List (Addr×Obj)}{σ:St}{H:Hp}{s:Shared}{q:Addr}(I:Inv X pins σ H s)(hq:s.heap.get? q=none):H q=none:=by
 cases e:H q with
 | none=>rfl
 | some o=>obtain⟨ob,h⟩:=x4v (I.hok q o e);rw[hq] at h;cases h
theorem x3h{c:Er}{C:Addr}{x:Str}{d:D}(hX:XOk X.K X.mg c C)(he:PD X e (gC d))(hc:X.calm=true)(hex:X.ex=[]:=by rfl)(hxn:x=c.nm:=by rfl)(hg:Gl X x:=by rfl)(hdb:(x==("__debug__":Str))=false:=by decide)
 (hs:starEach [e] X.env=(false,eval e X.env)::starEach [] X.env:=by rfl):PQ X (.Raise (some (.Call (.Name x np) [e] [] cpos)) none pos) (z7l c):=by
 refine⟨fun pins s σ H F Γ I fo rl _=>?_⟩
 subst hxn
 obtain⟨bm,N,nm,q,bs,hdct,sn,sub,ab,col,dd,k0,k1,k2,k3,k5,mN,hC,hN,hni,T⟩:=x1u I.mod.kin hX.ex
 refine wpAny_Raise_call_subT (C:=C) (nm:=nm) (q:=q) (N:=N) (bs:=bs) (bm:=bm) (hdct:=hdct) (sn:=sn) (sub:=sub) (ab:=ab) (col:=col) (dd:=dd) (k0:=k0) (k1:=k1) (k2:=k2) (k3:=k3) (k5:=k5)
  PySem.F.excBase_ValueError (mN:=mN) (T.hasType PySem.F.excBase_ValueError.hasBase) (I.ok.hd hc) (by rw[hs];rfl) hni (y0z I hg hX.mg ⟨rfl,?_⟩ hdb)
 rw[hs]
 refine Calls.evalArgs_plain (Calls.spliced_cons (wpAny_mono (he.run pins s σ H F Γ I fo rl (fun z=>nomatch z)) (fun u s1 ⟨d',v,H1,e1,I1,r1,S1,i1⟩=>Calls.spliced_nil ?_) fun x s1 ⟨c',H',e',_⟩=>by cases e'))
 refine⟨rfl,by show 1<=sizeLine;decide,I1.bk _ _ hC,hN.keeps I1.bk,T.keeps I1.bk,fun h' en M=>?_⟩
 obtain⟨t,hte,ht0,ht1⟩:=M.there
 have I2:Inv X pins σ H1 { s1 with heap:=h' }:=I1.kept (t':=s1.toks) fun b o q=>M.keeps b o q
 obtain⟨g1,g2,g3,g4⟩:=I1.gone hex M.new
 exact⟨c,Γ,σ,H1,F,rfl,⟨I2,en,C,_,_,rfl,hX.mg,x9y I1 M.new,g1,g2,g3,g4,hte,rfl,rfl,⟨_,rfl⟩,.inl rfl⟩,fo.same S1,rl.same S1,.of_same S1⟩
end
section
variable {K:PySem.W.Frag}{M:Model}{A:Around}{E:Value->Shared->Prop}{s:Shared}
end
structure XCls (K:PySem.W.Frag) (C:Addr):Prop where
 ga:PySem.W.findIn K (.ref C) "__getattribute__"=some (some (.builtin "BaseException.__getattribute__"))
 gn:PySem.W.findIn K (.ref C) "__getattr__"=some none
 cl:PySem.W.findIn K (.ref C) "__class__"=some (some (.builtin "object.__class__"))
 mo:PySem.W.mroIn K C (.type "object")=some true
 mb:PySem.W.mroIn K C (.type "BaseException")=some true
 ty:PySem.W.typeIn K (.ref C)=some (.type "type")
 is:(PySem.W.clsIn K C).isSome=true
section
variable {K:PySem.W.Frag}{prog:Program}{w:World}{A:Around}{E:Value->Shared->Prop}{s:Shared}{a C:Addr}{o:Obj}
end
section
variable {X:Cx}{pos p pn:Pos}
structure PCl (X:Cx) (es:List Expr) (vs:List Value):Prop where
 run:∀{E:Value->Shared->Prop} {pos:Pos} {pins:List (Addr×Obj)} {σ:St} {H:Hp} {s:Shared} {Q:List Value->Shared->Prop},Inv X pins σ H s->Q vs s->wpAny (model X.prog X.w) X.A (spliced (backTo pos (starEach es X.env))) Q E s
noncomputable def mk(X:Cx)(v:Value):Cx:={ X with A:=X.A.mark (some v),calm:=false }
end
section
variable {X:Cx}{pos np hpos:Pos}
structure ErrOk (X:Cx) (B:Addr):Prop where
 cl:XCls X.K B
 ns:∀(c:Er) (C:Addr),X.mg c.nm=some (.ref C)->PySem.W.nsIn X.K mainGlobals c.nm=some (some (.ref C))/\PySem.W.mroIn X.K C (.ref B)=some true
end
section
variable {X:Cx}{pos p pn:Pos}
end
section
variable {X:Cx}{e a b c:Expr}{g ga gb gc:G->R D}{pos pos':Pos}{es:List Expr}{gs:G->R (List D)}
end
section
variable {P:Program}{w:World}{K:PySem.W.Frag}{mg:Str->Option Value}{base:Heap}
theorem x5d{x qual:Str}{st:Stmt}{f:Addr}{fd:FuncData}{N ps:List Str}{k:Nat}(Fu:Fun K x qual st f fd)(S:FnScope N ps (z0d st))(hb:z1s K fd ps []):FnD P w K mg base (k+1) f fd ps (fun _=>.no):=by
 refine⟨?_,hb,Fu.kp⟩
 obtain⟨oc,od,kV,doc,pm,an,cdv,ct,osl,rfl,lk,hcd⟩:=Fu.ex
 exact x4d lk hcd S (fun vs H Q E h=>absurd rfl h.choose_spec.2.1) fun A outer s H vs Q E hr hsp=>absurd rfl hsp.choose_spec.2.1
end
section
variable {X:Cx}{e a b c:Expr}{g ga gb gc:G->R D}{pos pos' p p2:Pos}{es:List Expr}{gs:G->R (List D)}{lo hi:Option Expr}{gl gh:G->R (Option Int)}
noncomputable def x9k(K:PySem.W.Frag):R2:=fun x y H Q=>∃l b xs zs,x = .ref l/\y = .ref b/\SqL K H l xs/\SqL K H b zs/\xs.length+zs.length<=sizeLine/\∀p,H p=none->Q (.ref p) (upd H p (.lst (xs++zs)))
theorem x6e:OpR X (binaryOp .Add) (x9k X.K):=by
 intro pins s σ H x y v u Q I rx ry h
 obtain⟨l,b,xs,zs,rfl,rfl,hH,hB,hz,q⟩:=h
 cases rx
 cases ry
 obtain⟨i1,r1,pl1,_⟩:=I.list hH
 obtain⟨i2,r2,pl2,_⟩:=I.list hB
 have n1:=r1.length
 have n2:=r2.length
 obtain⟨⟨c1,d1,t1,s1⟩,o1,k1,m1,j1⟩:=pl1.isList
 obtain⟨⟨c2,d2,t2,s2⟩,o2,k2,m2,j2⟩:=pl2.isList
 simp only at k1 j1 k2 j2
 subst k1 j1 k2 j2
 refine concat_meets ⟨_,o1,rfl⟩ ⟨_,o2,rfl⟩ noFill_list_add seq_list_add PySem.F.slot_list_add PySem.F.entry_list_add (PySem.F.args_list_add_2 _ _) (list_addW l b i1.toArray i2.toArray m1 m2 d1 d2 s1 s2 (by simp only[List.size_toArray];lia)) ⟨o1,o2,?_⟩
 have ea:i1.toArray++i2.toArray=(i1++i2).toArray:=by simp
 rw[ea]
 exact⟨.ref _,_,I.lnew (t':=s.toks) (r1.append r2) (by rw[List.length_append];lia),rfl,q _ I.fresh⟩
theorem y5y(ha:PD X a ga)(hb:PD X b gb):PF X (.BinOp a .Add b pos) (z9k ga gb):=by
 refine⟨fun pins s σ H F Γ I fo rl hg=>?_⟩
 refine wpAny_BinOp (wpAny_mono (ha.run pins s σ H F Γ I fo rl (R.left hg)) (fun v s1 ⟨dx,x,H1,e1,I1,r1,S1,i1⟩=>?_) fun _ _ x=>x.bind _)
 have hg1:=R.next hg e1
 refine wpAny_mono (hb.run pins s1 σ H1 F Γ I1 (fo.same S1) (rl.same S1) (R.left hg1)) (fun u s2 ⟨dy,y,H2,e2,I2,r2,S2,i2⟩=>?_) fun _ _ x=>z1n.later e1 S1 (x.bind _)
 have hgx:=R.next hg1 e2
 have i1':=i1.same S2
 have key:∀xs ys,dx = .lst xs->dy = .lst ys->∃zx zy,x = .ref zx/\y = .ref zy/\∃vx vy,SqL X.K H2 zx vx/\SqL X.K H2 zy vy/\IsAll X.K H2 xs vx/\IsAll X.K H2 ys vy:=fun xs ys q1 q2=>by
  subst q1 q2
  obtain⟨zx,vx,rfl,a1,a2⟩:=Is.lst_iff.mp i1'
  obtain⟨zy,vy,rfl,b1,b2⟩:=Is.lst_iff.mp i2
  exact⟨zx,zy,rfl,rfl,vx,vy,a1,b1,a2,b2⟩
 have both:∃xs ys,dx = .lst xs/\dy = .lst ys:=by
  cases dx with
  | lst xs =>
    cases dy with
    | lst ys=>exact⟨xs,ys,rfl,rfl⟩
    | _=>exact absurd rfl hgx
  | _=>cases dy<;>exact absurd rfl hgx
 obtain⟨xs,ys,rfl,rfl⟩:=both
 obtain⟨zx,zy,rfl,rfl,vx,vy,a1,b1,a2,b2⟩:=key xs ys rfl rfl
 obtain⟨⟨hc,hn⟩,e3⟩:=R.guard_ne (show R.guard (xs.length+ys.length<=1000/\D.noLs (xs++ys)=true) (.ok (xs++ys)) ≠ .no from hgx)
 have hz:vx.length+vy.length<=sizeLine:=by rw[<-a2.length,<-b2.length];exact z6u hc
 refine wpAny_mono (x6e (X:=X.nox) pins s2 σ H2 (.ref zx) (.ref zy) _ _ (fun z H'=>∃l,z = .ref l/\H2 l=none/\H'=upd H2 l (.lst (vx++vy))) (I2.wish _) r1 r2 ⟨zx,zy,vx,vy,rfl,rfl,a1,b1,hz,fun l hl=>⟨l,rfl,hl,rfl⟩⟩) (fun u s' ⟨z,H',I',rz,l,ez,hl,eH⟩=>?_) fun _ _ z=>False.elim z
 subst ez eH
 have S3:=z1x hl (.lst (vx++vy))
 exact⟨xs++ys,l,vx++vy,_,(R.step e1 _).trans ((R.step e2 _).trans e3),I'.unwish,rz,(S1.trans S2).trans S3,S1.free (S2.free hl),z0v,IsAll.hid ((((fo.same S1).same S2).same S3).cons z0v) _ _ hn ((a2.append b2).same S3)⟩
end
section
variable {X:Cx}{e a b c:Expr}{g ga gb gc:G->R D}{lo:Option Expr}{gl:G->R (Option Int)}{pos p2 p3:Pos}
end
section
variable {X:Cx}
theorem x3r(hc:X.calm=true):z8a X (.builtin "max") (fun xs H Q=>∃(a:Addr) (ns:List Int),xs=[.ref a]/\ns≠[]/\SqL X.K H a (ns.map V.int)/\Q (.int (maxI ns)) H):=by
 intro pins s σ H xs us Q I r h
 obtain⟨a,ns,rfl,hne,hq,q⟩:=h
 obtain⟨u,rfl,ru⟩:=y3v r
 cases ru
 obtain⟨its,rv,pl,_⟩:=I.list hq
 have hi:IntsAre its ns:=y2e rv
 obtain⟨ys,hy⟩:=hi.allInts.items
 have hl:=pl.isList
 rw[hy] at hl
 have hn:numsOf its.toArray.toList=ns:=by rw[show its.toArray.toList=its from rfl,hi.numsOf]
 rw[hy,nums_intItems] at hn
 have hlen:ys.size=ns.length:=by rw[<-hn,List.length_map,Array.length_toList]
 have hpos:0<ys.size:=by rw[hlen];exact List.length_pos_iff.mpr hne
 refine max_intList (I.ok.hd hc) hl hpos fun v h' tk hv hk=>?_
 obtain⟨t,rfl⟩:=intItems_at hv
 obtain⟨h1,h2⟩:=argBest_gt (numAt ys) (ys.size-1)
 have em:numAt ys (argBest (fun i j=>decide (numAt ys i>numAt ys j)) (ys.size-1))=maxI ns:=by
  refine y4s ?_ fun b hb=>?_
  ·rw[<-hn,numAt_eq];exact getD_mem (by rw[List.length_map,Array.length_toList];lia)
  ·rw[<-hn] at hb
   obtain⟨j,hj,rfl⟩:=mem_getD hb
   rw[List.length_map,Array.length_toList] at hj
   rw[<-numAt_eq];exact h2 j (by lia)
 rw[em]
 exact⟨.int (maxI ns),H,I.kept hk,⟨t,rfl⟩,q⟩
theorem x6y(hc:X.calm=true):z9x X (.builtin "max") y9b:=by
 refine⟨_,z8a.or (x3r (X:=X.nox) hc) (x2g (X:=X.nox) hc),fun H xs ds i hg=>?_⟩
 unfold y9b at hg
 split at hg
 ·rename_i ys
  obtain⟨v,rfl,h⟩:=z7j i
  obtain⟨a,zs,rfl,h1,h2⟩:=Is.lst_iff.mp h
  cases q:ints? ys with
  | none=>rw[q] at hg;exact absurd rfl hg
  | some ns =>
    cases ns with
    | nil=>rw[q] at hg;exact absurd rfl hg
    | cons n ns =>
      have:=ints?_some q
      subst this
      rw[h2.ints_eq] at h1
      exact .inl ⟨a,n::ns,rfl,by simp,h1,_,by unfold y9b;simp only[q],.refl _,Is.int_iff.mpr rfl⟩
 ·rename_i i' j'
  obtain⟨v,v',rfl,h,h'⟩:=x5a i
  exact .inr ⟨i',j',by rw[Is.int_iff.mp h,Is.int_iff.mp h'],_,rfl,.refl _,Is.int_iff.mpr rfl⟩
 ·exact absurd rfl hg
end
section
variable {X:Cx}{e a b c:Expr}{g ga gb gc:G->R D}{lo:Option Expr}{st:Expr}{gl gt:G->R (Option Int)}{pos p2 p3:Pos}
end
theorem Is.isNon{K:PySem.W.Frag}{H:Hp}{d:D}{v:V}(h:Is K H d v):decide (v = .non)=d.isNon:=by
 cases d with
 | non=>rw[Is.non_iff.mp h];rfl
 | bl b=>rw[Is.bl_iff.mp h];rfl
 | int b=>rw[Is.int_iff.mp h];rfl
 | str b=>unfold Is at h;rw[h];rfl
 | tup ds=>obtain⟨a,xs,rfl,_⟩:=Is.tup_iff.mp h;rfl
 | lst ds=>obtain⟨a,xs,rfl,_⟩:=Is.lst_iff.mp h;rfl
 | dct=>unfold Is at h;obtain⟨a,ob,rfl,_⟩:=h;rfl
 | exc c=>unfold Is at h;obtain⟨a,ob,C,rfl,_⟩:=h;rfl
section
variable {X:Cx}{a b:Expr}{pos:Pos}
theorem x0s:OpD X (compareOp .IsNot) y9a:=by
 refine⟨_,x6b (X:=X.nox),fun H x y dx dy ix iy hg=>?_⟩
 cases dy with
 | non=>exact⟨Is.non_iff.mp iy,.bl (!dx.isNon),rfl,.refl _,Is.bl_iff.mpr (by rw[ix.isNon])⟩
 | _=>exact absurd rfl hg
end
section
variable {X:Cx}{e a b c:Expr}{g ga gb gc:G->R D}{pos pos' p p2:Pos}{es:List Expr}{gs:G->R (List D)}
theorem x4e{a b:Int}(ha:0<=a)(hb:0<=b)(h:b≥((Builtin.Int.intBits a:Nat):Int)):a/2^b.toNat=0:=by
 obtain⟨n,rfl⟩:=Int.eq_ofNat_of_zero_le ha
 obtain⟨k,rfl⟩:=Int.eq_ofNat_of_zero_le hb
 have hk:n<2^k:=by
  unfold Builtin.Int.intBits at h
  by_cases hn:n=0
  ·subst hn;exact Nat.two_pow_pos k
  ·rw[Int.natAbs_natCast,if_neg (by simpa using hn)] at h
   exact(Nat.log2_lt hn).mp (by lia)
 rw[Int.toNat_natCast]
 exact Int.ediv_eq_zero_of_lt (Int.natCast_nonneg n) (by exact_mod_cast hk)
theorem x8i:OpD X (binaryOp .RShift) dShr:=od_I (C:=fun i j=>0<=i/\0<=j) (d:=fun i j=>.int (i/2^j.toNat)) (fun _ _ _ _=>Is.int_iff.mpr rfl) (v:=fun i j=>.int (i/2^j.toNat)) (opI fun i j _ _ _ _ _ hc q=>by
 have h1:(0:Int)<=i:=hc.1
 have h2:(0:Int)<=j:=hc.2
 by_cases hb:j≥((Builtin.Int.intBits i:Nat):Int)
 ·refine AutoIntOps.rshift_1 (by lia) hb ?_
  rw[if_neg (by lia),<-x4e h1 h2 hb]
  exact q
 ·refine AutoIntOps.rshift_2 (by lia) hb ?_
  rw[Int.fdiv_eq_ediv_of_nonneg i (Int.le_of_lt (Int.pow_pos (by lia)))]
  exact q)
theorem x5y{apos cpos:Pos}(ha:PD X a ga)
 (hbase:attributeBase a "bit_length" X.env (eval a X.env)=eval a X.env:=by rfl)
 (hfew:((backTo cpos (starEach [] X.env)).all (fun x=>!x.1)&&(backToKw cpos (keywordEach [] X.env)).all (fun x=>x.1.isSome)
   && decide (([]:List Expr).length+([]:List Keyword).length+(if ([]:List Keyword).isEmpty then 0 else 1)<30))=true:=by rfl)
 (hline:(apos.endLine==cpos.line)=true:=by rfl) (hs:starEach [] X.env=[]:=by rfl) :
 PD X (.Call (.Attribute a "bit_length" apos) [] [] cpos) (y6k ga):=by
 refine⟨fun pins s σ H F Γ I fo rl hg=>?_⟩
 refine wpAny_Call_method_late hbase hfew hline rfl (wpAny_mono (ha.run pins s σ H F Γ I fo rl (R.left hg)) (fun v s1 ⟨d,x,H1,e1,I1,r1,S1,i1⟩=>?_) fun _ _ x=>x.bind _)
 have hg1:=R.next hg e1
 cases d with
 | int i =>
   rw[Is.int_iff.mp i1] at r1
   obtain⟨t,rfl⟩:=r1
   refine⟨"int",_,PySem.F.plainAttrs_int,slot_int_bit_length,type_int_bit_length,typeIs_int _ _ _,(fun _ e=>nomatch e),?_⟩
   rw[hs]
   refine Calls.callWith_builtin rfl ?_
   show wpAny _ _ (evalArgs (Value.builtin "int.bit_length") true [] []) _ _ s1
   refine PyProof.Rows.evalArgs_nil3 ?_
   exact call_int_bit_length (Post.bind e1 S1 ⟨.int (x2j i),.int (x2j i),H1,rfl,I1.tok _,⟨_,rfl⟩,.refl _,Is.int_iff.mpr rfl⟩)
 | _=>exact absurd rfl hg1
end
section
variable {X:Cx}{e a b c:Expr}{g ga gb gc:G->R D}{pos pos' p p2:Pos}{es:List Expr}{gs:G->R (List D)}
structure PADr (X:Cx) (es:List Expr) (g:G->R (List D)):Prop where
 run:∀(pos:Pos) (pins:List (Addr×Obj)) (s:Shared) (σ:St) (H:Hp) (F:List Addr) (Γ:G),Inv X pins σ H s->FOk H F->Rel X.K H F Γ σ->g Γ ≠ .no ->
  wpAny (model X.prog X.w) X.A (spliced (backTo pos (starEach es X.env))) (fun us s'=>∃ds vs H',g Γ = .ok ds/\Inv X pins σ H' s'/\Vals vs us/\Same H H'/\IsAll X.K (hid F H') ds vs) (z1n X pins σ H (g Γ)) s
theorem y7h:PADr X [] gNil:=⟨fun pos pins s σ H F Γ I fo rl hg=>Calls.spliced_nil ⟨[],[],H,rfl,I,.nil,.refl _,IsAll.nil⟩⟩
theorem z4p(ha:PDr X e g)(hr:PADr X es gs)(hs:starEach (e::es) X.env=(false,eval e X.env)::starEach es X.env:=by rfl):PADr X (e::es) (gCons g gs):=by
 refine⟨fun pos pins s σ H F Γ I fo rl hg=>?_⟩
 rw[hs]
 show wpAny _ _ (spliced ((false,eval e X.env)::backTo pos (starEach es X.env))) _ _ s
 refine Calls.spliced_cons (wpAny_mono (ha.run pins s σ H F Γ I fo rl (R.left hg)) (fun u s1 ⟨d,x,H1,e1,I1,r1,S1,i1⟩=>?_) fun _ _ x=>x.bind _)
 have hg1:=R.next hg e1
 refine wpAny_mono (hr.run pos pins s1 σ H1 F Γ I1 (fo.same S1) (rl.same S1) (R.left hg1)) (fun us s2 ⟨ds,vs,H2,e2,I2,r2,S2,i2⟩=>?_) fun _ _ x=>z1n.later e1 S1 (x.bind _)
 exact⟨d::ds,x::vs,H2,(R.step e1 _).trans (R.step e2 _),I2,.cons r1 r2,S1.trans S2,IsAll.cons (i1.same (z1y S2)) i2⟩
theorem x8a(ha:PDr X a ga)(hb:PD X b gb)(hs:x2r b:=by intro _ _;rfl):PDr X (.Subscript a b pos) (gBin dIx ga gb):=by
 refine⟨fun pins s σ H F Γ I fo rl hg=>?_⟩
 refine Subscript_ (wpAny_mono (ha.run pins s σ H F Γ I fo rl (R.left hg)) (fun v s1 ⟨dx,x,H1,e1,I1,r1,S1,i1⟩=>?_) fun _ _ x=>x.bind _)
 have hg1:=R.next hg e1
 refine wpAny_mono (hb.run pins s1 σ H1 F Γ I1 (fo.same S1) (rl.same S1) (R.left hg1)) (fun u s2 ⟨dy,y,H2,e2,I2,r2,S2,i2⟩=>?_) fun _ _ x=>z1n.later e1 S1 (x.bind _)
 have hg2:=R.next hg1 e2
 have i1':=i1.same (z1y S2)
 have fin:∀(d:D) (z:V),dIx dx dy = .ok d->Is X.K (hid F H2) d z->∀(w':Value) (s':Shared),EP X.nox pins σ (fun z' H'=>z'=z/\H'=H2) w' s'->∃d v H',gBin dIx ga gb Γ = .ok d/\Inv X pins σ H' s'/\RelV v w'/\Same H H'/\Is X.K (hid F H') d v:=fun d z ed iz w' s' ⟨z',H',I',rz,ez,eH⟩=>by
  subst ez eH
  exact⟨d,z',H',(R.step e1 _).trans ((R.step e2 _).trans ed),I'.unwish,rz,S1.trans S2,iz⟩
 cases dx with
 | tup ds =>
   cases dy with
   | int i =>
     obtain⟨p,xs,rfl,h1,h2⟩:=Is.tup_iff.mp i1'
     have h1':=z6e (z4a (F:=F)) h1
     cases q:atI ds i with
     | none=>exact absurd (show dIx (.tup ds) (.int i) = .no by simp only[dIx,q]) hg2
     | some d =>
       obtain⟨z,ez,iz⟩:=h2.atI q
       exact wpAny_mono (x4y (X:=X.nox) a b pins s2 σ H2 _ y v u _ (I2.wish _) r1 r2 ⟨p,xs,i,z,rfl,Is.int_iff.mp i2,h1',ez,rfl,rfl⟩ (hs _ _)) (fun w' s' h=>fin d z (by show dIx (.tup ds) (.int i) = .ok d;simp only[dIx,q]) iz w' s' h) fun _ _ z=>False.elim z
   | _=>exact absurd rfl hg2
 | lst ds =>
   cases dy with
   | int i =>
     obtain⟨p,xs,rfl,h1,h2⟩:=Is.lst_iff.mp i1'
     have h1':=Same.seq (z4a (F:=F)) h1
     cases q:atI ds i with
     | none=>exact absurd (show dIx (.lst ds) (.int i) = .no by simp only[dIx,q]) hg2
     | some d =>
       obtain⟨z,ez,iz⟩:=h2.atI q
       exact wpAny_mono (x1j (X:=X.nox) a b pins s2 σ H2 _ y v u _ (I2.wish _) r1 r2 ⟨p,xs,i,z,rfl,Is.int_iff.mp i2,h1',ez,rfl,rfl⟩ (hs _ _)) (fun w' s' h=>fin d z (by show dIx (.lst ds) (.int i) = .ok d;simp only[dIx,q]) iz w' s' h) fun _ _ z=>False.elim z
   | _=>exact absurd rfl hg2
 | _=>exact absurd rfl hg2
end
noncomputable def y0e(N:List Str)(env:Env)(x0 y:Str)(scope:Scope):Bool :=
 decide (scope.kind = .function)&&scope.names.all (fun p=>decide (p.2 ≠ .cell)&&(decide (p.2 ≠ .local)||decide (scope.names.lookup p.1=some .local))&&(decide (p.2 ≠ .free)||((env.cells.lookup p.1).isSome&&(decide (env.scope.names.lookup p.1=some .cell)||decide (env.scope.names.lookup p.1=some .free)))))
  && decide (scope.names.lookup x0=some .local/\scope.names.lookup y=some .local/\x0≠y/\(x0 ∉ N∨y ∉ N))&&decide (scope.names.lookup (("":Str))=none)&&N.all (fun z=>decide (scope.names.lookup z≠some .local)||decide (z=x0∨z=y))&&decide ((∀z∈N,z≠("":Str))∨(x0 ∉ N/\y ∉ N))
structure CompOk2 (N:List Str) (env:Env) (x0 y:Str) (scope:Scope):Prop where
 kind:scope.kind = .function
 nocell:∀p∈scope.names,p.2 ≠ .cell
 names:∀p∈scope.names,p.2 = .local->scope.names.lookup p.1=some .local
 free:∀p∈scope.names,p.2 = .free->(∃c,env.cells.lookup p.1=some c)/\(env.scope.names.lookup p.1=some .cell∨env.scope.names.lookup p.1=some .free)
 loc:scope.names.lookup x0=some .local/\scope.names.lookup y=some .local/\x0≠y/\(x0 ∉ N∨y ∉ N)
 nil:scope.names.lookup (("":Str))=none
 only:∀z∈N,scope.names.lookup z=some .local->z=x0∨z=y
 none:(∀z∈N,z≠("":Str))∨(x0 ∉ N/\y ∉ N)
theorem y2i{N:List Str}{env:Env}{x0 y:Str}{scope:Scope}(h:y0e N env x0 y scope=true):CompOk2 N env x0 y scope:=by
 unfold y0e at h
 simp only[Bool.and_eq_true,List.all_eq_true,Bool.or_eq_true,decide_eq_true_eq] at h
 obtain⟨⟨⟨⟨⟨h1,h2⟩,h3⟩,h4⟩,h5⟩,h6⟩:=h
 refine⟨h1,fun p hp=>(h2 p hp).1.1,fun p hp e=>((h2 p hp).1.2).resolve_left fun z=>z e,fun p hp e=>?_,h3,h4,fun z hz e=>(h5 z hz).resolve_left fun q=>q e,h6⟩
 have q:=((h2 p hp).2).resolve_left fun z=>z e
 exact⟨Option.isSome_iff_exists.mp q.1,q.2⟩
noncomputable def z1q(X:Cx)(x0 y:Str)(scope:Scope)(C:Addr)(s₂:Shared)(H₂:Hp)(fp:List Addr)(pn:List (Addr×Obj)):Cx :=
 { X with N:=x0::y::X.N.map (fun z=>if z=x0∨z=y then ("":Str) else z),s₀:=s₂,H₀:=H₂,env:=compEnvC scope (capt X.env scope.names []) C X.env,outer:=X.stack,ex:=fp,fn:=fun _=>false,pn:=pn,xe:=fun _ _=>False }
theorem y9h{X:Cx}{x0 y:Str}{scope:Scope}{C Dd:Addr}{fp:List Addr}{pins pl:List (Addr×Obj)}{σ σ':St}{H₂ H':Hp}{s₂ s1:Shared}{xs:List V}{its:List Value}{n:Nat}(I:Inv X pins σ H₂ s₂)
 (J:Inv (z1q X x0 y scope C s₂ H₂ fp (X.pn++pins)) pl σ' H' s1) (hD:s₂.heap.objs.size<=Dd) (hn:H' Dd=none) (hd:s1.heap.get? Dd=some { cls:=.type "list",data:=.seq its.toArray n }) (rv:Vals xs its) (hz:xs.length<=sizeLine) (hf:∀b∈fp,FpOk X pins H₂ b) :
 Inv X pins σ (upd H' Dd (.lst xs)) s1:=by
 have os:s1.os=s₂.os:=J.os
 have un:Un (frs X.stack) fp H₂ H' s₂.heap s1.heap:=J.base
 have hok:HOk X.prog X.w H' s1.heap:=J.hok
 have bare:AllBare s1.gens:=J.bare
 clear J
 obtain⟨hh,gg,dd,tt,os'⟩:=s1
 obtain rfl:os'=s₂.os:=os
 have neD:∀b o,s₂.heap.get? b=some o->b≠Dd:=fun b o e=>Nat.ne_of_lt (Nat.lt_of_lt_of_le (Heap.lt_size e) hD)
 refine I.call (h':=hh) (g':=gg) (d':=dd) (t':=tt) (ch:=fp) ⟨un.keep,un.slot,fun b o e n' hx=>?_,un.there,fun b ys e=>?_,fun b o u e=>?_,fun b ps e=>?_⟩ (y3m hok hn ⟨hz,its,n,rv,hd⟩) bare fun b hb=>?_
 ·rw[z0q (neD b o e)];exact un.free b o e n' hx
 ·have q:=un.tups b ys e
  rw[z0q (z0p q hn)];exact q
 ·have q:=un.frzs b o u e
  rw[z0q (z0p q hn)];exact q
 ·obtain⟨more,q⟩:=un.tbls b ps e
  exact⟨more,by rw[z0q (z0p q hn)];exact q⟩
 ·obtain⟨f0,f1,f2,f3,f4,f5⟩:=hf b hb
  exact⟨f3.imp_right fun z=>Heap.get?_none_of_le z,f1,f4,f5⟩
theorem x4j{X:Cx}{x0 y:Str}{scope:Scope}{C:Addr}{fp:List Addr}{pins:List (Addr×Obj)}{σ:St}{H₂:Hp}{s₂:Shared}(I:Inv X pins σ H₂ s₂)(c:CompOk2 X.N X.env x0 y scope)(hC:s₂.heap.objs.size<=C)(hf:∀b∈fp,FpOk X pins H₂ b)(ho:∀b∈fp,b<s₂.heap.objs.size) :
 (z1q X x0 y scope C s₂ H₂ fp (X.pn++pins)).Ok:=by
 have cells:∀x k,(capt X.env scope.names []).lookup x=some k->X.env.cells.lookup x=some k:=fun x k e=>by
  rcases z3r scope.names [] (PySem.mem_of_lookup e) with q | q
  ·simp at q
  ·exact q
 refine⟨I.ok.mod,c.kind,I.ok.glob,I.ok.blt,hC,fun x z k h1 h2=>I.ok.inj x z k (cells x k h1) (cells z k h2),fun x hx=>?_,fun x k h _=>absurd h (by simp[z1q]),I.ok.hd,I.ok.frames,.inl rfl,fun b hb=>?_,I.bs,Nat.le_trans I.ok.bsz I.sz,fun b o e hb=>?_,fun b hb z=>?_,I.stack,I.stkFree⟩
 ·have hx':(relabel scope X.env).names.lookup x=some .cell∨(relabel scope X.env).names.lookup x=some .free:=hx
  have hm:∃k,(x,k)∈scope.names/\(k = .free∨k = .cell):=by
   rcases hx' with q | q <;>
   ·have m:=PySem.mem_of_lookup q
    unfold relabel at m
    simp only[List.mem_map] at m
    obtain⟨⟨n,k⟩,hm,e⟩:=m
    by_cases hc:(k==NameKind.free&&X.env.scope.kind == .function&&X.env.kindOf n==some .cell)=true
    ·rw[if_pos hc] at e
     have e1:n=x:=congrArg Prod.fst e
     subst e1
     rw[Bool.and_eq_true,Bool.and_eq_true] at hc
     exact⟨k,hm,.inl (y8t hc.1.1)⟩
    ·rw[if_neg hc] at e
     have e1:n=x:=congrArg Prod.fst e
     have e2:=congrArg Prod.snd e
     dsimp only at e2
     subst e1 e2
     exact⟨_,hm,by first | exact .inr rfl | exact .inl rfl⟩
  obtain⟨k,hm,hk⟩:=hm
  rcases hk with rfl | rfl
  ·obtain⟨⟨a,ea⟩,_⟩:=c.free _ hm rfl
   obtain⟨c',h1,_⟩:=z1l (z5d ea scope.names [] hm)
   exact⟨c',h1⟩
  ·exact absurd rfl (c.nocell _ hm)
 ·refine⟨Nat.ne_of_lt (Nat.lt_of_lt_of_le (ho b hb) hC),fun x k e=>(hf b hb).2.2.2.2.1 x k (cells x k e)⟩
 ·rcases(hf b hb).2.2.2.1 with z | z
  ·exact I.ok.noex b o e z
  ·exact absurd (Nat.lt_of_lt_of_le (Nat.lt_of_lt_of_le (Heap.lt_size e) I.ok.bsz) z) (Nat.lt_irrefl _)
 ·rcases List.mem_cons.mp (I.stkSub b z) with q | q
  ·exact(hf b hb).2.1 q
  ·exact(hf b hb).2.2.1 q
section
variable {X:Cx}{x0 y:Str}{scope:Scope}
theorem y6r{C Dd:Addr}{fp:List Addr}{pins:List (Addr×Obj)}{σ:St}{H₂:Hp}{s₂:Shared}{h₁:Heap}{tk:Nat}{oD:Obj}{m:Str->Option Value}(I:Inv X pins σ H₂ s₂)(c:CompOk2 X.N X.env x0 y scope)(hC:s₂.heap.objs.size<=C)(hD:s₂.heap.objs.size<=Dd)(hDC:Dd≠C)(hf:∀b∈fp,FpOk X pins H₂ b)(ho:∀b∈fp,b<s₂.heap.objs.size)
 (old:∀b o,s₂.heap.get? b=some o->h₁.get? b=some o) (hns:h₁.Ns C m) (hd:h₁.get? Dd=some oD) (hdd:∀v,oD.data ≠ .cell v) :
 Inv (z1q X x0 y scope C s₂ H₂ fp (X.pn++pins)) [(Dd,oD)] (none::none::σ) H₂ { s₂ with heap:=h₁,toks:=tk }:=by
 have cells:∀x k,(capt X.env scope.names []).lookup x=some k->X.env.cells.lookup x=some k:=fun x k e=>by
  rcases z3r scope.names [] (PySem.mem_of_lookup e) with q | q
  ·simp at q
  ·exact q
 have nstk:∀b,s₂.heap.objs.size<=b->b ∉ frs X.stack:=fun b hb z=>by
  rcases List.mem_cons.mp (I.stkSub b z) with q | q
  ·exact absurd (Nat.lt_of_lt_of_le I.lt (by rw[<-q];exact hb)) (Nat.lt_irrefl _)
  ·exact I.nofs hb q
 refine⟨x4j I c hC hf ho,rfl,I.bare,Un.kept old,⟨m,hns,fun i x v e1 e2 e3=>?_⟩,fun x k e=>?_,I.hok.fresh hC,fun x k e=>I.freeC x k (cells x k e),fun p hp=>?_,I.hok.kept old,?_⟩
 ·cases i with
  | zero=>simp at e2
  | succ i =>
  cases i with
  | zero=>simp at e2
  | succ i =>
    have e2':σ[i]? = some (some v):=by simpa using e2
    have e1':(X.N.map (fun z=>if z=x0∨z=y then ("":Str) else z))[i]? = some x:=by simpa [z1q] using e1
    rw[List.getElem?_map] at e1'
    cases hz:X.N[i]? with
    | none=>rw[hz] at e1';cases e1'
    | some z =>
      rw[hz] at e1'
      simp only[Option.map_some,Option.some.injEq] at e1'
      have e3':Vis (relabel scope X.env) x:=e3
      have look0:∀{k:NameKind},(relabel scope X.env).names.lookup x=some k->∃k',(x,k')∈scope.names/\(k'=k∨(k' = .free/\k = .cell)):=fun {k} q=>by
       have m':=PySem.mem_of_lookup q
       unfold relabel at m'
       simp only[List.mem_map] at m'
       obtain⟨⟨n,k0⟩,hm,e⟩:=m'
       by_cases hc:(k0==NameKind.free&&X.env.scope.kind == .function&&X.env.kindOf n==some .cell)=true
       ·rw[if_pos hc] at e
        have e1:n=x:=congrArg Prod.fst e
        have e2:=congrArg Prod.snd e
        dsimp only at e2
        subst e1 e2
        rw[Bool.and_eq_true,Bool.and_eq_true] at hc
        exact⟨k0,hm,.inr ⟨y8t hc.1.1,rfl⟩⟩
       ·rw[if_neg hc] at e
        have e1:n=x:=congrArg Prod.fst e
        have e2:=congrArg Prod.snd e
        dsimp only at e2
        subst e1 e2
        exact⟨_,hm,.inl rfl⟩
      have inames:∀k',(x,k')∈scope.names->x≠("":Str):=fun k' hm z=>by
       subst z
       obtain⟨c',h1,_⟩:=z1l hm
       rw[c.nil] at h1;cases h1
      have ne:x≠("":Str):=by
       rcases e3' with q | q | q<;>(obtain⟨k',hm,_⟩:=look0 q;exact inames k' hm)
      by_cases hzy:z=x0∨z=y
      ·rw[if_pos hzy] at e1';exact absurd e1'.symm ne
      ·rw[if_neg hzy] at e1'
       subst e1'
       have fr:(z,NameKind.free)∈scope.names:=by
        rcases e3' with q | q | q
        ·obtain⟨k',hm,hk⟩:=look0 q
         rcases hk with rfl | ⟨_,hk⟩
         ·exact absurd (c.only z (List.mem_of_getElem? hz) (c.names _ hm rfl)) hzy
         ·cases hk
        ·obtain⟨k',hm,hk⟩:=look0 q
         rcases hk with rfl | ⟨rfl,_⟩
         ·exact absurd rfl (c.nocell _ hm)
         ·exact hm
        ·obtain⟨k',hm,hk⟩:=look0 q
         rcases hk with rfl | ⟨_,hk⟩
         ·exact hm
         ·cases hk
       obtain⟨⟨ca,eca⟩,hv⟩:=c.free _ fr rfl
       obtain⟨m0,hn0,hl0⟩:=I.loc
       obtain⟨u,ru,lk⟩:=hl0 i z v hz e2' (.inr hv)
       refine⟨u,ru,?_⟩
       rcases lk with ⟨q,_⟩ | ⟨_,k,ek,hk⟩
       ·exfalso
        have q':X.env.scope.names.lookup z=some .local:=q
        rcases hv with w | w<;>(rw[q'] at w;cases w)
       ·obtain⟨c',h1,_⟩:=z1l (z5d ek scope.names [] fr)
        have h2:=cells z c' h1
        rw[ek] at h2;cases h2
        refine .inr ⟨?_,k,h1,?_⟩
        ·rcases e3' with q | q | q
         ·exfalso
          obtain⟨k',hm,hk'⟩:=look0 q
          rcases hk' with rfl | ⟨_,hk'⟩
          ·exact hzy (c.only z (List.mem_of_getElem? hz) (c.names _ hm rfl))
          ·cases hk'
         ·exact .inl q
         ·exact .inr q
        ·obtain⟨o,ho',hd'⟩:=hk
         exact⟨o,old _ _ ho',hd'⟩
 ·obtain⟨v,o,ho',hd'⟩:=I.cell x k (cells x k e)
  exact⟨v,o,old _ _ ho',hd'⟩
 ·rcases List.mem_append.mp hp with q | q
  ·obtain⟨h1,h2,h3,h4,h5⟩:=I.pin p q
   refine⟨old _ _ h1,h2,Nat.ne_of_lt (Nat.lt_of_lt_of_le (Heap.lt_size h1) hC),fun z=>?_,h5⟩
   rcases List.mem_cons.mp (I.stkSub p.1 z) with q' | q'
   ·exact h3 q'
   ·exact h4 q'
  ·have e:p=(Dd,oD):=by simpa using q
   subst e
   exact⟨hd,I.hok.fresh hD,hDC,nstk Dd hD,hdd⟩
 ·show σ.length+1+1=(x0::y::X.N.map _).length
  rw[List.length_cons,List.length_cons,List.length_map,I.len]
structure PC2 (X:Cx) (x0 y:Str) (scope:Scope) (ifs:List Expr) (elt:Expr) (f:D->D->G->R (Option D)):Prop where
 run:∀(C:Addr) (s₂:Shared) (H₂:Hp) (fp:List Addr) (pn:List (Addr×Obj)) (pins:List (Addr×Obj)) (s:Shared) (σ:St) (H:Hp) (F:List Addr) (Γ:G) (d d2:D),Inv (z1q X x0 y scope C s₂ H₂ fp pn) pins σ H s->FOk H F->Rel X.K H F (.ro d :: .ro d2::Γ) σ->(∃o,f d d2 Γ = .ok o) ->
  wpAny (model X.prog X.w) X.A (forIn ifs true fun c r=>if r=true then do let ok <-isTrue c (compEnvC scope (capt X.env scope.names []) C X.env) (eval c (compEnvC scope (capt X.env scope.names []) C X.env));pure (ForInStep.yield ok) else pure (ForInStep.yield r)) (fun ok s₃ =>
   if ok=true then wpAny (model X.prog X.w) X.A (eval elt (compEnvC scope (capt X.env scope.names []) C X.env)) (fun u s₄=>∃e v H',f d d2 Γ = .ok (some e)/\Inv (z1q X x0 y scope C s₂ H₂ fp pn) pins σ H' s₄/\RelV v u/\Same H H'/\Is X.K (hid F H') e v) (fun _ _=>False) s₃
   else f d d2 Γ = .ok none/\∃H',Inv (z1q X x0 y scope C s₂ H₂ fp pn) pins σ H' s₃/\Same H H') (fun _ _=>False) s
theorem y2y{elt:Expr}{ge:G->R D}(he:∀C s₂ H₂ fp pn,PDr (z1q X x0 y scope C s₂ H₂ fp pn) elt ge):PC2 X x0 y scope [] elt (z9w ge):=by
 refine⟨fun C s₂ H₂ fp pn pins s σ H F Γ d d2 I fo rl ⟨o,eo⟩=>?_⟩
 refine wpAny_tests_nil ?_
 rw[if_pos rfl]
 have hne:ge (.ro d :: .ro d2::Γ) ≠ .no:=fun z=>by unfold z9w at eo;rw[z] at eo;cases eo
 refine wpAny_mono ((he C s₂ H₂ fp pn).run pins s σ H F (.ro d :: .ro d2::Γ) I fo rl hne) (fun u s4 ⟨e,v,H',e1,I',rv,S,iv⟩=>⟨e,v,H',R.step e1 _,I',rv,S,iv⟩) fun x s' ⟨c,H',e1,_⟩=>?_
 unfold z9w at eo;rw[e1] at eo;cases eo
theorem x3k{elt c:Expr}{gc:G->R Bool}{ge:G->R D}(hc:∀C s₂ H₂ fp pn,PTD (z1q X x0 y scope C s₂ H₂ fp pn) c gc)(he:∀C s₂ H₂ fp pn,PDr (z1q X x0 y scope C s₂ H₂ fp pn) elt ge):PC2 X x0 y scope [c] elt (y2h gc ge):=by
 refine⟨fun C s₂ H₂ fp pn pins s σ H F Γ d d2 I fo rl ⟨o,eo⟩=>?_⟩
 have hne:gc (.ro d :: .ro d2::Γ) ≠ .no:=fun z=>by unfold y2h at eo;rw[z] at eo;cases eo
 refine wpAny_tests_one (wpAny_mono ((hc C s₂ H₂ fp pn).run pins s σ H F (.ro d :: .ro d2::Γ) I fo rl hne) (fun k s3 ⟨H1,e1,I1,S1⟩=>?_) fun x s' ⟨c',H',e1,_⟩=>?_)
 ·have eo':(if k=true then ge (.ro d :: .ro d2::Γ)>>=fun e=>R.ok (some e) else .ok none) = .ok o:=by
   unfold y2h at eo;rw[e1] at eo;exact eo
  cases k with
  | false =>
    rw[if_neg Bool.false_ne_true]
    exact⟨R.step e1 _,H1,I1,S1⟩
  | true =>
    rw[if_pos rfl] at eo' ⊢
    have hne2:ge (.ro d :: .ro d2::Γ) ≠ .no:=fun z=>by rw[z] at eo';cases eo'
    refine wpAny_mono ((he C s₂ H₂ fp pn).run pins s3 σ H1 F (.ro d :: .ro d2::Γ) I1 (fo.same S1) (rl.same S1) hne2) (fun u s4 ⟨e,v,H',e2,I',rv,S,iv⟩=>⟨e,v,H',(R.step e1 _).trans (R.step e2 _),I',rv,S1.trans S,iv⟩) fun x s' ⟨c',H',e2,_⟩=>?_
    rw[e2] at eo';cases eo'
 ·unfold y2h at eo;rw[e1] at eo;cases eo
noncomputable def JC2(K:PySem.W.Frag)(H:Hp)(F:List Addr)(J:It)(ds:List D):Prop:=∀H1,Same H H1 ->
 (∀i:Nat,i<ds.length->J.go i H1/\∀v H2,J.yld i H1 v H2->Same H1 H2/\∃d1 d2 q v1 v2,ds[i]? = some (.tup [d1,d2])/\v = .ref q/\SqT K H2 q [v1,v2]/\Is K (hid F H2) d1 v1/\Is K (hid F H2) d2 v2)/\J.stop ds.length H1
theorem x3l{prog:Program}{w:World}{A:Around}{Z:Result->Shared->Prop}{s0:Shared}{elt iter:Expr}{es ifs:List Expr}{kt}{pt pos:Pos}{scope:Scope}{it acc:Value}{env:Env}(K:Nat->Shared->Prop)
 (one:∀n s,K n s->wpAny (model prog w) A (pyNext it) (fun r s1=>match r with
   | some v=>wpAny (model prog w) A (letOwnedTupleGo (.Tuple es kt pt) it v) (fun _ s2=>wpAny (model prog w) A (assign (.Tuple es kt pt) env v) (fun _ s3 =>
      wpAny (model prog w) A (forIn ifs true fun c r=>if r=true then do let ok <-isTrue c env (eval c env);pure (ForInStep.yield ok) else pure (ForInStep.yield r)) (fun ok s4 =>
       if ok=true then wpAny (model prog w) A (eval elt env) (fun x s5 =>
        wpAny (model prog w) A (call (.builtin "list.append") [acc,x]) (fun _ s6=>∃m,m<n/\K m s6) (notedBy (model prog w) A env fun e s'=>Z (.error e) s') s5) (notedBy (model prog w) A env fun e s'=>Z (.error e) s') s4
       else ∃m,m<n/\K m s4) (notedBy (model prog w) A env fun e s'=>Z (.error e) s') s3) (notedBy (model prog w) A env fun e s'=>Z (.error e) s') s2) (notedBy (model prog w) A env fun e s'=>Z (.error e) s') s1
   | none=>Z (.ok .next) s1) (notedBy (model prog w) A env fun e s'=>Z (.error e) s') s)
 (n:Nat) (h0:K n s0):codeAny (model prog w) A (.compLoop (.ListComp elt [⟨.Tuple es kt pt,iter,ifs,0⟩] scope pos) 0 it acc env) Z s0:=by
 refine codeAny_loop rfl K (fun n s hK=>?_) n h0
 show wpAny _ A ((compTurn (.ListComp elt [⟨.Tuple es kt pt,iter,ifs,0⟩] scope pos) 0 it acc env).onRaise (fun x=>do noteFrame x env;theTreesLotGoes x)) _ _ s
 refine wpAny_noted ?_
 rw[compTurn_list]
 refine wpAny_bind (wpAny_standAt (wpAny_bind (wpAny_mono (one n s hK) (fun r s1 q1=>?_) fun _ _ q=>q)))
 cases r with
 | some v =>
   refine wpAny_bind (wpAny_mono q1 (fun _ s2 q2=>?_) fun _ _ q=>q)
   refine wpAny_bind (wpAny_mono q2 (fun _ s3 q3=>wpAny_bind (wpAny_mono q3 (fun ok s4 q4=>?_) fun _ _ q=>q)) fun _ _ q=>q)
   cases ok with
   | true=>exact wpAny_bind (wpAny_bind (wpAny_mono q4 (fun x s5 q5=>wpAny_bind (wpAny_mono q5 (fun _ s6 q6=>wpAny_pure (wpAny_pure ⟨rfl,q6⟩)) fun _ _ q=>q)) fun _ _ q=>q))
   | false=>exact wpAny_pure ⟨rfl,q4⟩
 | none=>exact wpAny_pure q1
theorem y2k{elt iter:Expr}{p0 px pt pos:Pos}{kt}{ifs:List Expr}{f:D->D->G->R (Option D)}{pins:List (Addr×Obj)}{σ:St}{H₂:Hp}{s₂:Shared}{F:List Addr}{Γ:G}{items:List D}{it:Addr}{fp:List Addr}{tn:Nat->Heap->Prop}{J:It}{E:Value->Shared->Prop}{total:List D}
 (hp:PC2 X x0 y scope ifs elt f) (c:CompOk2 X.N X.env x0 y scope) (hN:X.N.Nodup) (hcalm:X.calm=true) (I:Inv X pins σ H₂ s₂) (fo:FOk H₂ F) (rl:Rel X.K H₂ F Γ σ) (T:Turn X.prog X.w X.K (.Tuple [.Name x0 p0,.Name y px] kt pt) J fp it tn) (t0:tn 0 s₂.heap) (hf:∀b∈fp,FpOk X pins H₂ b) (hj:JC2 X.K H₂ F J items)
 (ht:z0w (z8s f Γ) items [] = .ok total) (hl:items.length<=100000) {RR:Value->Addr->Result->Shared->Prop}
 (hR:∀(Dd C:Addr) (xs:List V) (H':Hp) (m:Str->Option Value) (s':Shared),s₂.heap.objs.size<=C->Dd≠C->H₂ Dd=none->H' Dd=none->H' C=none->s₂.heap.objs.size<=Dd->Same H₂ H'->IsAll X.K (hid F H') total xs->Inv X pins σ (upd H' Dd (.lst xs)) s'->s'.heap.Ns C m->RR (.ref Dd) C (.ok .next) s') :
 wpAny (model X.prog X.w) X.A (newList []) (fun acc s₃=>wpAny (model X.prog X.w) X.A (newFunctionEnv scope X.env.globals (capt X.env scope.names []) [] X.env.qual none .none (some X.env)) (fun cenv s₄ =>
  codeAny (model X.prog X.w) X.A (.compStart (.ListComp elt [⟨.Tuple [.Name x0 p0,.Name y px] kt pt,iter,ifs,0⟩] scope pos) 0 (.ref it) acc { cenv with scope:=relabel scope X.env }) (RR acc cenv.locals) s₄) E s₃) E s₂:=by
 have ho:∀b∈fp,b<s₂.heap.objs.size:=fun b hb=>by obtain⟨o,e,_⟩:=T.obj _ _ t0 b hb;exact Heap.lt_size e
 refine wpAny_newObj_type (wpAny_newFunctionEnv c.nocell (by intro y hy;simp at hy) (fun h₁ hns₁ hsb₁=>?_) c.kind)
 dsimp only at hns₁ hsb₁ ⊢
 generalize hH2:s₂.heap.push { cls:=.type "list",dict:=none,data:=.seq ([]:List Value).toArray }=H2 at hns₁ hsb₁ ⊢
 have hCs:H2.objs.size=s₂.heap.objs.size+1:=by rw[<-hH2,Heap.size_push]
 generalize hCC:H2.objs.size=C at hns₁ hsb₁ hCs ⊢
 generalize hDD:s₂.heap.objs.size=Dd at hCs ⊢
 obtain⟨⟨hDC,hC,hD⟩,below⟩:=sb2 hCs hDD
 have old:∀b o,s₂.heap.get? b=some o->h₁.get? b=some o:=fun b o e=>by
  refine hsb₁.extBut b o (below b (Heap.lt_size e)).1 ?_
  exact Heap.get?_push_of_some _ (hH2 ▸ Heap.get?_push_of_some _ e)
 have hacc:h₁.get? Dd=some { cls:=.type "list",dict:=none,data:=.seq ([]:List Value).toArray }:=by
  refine hsb₁.extBut _ _ hDC ?_
  refine Heap.get?_push_of_some _ ?_
  rw[<-hH2,<-hDD]
  exact Heap.get?_push_size _ rfl
 have J0:∀tk,Inv (z1q X x0 y scope C s₂ H₂ fp (X.pn++pins)) [(Dd,{ cls:=.type "list",dict:=none,data:=.seq ([]:List Value).toArray })] (none::none::σ) H₂ { s₂ with heap:=h₁,toks:=tk }:=fun tk =>
  y6r I c hC hD hDC hf ho old hns₁ hacc (fun v z=>nomatch z)
 have t1:tn 0 h₁:=T.keep _ _ _ t0 fun b hb o e=>old b o e
 have fpY:∀{H':Hp} {o:Obj},(∀b∈fp,H' b=none)->∀b∈fp,FpOk (z1q X x0 y scope C s₂ H₂ fp (X.pn++pins)) [(Dd,o)] H' b:=fun {H' o} hn b hb=>by
  obtain⟨f0,f1,f2,f3,f4,f5⟩:=hf b hb
  have lt:=ho b hb
  refine⟨hn b hb,(below b lt).1,fun z=>?_,.inl hb,fun x k e=>?_,fun p hp'=>?_⟩
  ·rcases List.mem_cons.mp (I.stkSub b z) with q | q
   ·exact f1 q
   ·exact f2 q
  ·rcases z3r scope.names [] (PySem.mem_of_lookup e) with q | q
   ·simp at q
   ·exact f4 x k q
  ·rcases List.mem_append.mp hp' with q | q
   ·exact f5 p q
   ·have e:p=(Dd,o):=by simpa using q
    subst e
    exact Ne.symm (below b lt).2
 have NdY:(z1q X x0 y scope C s₂ H₂ fp (X.pn++pins)).N.Nodup:=by
  show(x0::y::X.N.map (fun z=>if z=x0∨z=y then ("":Str) else z)).Nodup
  have ne0:∀q:Str,scope.names.lookup q=some .local->q ∉ X.N.map (fun z=>if z=x0∨z=y then ("":Str) else z)∨True:=fun _ _=>.inr trivial
  have out:∀q:Str,scope.names.lookup q=some .local->(q=x0∨q=y)->q ∉ X.N.map (fun z=>if z=x0∨z=y then ("":Str) else z):=fun q hq hqq z=>by
   obtain⟨z',hz,e⟩:=List.mem_map.mp z
   by_cases w':z'=x0∨z'=y
   ·rw[if_pos w'] at e
    subst e
    rw[c.nil] at hq;cases hq
   ·rw[if_neg w'] at e
    subst e
    exact w' hqq
  refine List.nodup_cons.mpr ⟨fun z=>?_,List.nodup_cons.mpr ⟨out y c.loc.2.1 (.inr rfl),?_⟩⟩
  ·rcases List.mem_cons.mp z with e | e
   ·exact c.loc.2.2.1 e
   ·exact out x0 c.loc.1 (.inl rfl) e
  ·have inj:∀a∈X.N,∀b∈X.N,(if a=x0∨a=y then ("":Str) else a)=(if b=x0∨b=y then ("":Str) else b)->a=b∨((a=x0∨a=y)/\(b=x0∨b=y)):=fun a ha b hb e=>by
    by_cases qa:a=x0∨a=y
    ·by_cases qb:b=x0∨b=y
     ·exact .inr ⟨qa,qb⟩
     ·rw[if_pos qa,if_neg qb] at e;exact absurd e.symm ((c.none.resolve_right fun z=>qa.elim (fun e=>z.1 (e ▸ ha)) fun e=>z.2 (e ▸ ha)) b hb)
    ·by_cases qb:b=x0∨b=y
     ·rw[if_neg qa,if_pos qb] at e;exact absurd e ((c.none.resolve_right fun z=>qb.elim (fun e=>z.1 (e ▸ hb)) fun e=>z.2 (e ▸ hb)) a ha)
     ·rw[if_neg qa,if_neg qb] at e;exact .inl e
   have gen:∀l:List Str,(∀a∈l,a∈X.N)->l.Nodup->(l.map (fun z=>if z=x0∨z=y then ("":Str) else z)).Nodup:=by
    intro l
    induction l with
    | nil=>intro _ _;exact List.nodup_nil
    | cons a l ih =>
      intro hs nd
      obtain⟨n1,n2⟩:=List.nodup_cons.mp nd
      rw[List.map_cons]
      refine List.nodup_cons.mpr ⟨fun z=>?_,ih (fun b hb=>hs b (List.mem_cons_of_mem _ hb)) n2⟩
      obtain⟨b,hb,e⟩:=List.mem_map.mp z
      rcases inj b (hs b (List.mem_cons_of_mem _ hb)) a (hs a List.mem_cons_self) e with q | q
      ·exact n1 (q ▸ hb)
      ·have ha:=hs a List.mem_cons_self
       have hb':=hs b (List.mem_cons_of_mem _ hb)
       have hab:b≠a:=fun z=>n1 (z ▸ hb)
       have both:x0∈X.N/\y∈X.N:=by
        rcases q.1 with rfl | rfl<;>rcases q.2 with rfl | rfl
        ·exact absurd rfl hab
        ·exact⟨hb',ha⟩
        ·exact⟨ha,hb'⟩
        ·exact absurd rfl hab
       rcases c.loc.2.2.2 with z | z
       ·exact z both.1
       ·exact z both.2
   exact gen X.N (fun _ h=>h) hN
 let L:Nat->Shared->Prop:=fun n s'=>∃(i:Nat) (H':Hp) (o o2:Option V) (xs:List V) (its:List Value) (acc:List D) (k:Nat),n=items.length-i/\i<=items.length/\Inv (z1q X x0 y scope C s₂ H₂ fp (X.pn++pins)) [(Dd,{ cls:=.type "list",dict:=none,data:=.seq its.toArray k })] (o::o2::σ) H' s' /\
  Same H₂ H'/\(∀b∈fp,H' b=none)/\tn i s'.heap/\Vals xs its/\acc.length<=i/\IsAll X.K (hid F H') acc xs/\z0w (z8s f Γ) (items.drop i) acc = .ok total
 have loop:∀s₄:Shared,L items.length s₄->codeAny (model X.prog X.w) X.A (.compLoop (.ListComp elt [⟨.Tuple [.Name x0 p0,.Name y px] kt pt,iter,ifs,0⟩] scope pos) 0 (.ref it) (.ref Dd) (compEnvC scope (capt X.env scope.names []) C X.env)) (RR (.ref Dd) C) s₄:=fun s₄ h4=>by
  refine x3l L (fun n s' hL=>wpAny_mono (E:=fun _ _=>False) ?_ (fun _ _ q=>q) fun _ _ z=>z.elim) items.length h4
  obtain⟨i,H',o,o2,xs,its,acc,k,en,hi,J',S',fr',tn',rv,hal,ia,eg⟩:=hL
  obtain⟨jgo,jstop⟩:=hj H' S'
  have hpD:=J'.pin (Dd,{ cls:=.type "list",dict:=none,data:=.seq its.toArray k }) (List.mem_append_right _ (by simp))
  have hxl:xs.length<=100000:=by rw[<-ia.length];exact Nat.le_trans hal (Nat.le_trans hi hl)
  have hsl:(100000:Nat)<=sizeLine:=by rw[sizeLine_eq];decide
  by_cases hlt:i<items.length
  ·obtain⟨go,yl⟩:=jgo i hlt
   refine thn (T.item (z1q X x0 y scope C s₂ H₂ fp (X.pn++pins)) rfl rfl rfl hcalm i _ s' _ H' (fun _ _=>False) J' (fpY fr') tn' go) fun r s2 ⟨u,hr,h1⟩=>?_
   subst hr
   refine wpAny_mono h1 (fun _ s2 ⟨x,H5,J5,r5,y5,st5,fr5⟩=>?_) fun _ _ z=>z.elim
   obtain⟨S5,d1,d2,q,v1,v2,ed,rfl,sq5,iv1,iv2⟩:=yl x H5 y5
   have J5':=J5.pinned (fpY fr5) (T.obj _ _ st5)
   have S6:=S'.trans S5
   have hdrop:items.drop i = .tup [d1,d2]::items.drop (i+1):=by
    rw[List.drop_eq_getElem_cons hlt]
    have:items[i] = .tup [d1,d2]:=by
     have:=List.getElem?_eq_getElem hlt
     rw[ed] at this;exact(Option.some.inj this).symm
    rw[this]
   rw[hdrop] at eg
   have hfo:∃od,f d1 d2 Γ = .ok od/\(match od with | some e=>z0w (z8s f Γ) (items.drop (i+1)) (acc++[e]) | none=>z0w (z8s f Γ) (items.drop (i+1)) acc) = .ok total:=by
    unfold z0w at eg
    have ep:z8s f Γ (.tup [d1,d2])=f d1 d2 Γ:=rfl
    rw[ep] at eg
    cases q:f d1 d2 Γ with
    | no=>rw[q] at eg;cases eg
    | er c'=>rw[q] at eg;cases eg
    | ok od =>
      refine⟨od,rfl,?_⟩
      rw[q] at eg
      cases od with
      | none=>exact eg
      | some e=>exact eg
   obtain⟨od,eod,etot⟩:=hfo
   have hpg:PG (z1q X x0 y scope C s₂ H₂ fp (X.pn++pins)).nox (.Tuple [.Name x0 p0,.Name y px] kt pt) (L2.gTup X.K 2 (L2.gCons (y8w 0) (L2.gCons (y8w 1) L2.gNil))) :=
    x7v (X:=(z1q X x0 y scope C s₂ H₂ fp (X.pn++pins)).nox) hcalm (y7e (y0o (X:=(z1q X x0 y scope C s₂ H₂ fp (X.pn++pins)).nox) NdY rfl (.inl (lookup_relabel_local c.loc.1)) (.inr (lookup_relabel_local c.loc.1))) (y7e (y0o (X:=(z1q X x0 y scope C s₂ H₂ fp (X.pn++pins)).nox) NdY rfl (.inl (lookup_relabel_local c.loc.2.1)) (.inr (lookup_relabel_local c.loc.2.1))) x5x rfl) rfl) rfl rfl
   refine wpAny_mono (hpg _ s2 (o::o2::σ) H5 (.ref q) u (fun σ' H'=>σ'=some v1::some v2::σ/\H'=H5) (J5'.wish _) r5 ⟨q,[v1,v2],rfl,sq5,rfl,v1,[v2],rfl,v2,[],rfl,rfl,rfl,rfl⟩) (fun _ s3 ⟨σ6,H6,J6,e6,e6'⟩=>?_) fun _ _ z=>z.elim
   subst e6 e6'
   have J6':=J6.unwish
   have fo6:=fo.same S6
   have back:∀{s5:Shared} {H7:Hp} {σ7:St},Inv (z1q X x0 y scope C s₂ H₂ fp (X.pn++pins)) ([(Dd,{ cls:=.type "list",dict:=none,data:=.seq its.toArray k })]++y0m fp s2.heap) σ7 H7 s5->tn (i+1) s5.heap/\(∀b∈fp,H7 b=none):=fun {s5 H7 σ7} J7=>by
    refine⟨T.keep _ _ _ st5 fun b hb o' e=>(J7.pin (b,o') (List.mem_append_right _ (List.mem_append_right _ (z3v hb e)))).1,fun b hb=>?_⟩
    obtain⟨o',e,dd⟩:=T.obj _ _ st5 b hb
    exact(J7.pin (b,o') (List.mem_append_right _ (List.mem_append_right _ (z3v hb e)))).2.1
   refine wpAny_mono (hp.run C s₂ H₂ fp (X.pn++pins) _ s3 _ H6 F Γ d1 d2 J6' fo6 (y0c (y0c (rl.same S6) iv2) iv1) ⟨od,eod⟩) (fun ok s4 h4=>?_) fun _ _ z=>z.elim
   cases ok with
   | false =>
     rw[if_neg Bool.false_ne_true] at h4 ⊢
     obtain⟨ef,H7,J7,S7⟩:=h4
     rw[eod] at ef;cases ef
     obtain⟨tn7,fr7⟩:=back J7
     exact⟨items.length-(i+1),sb1 en hlt,i+1,H7,some v1,some v2,xs,its,acc,k,rfl,hlt,J7.unpinned,S6.trans S7,fr7,tn7,rv,Nat.le_succ_of_le hal,ia.same (z1y (S5.trans S7)),etot⟩
   | true =>
     rw[if_pos rfl] at h4 ⊢
     refine wpAny_mono h4 (fun u7 s5 ⟨e,v7,H7,ef,J7,r7,S7,iv7⟩=>?_) fun _ _ z=>z.elim
     rw[eod] at ef;cases ef
     obtain⟨tn7,fr7⟩:=back J7
     have J8:=J7.unpinned
     have hpD7:=J8.pin (Dd,{ cls:=.type "list",dict:=none,data:=.seq its.toArray k }) (List.mem_append_right _ (by simp))
     have hlen:its.length=acc.length:=by rw[<-rv.length,<-ia.length]
     refine wpAny_list_append_plain (l:=Dd) (items:=its.toArray) (x:=u7) ⟨k,hpD7.1⟩ (fun h' hl' hs'=>?_) (by rw[List.size_toArray,<-rv.length];exact Nat.le_trans hxl hsl)
     obtain⟨k',hk'⟩:=hl'
     have epush:its.toArray.push u7=(its++[u7]).toArray:=by simp
     rw[epush] at hk'
     have J9:Inv (z1q X x0 y scope C s₂ H₂ fp (X.pn++pins)) [] (some v1::some v2::σ) H7 s5:=J8.pins_of fun p hp'=>by simp at hp'
     have J10:Inv (z1q X x0 y scope C s₂ H₂ fp (X.pn++pins)) [] (some v1::some v2::σ) H7 { s5 with heap:=h' }:=J9.turned (t':=s5.toks) (it:=Dd) (fun b o' hb e'=>(hs'.2 b hb).trans e') hpD7.2.1 hDC (.inr hD) (fun x' k'' e' z=>by
      rcases z3r scope.names [] (PySem.mem_of_lookup e') with q | q
      ·simp at q
      ·obtain⟨v',o',ho',_⟩:=I.cell x' k'' q
       exact(below k'' (Heap.lt_size ho')).2 z) (fun p hp' z=>by
      rcases List.mem_append.mp hp' with q | q
      ·obtain⟨h1',_⟩:=I.pin p q
       exact(below p.1 (Heap.lt_size h1')).2 z
      ·simp at q)
     have J11:Inv (z1q X x0 y scope C s₂ H₂ fp (X.pn++pins)) [(Dd,{ cls:=.type "list",dict:=none,data:=.seq (its++[u7]).toArray k' })] (some v1::some v2::σ) H7 { s5 with heap:=h' }:=J10.pins_of fun p hp'=>by
      have e':p=(Dd,{ cls:=.type "list",dict:=none,data:=.seq (its++[u7]).toArray k' }):=by simpa using hp'
      subst e'
      exact⟨hk',hpD7.2.1,hDC,hpD7.2.2.2.1,fun v z=>nomatch z⟩
     refine⟨items.length-(i+1),sb1 en hlt,i+1,H7,some v1,some v2,xs++[v7],its++[u7],acc++[e],k',rfl,hlt,J11,S6.trans S7,fr7,T.keep _ _ _ tn7 fun b hb o' e'=>(hs'.2 b (below b (ho b hb)).2).trans e',rv.append (.cons r7 .nil),by rw[List.length_append,List.length_singleton];exact Nat.succ_le_succ hal,(ia.same (z1y (S5.trans S7))).append (IsAll.cons iv7 IsAll.nil),etot⟩
  ·have hi':i=items.length:=Nat.le_antisymm hi (Nat.le_of_not_lt hlt)
   subst hi'
   refine thn (T.done (z1q X x0 y scope C s₂ H₂ fp (X.pn++pins)) rfl rfl rfl hcalm _ _ s' _ H' (fun _ _=>False) J' (fpY fr') tn' jstop) fun r s1 ⟨hr,J1⟩=>?_
   subst hr
   have hpD1:=J1.pin (Dd,{ cls:=.type "list",dict:=none,data:=.seq its.toArray k }) (List.mem_append_right _ (by simp))
   rw[List.drop_length] at eg
   have:acc=total:=by unfold z0w at eg;cases eg;rfl
   subst this
   obtain⟨mC,hnC,_⟩:=J1.loc
   exact hR Dd C xs H' mC s1 hC hDC (I.hok.fresh hD) hpD1.2.1 J1.free hD S' ia (y9h I J1 hD hpD1.2.1 hpD1.1 rv (Nat.le_trans hxl hsl) hf) hnC
 have L0:∀tk,L items.length { s₂ with heap:=h₁,toks:=tk }:=fun tk=>⟨0,H₂,none,none,[],[],[],_,rfl,Nat.zero_le _,J0 tk,.refl _,fun b hb=>(hf b hb).1,t1,.nil,Nat.le_refl _,IsAll.nil,by rw[List.drop_zero];exact ht⟩
 exact codeAny_compStart_list (loop _ (L0 _)) (T.self _ 0 _ _ _ t1 (loop _ (L0 _)))
theorem y0d{elt iter:Expr}{p0 px pt pos:Pos}{kt}{ifs:List Expr}{f:D->D->G->R (Option D)}{gi:G->R (List D)}(hi:PIx JC2 X (.Tuple [.Name x0 p0,.Name y px] kt pt) iter gi)(hp:PC2 X x0 y scope ifs elt f)(hN:X.N.Nodup)(hcalm:X.calm=true)
 (chk:y0e X.N X.env x0 y scope=true:=by rfl) (hclos:closureFor scope X.env=pure (capt X.env scope.names []):=by rfl) (hs:∀x,foldedSetIterable iter X.env x=pure x:=by intro _;rfl) :
 PF X (.ListComp elt [⟨.Tuple [.Name x0 p0,.Name y px] kt pt,iter,ifs,0⟩] scope pos) (z5u gi f):=by
 refine⟨fun pins s σ H F Γ I fo rl hg=>?_⟩
 have c:=y2i chk
 rw[eval_ListComp]
 refine wpAny_comprehension_free (use:=none) rfl hs hclos c.kind c.names (wpAny_mono (hi.run pins s σ H F Γ I fo rl (R.left hg)) (fun xv s₁ h₁=>wpAny_mono h₁ (fun itv s₂ h₂=>?_) fun _ _ x=>x.bind _) fun _ _ x=>x.bind _)
 obtain⟨items,it,fp,tn,J,H₂,e1,rfl,I2,S2,T,t0,fk,jc⟩:=h₂
 have hgx:=R.next hg e1
 obtain⟨hl,e2⟩:=R.guard_ne hgx
 have hne:z0w (z8s f Γ) items [] ≠ .no:=by
  have:=R.next hg e1
  rw[e2] at this;exact this
 obtain⟨total,et⟩:=z5l hne
 refine y2k (RR:=fun acc C=>compPost (model X.prog X.w) X.A _ none _ acc C) hp c hN hcalm I2 (fo.same S2) (rl.same S2) T t0 fk jc et hl ?_
 intro Dd C xs H' m s' hC hDC hn hn' hnC hD S' ia I' hnsC
 refine⟨m,hnsC,fun h'' hs''=>?_⟩
 have nlt:∀{b:Addr} {o:Obj},s₂.heap.get? b=some o->b≠C:=fun e=>Nat.ne_of_lt (Nat.lt_of_lt_of_le (Heap.lt_size e) hC)
 have I'':Inv X pins σ (upd H' Dd (.lst xs)) { s' with heap:=h'' }:=I'.turned (t':=s'.toks) (it:=C) (fun b o hb e=>hs''.extBut b o hb e) (by rw[z0q (Ne.symm hDC)];exact hnC) (Nat.ne_of_gt (Nat.lt_of_lt_of_le I2.lt hC)) (.inr (Nat.le_trans I2.sz hC))
  (fun x k e=>by obtain⟨v,o,ho,_⟩:=I2.cell x k e;exact nlt ho) (fun p hp'=>nlt (I2.pin p hp').1)
 have S3:=z1x hn' (.lst xs)
 refine⟨total,Dd,xs,_,(R.step e1 _).trans (e2.trans et),I'',rfl,(S2.trans S').trans S3,S2.free hn,z0v,ia.same fun b o hb=>?_⟩
 obtain⟨z1,z2⟩:=z2v hb
 have hbl:b≠Dd:=z0p z2 hn'
 rw[z1j fun z=>(List.mem_cons.mp z).elim hbl z1,z0q hbl]
 exact z2
end
section
variable {prog:Program}{w:World}{A:Around}{E:Value->Shared->Prop}{s:Shared}
theorem x6h{it t:Addr}{i:Nat}{items:Array Value}{x:Value}{Q:Value->Shared->Prop}(hit:s.heap.IsTupleIter it t i)(ht:s.heap.IsTuple t items)(hx:items[i]? = some x)(hQ:∀h',h'.IsTupleIter it t (i+1)->Heap.SameBut it s.heap h'->Q x { s with heap:=h' }) :
 wpAny (model prog w) A (Builtin.SmallTypes.nextOf (.ref it)) Q E s:=by
 obtain⟨⟨o,ho,hc,hd⟩,⟨ol,hol,_,nl,hdl⟩⟩:=And.intro hit ht
 refine wpAny_bind (wpAny_callSpecial?_slot (name:=Str.ofString "__next__") hit.typeIs F.slot_tuple_iterator_next (wpAny_call_entry F.slot_tuple_iterator_next hit.typeIs F.entry_tuple_iterator_next (show wpAny _ _ (field (.ref it) 0>>=_) _ _ s from wpAny_bind (wpAny_field ho hd (x:=.ref t) rfl (show wpAny _ _ (if (Value.ref t==Value.none)=true then _ else _) _ _ s from ?_))) (F.args_tuple_iterator_next_1 _)))
 rw[if_neg (by exact fun z=>Bool.false_ne_true z)]
 refine(show wpAny _ _ (field (.ref it) 1>>=_) _ _ s from wpAny_bind (wpAny_field ho hd (x:=.int i 0) rfl (show wpAny _ _ (seqItems? (.ref t)>>=_) _ _ s from wpAny_bind (wpAny_seqItems hol hdl ?_))))
 simp only[Int.toNat_natCast,hx]
 refine wpAny_bind (wpAny_setField ho hd (by simp) (wpAny_pure ⟨x,rfl,wpAny_pure (hQ _ ⟨_,Heap.get?_update_self _ ho (Obj.isFreed_of_fields (Obj.data_mapFields hd _)),(Obj.cls_mapFields ..).trans hc,by rw[Obj.data_mapFields hd];simp[rawInt]⟩ (Heap.SameBut.update ..))⟩))
theorem y6b{it t:Addr}{i:Nat}{items:Array Value}{Q:Value->Shared->Prop}(hh:A.handled=none)(hit:s.heap.IsTupleIter it t i)(ht:s.heap.IsTuple t items)(hx:items[i]? = none)
 (hE:∀h' e,Heap.ExtBut it s.heap h'->(∃o,h'.get? e=some o/\o.cls = .type "StopIteration")->E (.ref e) { s with heap:=h' }):wpAny (model prog w) A (Builtin.SmallTypes.nextOf (.ref it)) Q E s:=by
 obtain⟨⟨o,ho,hc,hd⟩,⟨ol,hol,_,nl,hdl⟩⟩:=And.intro hit ht
 refine wpAny_bind (wpAny_callSpecial?_slot (name:=Str.ofString "__next__") hit.typeIs F.slot_tuple_iterator_next (wpAny_call_entry F.slot_tuple_iterator_next hit.typeIs F.entry_tuple_iterator_next (show wpAny _ _ (field (.ref it) 0>>=_) _ _ s from wpAny_bind (wpAny_field ho hd (x:=.ref t) rfl (show wpAny _ _ (if (Value.ref t==Value.none)=true then _ else _) _ _ s from ?_))) (F.args_tuple_iterator_next_1 _)))
 rw[if_neg (by exact fun z=>Bool.false_ne_true z)]
 refine(show wpAny _ _ (field (.ref it) 1>>=_) _ _ s from wpAny_bind (wpAny_field ho hd (x:=.int i 0) rfl (show wpAny _ _ (seqItems? (.ref t)>>=_) _ _ s from wpAny_bind (wpAny_seqItems hol hdl ?_))))
 simp only[Int.toNat_natCast,hx]
 refine wpAny_bind (wpAny_rule (wpAny_bind (wpAny_setField ho hd (by simp) (show wpAny _ _ (newExc (.type "StopIteration") []>>=_) _ _ _ from wpAny_bind ?_))))
 simp only[newExc,newTuple]
 refine wpAny_bind (wpAny_newObj_type (wpAny_bind (m:=firstArgMember _ _) (wpAny_of_eq (a:=Value.none) (by first | rfl | (simp only[firstArgMember];rfl)) (wpAny_newObj_type ?_ (by size_fits)))) (by size_fits))
 simp only[raiseNew]
 refine wpAny_bind (wpAny_handled ?_)
 first | rw[show A.in1.handled=none from hh] | rw[hh]
 exact wpAny_bind (wpAny_pure (wpAny_throw (hE _ _ (((Heap.SameBut.update ..).extBut.push _).push _) ⟨_,Heap.get?_push_size _ rfl,rfl⟩)))
noncomputable def SIt(b:Bool)(h:Heap)(it l:Addr)(i:Nat):Prop:=if b=true then h.IsListIter it l i else h.IsTupleIter it l i
noncomputable def SOb(b:Bool)(h:Heap)(l:Addr)(xs:Array Value):Prop:=if b=true then h.IsList l xs else h.IsTuple l xs
theorem SIt.mv{b:Bool}{h h':Heap}{it l:Addr}{i:Nat}(st:SIt b h it l i)(k:∀o,h.get? it=some o->h'.get? it=some o):SIt b h' it l i:=by
 cases b
 ·exact Heap.IsTupleIter.at (h:=h) st k
 ·exact Heap.IsListIter.at (h:=h) st k
theorem SOb.mv{b:Bool}{h h':Heap}{l:Addr}{xs:Array Value}(st:SOb b h l xs)(k:∀o,h.get? l=some o->h'.get? l=some o):SOb b h' l xs:=by
 cases b
 ·obtain⟨o,e,r⟩:=(show h.IsTuple l xs from st);exact⟨o,k o e,r⟩
 ·exact Heap.IsList.at (h:=h) st k
theorem SIt.obj{b:Bool}{h:Heap}{it l:Addr}{i:Nat}(st:SIt b h it l i):∃o vs,h.get? it=some o/\o.data = .fields vs:=by
 cases b
 ·obtain⟨o,e,c,d⟩:=(show h.IsTupleIter it l i from st);exact⟨o,_,e,d⟩
 ·obtain⟨o,e,c,d⟩:=(show h.IsListIter it l i from st);exact⟨o,_,e,d⟩
theorem y6c{b:Bool}{it t:Addr}{i:Nat}{items:Array Value}{x:Value}{Q:Value->Shared->Prop}(hit:SIt b s.heap it t i)(ht:SOb b s.heap t items)(hx:items[i]? = some x)(hQ:∀h',SIt b h' it t (i+1)->Heap.SameBut it s.heap h'->Q x { s with heap:=h' }) :
 wpAny (model prog w) A (Builtin.SmallTypes.nextOf (.ref it)) Q E s:=by
 cases b
 ·exact x6h hit ht hx hQ
 ·exact wpAny_nextOf_list_item hit ht hx hQ
theorem y0r{b:Bool}{it t:Addr}{i:Nat}{items:Array Value}{Q:Value->Shared->Prop}(hh:A.handled=none)(hit:SIt b s.heap it t i)(ht:SOb b s.heap t items)(hx:items[i]? = none)
 (hE:∀h' e,Heap.ExtBut it s.heap h'->(∃o,h'.get? e=some o/\o.cls = .type "StopIteration")->E (.ref e) { s with heap:=h' }):wpAny (model prog w) A (Builtin.SmallTypes.nextOf (.ref it)) Q E s:=by
 cases b
 ·exact y6b hh hit ht hx hE
 ·exact wpAny_nextOf_list_end hh hit ht hx hE
end
section
variable {prog:Program}{w:World}{A:Around}{E:Value->Shared->Prop}{s:Shared}{b1 b2:Bool}
theorem x5l{z TI TO i1 i2 l1 l2:Addr}{k1 k2:Nat}{xs ys:Array Value}{x y a b:Value}{Q:Value->Shared->Prop}(D:ZipApart z TI TO i1 i2 l1 l2)(hz:IsZip s.heap z TI TO .none)(hTI:IsPair s.heap TI (.ref i1) (.ref i2))(hTO:IsPair s.heap TO a b)
 (h1:SIt b1 s.heap i1 l1 k1) (h2:SIt b2 s.heap i2 l2 k2) (hl1:SOb b1 s.heap l1 xs) (hl2:SOb b2 s.heap l2 ys) (hx:xs[k1]? = some x) (hy:ys[k2]? = some y)
 (hQ:∀h',IsZip h' z TI TO (rawInt s.heap.objs.size)->IsPair h' TO x y->SIt b1 h' i1 l1 (k1+1)->SIt b2 h' i2 l2 (k2+1)->IsPair h' s.heap.objs.size x y->h'.objs.size=s.heap.objs.size+1->(∀c o,c≠z->c≠TO->c≠i1->c≠i2->s.heap.get? c=some o->h'.get? c=some o)->Q (.ref s.heap.objs.size) { s with heap:=h' }) :
 wpAny (model prog w) A (Builtin.«zip.__next__» ⟨[.ref z],[]⟩) (fun fin s'=>∃v,fin = .done (.ret v)/\Q v s') E s:=by
 refine(show wpAny _ _ (field (.ref z) 2>>=_) _ _ _ from wpAny_bind (wpAny_field hz rfl (x:=.bool false) rfl (show wpAny _ _ (field (.ref z) 3>>=_) _ _ _ from wpAny_bind (wpAny_field hz rfl (x:=.ref TI) rfl (wpAny_bind (wpAny_seqItems hTI rfl (show wpAny _ _ (Builtin.SmallTypes.ownedTupleIsFree (.ref z)>>=_) _ _ _ from wpAny_bind ?_)))))))
 unfold Builtin.SmallTypes.ownedTupleIsFree
 refine wpAny_bind (wpAny_field hz rfl (x:=.none) rfl (wpAny_pure ?_));simp only[if_true]
 refine wpAny_bind (wpAny_rule (wpAny_bind (wpAny_field hz rfl (x:=.ref TO) rfl (wpAny_bind (wpAny_setField_rec hz (by simp) fun g1 (hz1:IsZip g1 z TI TO .ellipsis) n1=>wpAny_bind ?_)))))
 simp only[List.zipIdx_cons,List.zipIdx_nil,List.forIn_cons,List.forIn_nil]
 refine wpAny_bind (wpAny_bind (wpAny_onRaise (show wpAny _ _ (Builtin.SmallTypes.nextOf (.ref i1)>>=_) _ _ _ from wpAny_bind (y6c (h1.mv fun o e=>n1.extBut _ _ D.i1z e) (hl1.mv fun o e=>n1.extBut _ _ D.l1z e) hx fun g2 f1 n2=>wpAny_pure ?_))))
 have pT2:IsPair g2 TO a b:=n2.extBut _ _ D.TOi1 (n1.extBut _ _ D.TOz hTO)
 refine wpAny_bind (wpAny_seqItems pT2 rfl (wpAny_bind (wpAny_updateSeq_pair pT2 fun g3 (pT3:IsPair g3 TO x b) n3=>wpAny_bind (wpAny_letGo (wpAny_pure ?_)))))
 refine wpAny_bind (wpAny_bind (wpAny_onRaise (show wpAny _ _ (Builtin.SmallTypes.nextOf (.ref i2)>>=_) _ _ _ from wpAny_bind (y6c (h2.mv fun o e=>n3.extBut _ _ D.TOi2.symm (n2.extBut _ _ D.i12.symm (n1.extBut _ _ D.i2z e))) (hl2.mv fun o e=>n3.extBut _ _ D.l2TO (n2.extBut _ _ D.l2i1 (n1.extBut _ _ D.l2z e))) hy fun g4 f2 n4=>wpAny_pure ?_))))
 have pT4:IsPair g4 TO x b:=n4.extBut _ _ D.TOi2 pT3
 refine wpAny_bind (wpAny_seqItems pT4 rfl (wpAny_bind (wpAny_updateSeq_pair pT4 fun g5 (pT5:IsPair g5 TO x y) n5=>wpAny_bind (wpAny_letGo (wpAny_pure (wpAny_pure (wpAny_bind (wpAny_seqItems pT5 rfl (wpAny_bind (wpAny_newTuple ?_))))))))))
 have sz:g5.objs.size=s.heap.objs.size:=by rw[n5.1,n4.1,n3.1,n2.1,n1.1]
 have hz5:IsZip g5 z TI TO .ellipsis:=n5.extBut _ _ D.TOz.symm (n4.extBut _ _ D.i2z.symm (n3.extBut _ _ D.TOz.symm (n2.extBut _ _ D.i1z.symm hz1)))
 have kp:∀c o,c≠z->c≠TO->c≠i1->c≠i2->s.heap.get? c=some o->g5.get? c=some o:=fun c o c1 c2 c3 c4 e=>n5.extBut _ _ c2 (n4.extBut _ _ c4 (n3.extBut _ _ c2 (n2.extBut _ _ c3 (n1.extBut _ _ c1 e))))
 have f15:SIt b1 g5 i1 l1 (k1+1):=f1.mv fun o e=>n5.extBut _ _ D.TOi1.symm (n4.extBut _ _ D.i12 (n3.extBut _ _ D.TOi1.symm e))
 have f25:SIt b2 g5 i2 l2 (k2+1):=f2.mv fun o e=>n5.extBut _ _ D.TOi2.symm e
 have zlt:z<g5.objs.size:=Heap.lt_size hz5
 refine(show wpAny _ _ (Builtin.SmallTypes.ownedTupleHandOut (.ref z) (.ref g5.objs.size)>>=_) _ _ _ from wpAny_bind ?_)
 unfold Builtin.SmallTypes.ownedTupleHandOut
 have hz6:IsZip (g5.push { cls:=.type "tuple",data:=.seq #[x,y] }) z TI TO .ellipsis:=Heap.get?_push_of_some _ hz5
 refine wpAny_bind (wpAny_setField_rec hz6 (by simp) fun g7 (hz7:IsZip g7 z TI TO (rawInt g5.objs.size)) n7=>wpAny_setField_rec hz7 (by simp) fun g8 (hz8:IsZip g8 z TI TO (rawInt g5.objs.size)) n8=>?_)
 have up:∀c o,c≠z->g5.get? c=some o->g8.get? c=some o:=fun c o c1 e=>n8.extBut _ _ c1 (n7.extBut _ _ c1 (Heap.get?_push_of_some _ e))
 have t8:IsPair g8 g5.objs.size x y:=n8.extBut _ _ (Nat.ne_of_gt zlt) (n7.extBut _ _ (Nat.ne_of_gt zlt) (Heap.get?_push_size _ rfl))
 have s8:g8.objs.size=g5.objs.size+1:=by rw[n8.1,n7.1,Heap.size_push]
 rw[sz] at hz8 t8 s8
 refine wpAny_pure ⟨_,rfl,(show Q (.ref g5.objs.size) _ from ?_)⟩
 rw[sz]
 exact hQ g8 hz8 (up _ _ D.TOz pT5) (f15.mv fun o e=>up _ o D.i1z e) (f25.mv fun o e=>up _ o D.i2z e) t8 s8 fun c o c1 c2 c3 c4 e=>up c o c1 (kp c o c1 c2 c3 c4 e)
theorem x7e{z TI TO i1 i2 l1 l2:Addr}{k1 k2:Nat}{xs ys:Array Value}{a b:Value}{Q:Fin->Shared->Prop}(hh:A.handled=none)(D:ZipApart z TI TO i1 i2 l1 l2)(hz:IsZip s.heap z TI TO .none)(hTI:IsPair s.heap TI (.ref i1) (.ref i2))(hTO:IsPair s.heap TO a b)
 (h1:SIt b1 s.heap i1 l1 k1) (h2:SIt b2 s.heap i2 l2 k2) (hl1:SOb b1 s.heap l1 xs) (hl2:SOb b2 s.heap l2 ys) (hend:xs[k1]? = none∨ys[k2]? = none)
 (hE:∀h' e,(∀c o,c≠z->c≠TO->c≠i1->c≠i2->s.heap.get? c=some o->h'.get? c=some o)->(∃o,h'.get? e=some o/\o.cls = .type "StopIteration")->E (.ref e) { s with heap:=h' }) :
 wpAny (model prog w) A (Builtin.«zip.__next__» ⟨[.ref z],[]⟩) Q E s:=by
 refine(show wpAny _ _ (field (.ref z) 2>>=_) _ _ _ from wpAny_bind (wpAny_field hz rfl (x:=.bool false) rfl (show wpAny _ _ (field (.ref z) 3>>=_) _ _ _ from wpAny_bind (wpAny_field hz rfl (x:=.ref TI) rfl (wpAny_bind (wpAny_seqItems hTI rfl (show wpAny _ _ (Builtin.SmallTypes.ownedTupleIsFree (.ref z)>>=_) _ _ _ from wpAny_bind ?_)))))))
 unfold Builtin.SmallTypes.ownedTupleIsFree
 refine wpAny_bind (wpAny_field hz rfl (x:=.none) rfl (wpAny_pure ?_));simp only[if_true]
 refine wpAny_bind (wpAny_rule (wpAny_bind (wpAny_field hz rfl (x:=.ref TO) rfl (wpAny_bind (wpAny_setField_rec hz (by simp) fun g1 (hz1:IsZip g1 z TI TO .ellipsis) n1=>wpAny_bind ?_)))))
 simp only[List.zipIdx_cons,List.zipIdx_nil,List.forIn_cons,List.forIn_nil]
 have apart:∀{g:Heap} {e:Addr} {oe:Obj},IsZip g z TI TO .ellipsis->g.get? e=some oe->oe.cls = .type "StopIteration"->e≠z:=fun q1 q2 q3 q4=>by subst q4;rw[q1] at q2;cases q2;simp at q3
 refine wpAny_bind (wpAny_bind (wpAny_onRaise (show wpAny _ _ (Builtin.SmallTypes.nextOf (.ref i1)>>=_) _ _ _ from wpAny_bind ?_)))
 cases hx:xs[k1]? with
 | none =>
   refine y0r hh (h1.mv fun o e=>n1.extBut _ _ D.i1z e) (hl1.mv fun o e=>n1.extBut _ _ D.l1z e) hx fun g2 e n2 ⟨oe,hoe,hce⟩=>?_
   have hz2:IsZip g2 z TI TO .ellipsis:=n2 _ _ D.i1z.symm hz1
   exact wpAny_setField_rec hz2 (by simp) fun g3 _ n3=>hE g3 e (fun c o c1 _ c3 _ q=>n3.extBut _ _ c1 (n2 _ _ c3 (n1.extBut _ _ c1 q))) ⟨oe,n3.extBut _ _ (apart hz2 hoe hce) hoe,hce⟩
 | some x =>
   have hy:ys[k2]? = none:=hend.resolve_left fun q=>by rw[hx] at q;cases q
   refine y6c (h1.mv fun o e=>n1.extBut _ _ D.i1z e) (hl1.mv fun o e=>n1.extBut _ _ D.l1z e) hx fun g2 f1 n2=>wpAny_pure ?_
   have pT2:IsPair g2 TO a b:=n2.extBut _ _ D.TOi1 (n1.extBut _ _ D.TOz hTO)
   refine wpAny_bind (wpAny_seqItems pT2 rfl (wpAny_bind (wpAny_updateSeq_pair pT2 fun g3 pT3 n3=>wpAny_bind (wpAny_letGo (wpAny_pure ?_)))))
   refine wpAny_bind (wpAny_bind (wpAny_onRaise (show wpAny _ _ (Builtin.SmallTypes.nextOf (.ref i2)>>=_) _ _ _ from wpAny_bind (y0r hh (h2.mv fun o e=>n3.extBut _ _ D.TOi2.symm (n2.extBut _ _ D.i12.symm (n1.extBut _ _ D.i2z e))) (hl2.mv fun o e=>n3.extBut _ _ D.l2TO (n2.extBut _ _ D.l2i1 (n1.extBut _ _ D.l2z e))) hy fun g4 e n4 ⟨oe,hoe,hce⟩=>?_))))
   have hz4:IsZip g4 z TI TO .ellipsis:=n4 _ _ D.i2z.symm (n3.extBut _ _ D.TOz.symm (n2.extBut _ _ D.i1z.symm hz1))
   exact wpAny_setField_rec hz4 (by simp) fun g5 _ n5=>hE g5 e (fun c o c1 c2 c3 c4 q=>n5.extBut _ _ c1 (n4 _ _ c4 (n3.extBut _ _ c2 (n2.extBut _ _ c3 (n1.extBut _ _ c1 q))))) ⟨oe,n5.extBut _ _ (apart hz4 hoe hce) hoe,hce⟩
theorem x5k{z TI TO i1 i2 l1 l2:Addr}{k1 k2:Nat}{xs ys:Array Value}{x y a b:Value}{Q:Option Value->Shared->Prop}(D:ZipApart z TI TO i1 i2 l1 l2)(hz:IsZip s.heap z TI TO .none)(hTI:IsPair s.heap TI (.ref i1) (.ref i2))(hTO:IsPair s.heap TO a b)
 (h1:SIt b1 s.heap i1 l1 k1) (h2:SIt b2 s.heap i2 l2 k2) (hl1:SOb b1 s.heap l1 xs) (hl2:SOb b2 s.heap l2 ys) (hx:xs[k1]? = some x) (hy:ys[k2]? = some y)
 (hQ:∀h',IsZip h' z TI TO (rawInt s.heap.objs.size)->IsPair h' TO x y->SIt b1 h' i1 l1 (k1+1)->SIt b2 h' i2 l2 (k2+1)->IsPair h' s.heap.objs.size x y->h'.objs.size=s.heap.objs.size+1->(∀c o,c≠z->c≠TO->c≠i1->c≠i2->s.heap.get? c=some o->h'.get? c=some o)->Q (some (.ref s.heap.objs.size)) { s with heap:=h' }) :
 wpAny (model prog w) A (pyNext (.ref z)) Q E s:=by
 have hT:s.TypeIs (.ref z) "zip":=⟨_,hz,rfl⟩
 unfold pyNext
 exact wpAny_bind (wpAny_attempt (wpAny_callSpecial?_slot (name:=Str.ofString "__next__") hT F.slot_zip_next (wpAny_call_entry F.slot_zip_next hT F.entry_zip_next (x5l D hz hTI hTO h1 h2 hl1 hl2 hx hy fun h' a1 a2 a3 a4 a5 a6 a7=>wpAny_pure (hQ h' a1 a2 a3 a4 a5 a6 a7)) (F.args_zip_next_1 _))))
theorem x5j{z TI TO i1 i2 l1 l2:Addr}{k1 k2:Nat}{xs ys:Array Value}{a b:Value}{Q:Option Value->Shared->Prop}(hh:A.handled=none)(D:ZipApart z TI TO i1 i2 l1 l2)(hz:IsZip s.heap z TI TO .none)(hTI:IsPair s.heap TI (.ref i1) (.ref i2))(hTO:IsPair s.heap TO a b)
 (h1:SIt b1 s.heap i1 l1 k1) (h2:SIt b2 s.heap i2 l2 k2) (hl1:SOb b1 s.heap l1 xs) (hl2:SOb b2 s.heap l2 ys) (hend:xs[k1]? = none∨ys[k2]? = none)
 (hQ:∀h',(∀c o,c≠z->c≠TO->c≠i1->c≠i2->s.heap.get? c=some o->h'.get? c=some o)->Q none { s with heap:=h' }):wpAny (model prog w) A (pyNext (.ref z)) Q E s:=by
 have hT:s.TypeIs (.ref z) "zip":=⟨_,hz,rfl⟩
 unfold pyNext
 refine wpAny_bind (wpAny_attempt (wpAny_callSpecial?_slot (name:=Str.ofString "__next__") hT F.slot_zip_next (wpAny_call_entry F.slot_zip_next hT F.entry_zip_next (x7e hh D hz hTI hTO h1 h2 hl1 hl2 hend fun h' e hk ⟨o,ho,hc⟩=>?_) (F.args_zip_next_1 _))))
 exact wpAny_bind (wpAny_isInstance (T:="StopIteration") (b:=true) ⟨o,ho,hc⟩ isSubtype_stop (wpAny_pure (hQ _ hk)))
end
noncomputable def itn(b:Bool):String:=if b=true then "list_iterator" else "tuple_iterator"
noncomputable abbrev zA (b:Bool) (h:Heap) (l:Addr):Heap:=h.push { cls:=.type (itn b),data:=.fields #[.ref l,.int 0 0] }
noncomputable abbrev zB (b1 b2:Bool) (h:Heap) (l1 l2:Addr):Heap:=zA b2 (zA b1 h l1) l2
noncomputable abbrev zC (b1 b2:Bool) (h:Heap) (l1 l2:Addr):Heap:=(zB b1 b2 h l1 l2).push { cls:=.type "tuple",data:=.seq #[.ref h.objs.size,.ref (zA b1 h l1).objs.size] }
noncomputable abbrev zE (b1 b2:Bool) (h:Heap) (l1 l2:Addr):Heap:=(zC b1 b2 h l1 l2).push { cls:=.type "tuple",data:=.seq #[.none,.none] }
noncomputable abbrev zF (b1 b2:Bool) (h:Heap) (l1 l2:Addr):Heap:=(zE b1 b2 h l1 l2).push { cls:=.type "zip",data:=.fields #[.none,.bool false,.bool false,.ref (zB b1 b2 h l1 l2).objs.size,.ref (zC b1 b2 h l1 l2).objs.size] }
theorem x3q(b1 b2:Bool)(l1 l2:Addr)(xs ys:Array Value) :
 Meets (Builtin.«zip.__new__» ⟨[.type "zip",.ref l1,.ref l2],[]⟩) (fun _ R s=>SOb b1 s.heap l1 xs/\SOb b2 s.heap l2 ys/\R (.ok (.ret (.ref (zE b1 b2 s.heap l1 l2).objs.size))) { s with heap:=zF b1 b2 s.heap l1 l2 }) :=
 .of_wp fun prog w A R s h=>by
  obtain⟨hp,g,d,tk,os⟩:=s
  obtain⟨q1,q2,h⟩:=h
  have hsub:=sub_zip
  cases b1<;>cases b2
  ·have e1:Heap.IsTuple (Shared.heap ⟨hp,g,d,tk,os⟩) l1 xs:=q1
   have e2:Heap.IsTuple (Shared.heap ⟨hp.push { cls:=.type "tuple_iterator",data:=.fields #[.ref l1,.int 0 0] },g,d,tk,os⟩) l2 ys:=(show SOb false _ l2 ys from SOb.mv q2 fun o e=>Heap.get?_push_of_some _ e)
   wp_walk using wpAny_pyIter_tuple e1,wpAny_pyIter_tuple e2
   exact⟨_,rfl,h⟩
  ·have e1:Heap.IsTuple (Shared.heap ⟨hp,g,d,tk,os⟩) l1 xs:=q1
   have e2:Heap.IsList (Shared.heap ⟨hp.push { cls:=.type "tuple_iterator",data:=.fields #[.ref l1,.int 0 0] },g,d,tk,os⟩) l2 ys:=(show SOb true _ l2 ys from SOb.mv q2 fun o e=>Heap.get?_push_of_some _ e)
   wp_walk using wpAny_pyIter_tuple e1,wpAny_pyIter_list e2
   exact⟨_,rfl,h⟩
  ·have e1:Heap.IsList (Shared.heap ⟨hp,g,d,tk,os⟩) l1 xs:=q1
   have e2:Heap.IsTuple (Shared.heap ⟨hp.push { cls:=.type "list_iterator",data:=.fields #[.ref l1,.int 0 0] },g,d,tk,os⟩) l2 ys:=(show SOb false _ l2 ys from SOb.mv q2 fun o e=>Heap.get?_push_of_some _ e)
   wp_walk using wpAny_pyIter_list e1,wpAny_pyIter_tuple e2
   exact⟨_,rfl,h⟩
  ·have e1:Heap.IsList (Shared.heap ⟨hp,g,d,tk,os⟩) l1 xs:=q1
   have e2:Heap.IsList (Shared.heap ⟨hp.push { cls:=.type "list_iterator",data:=.fields #[.ref l1,.int 0 0] },g,d,tk,os⟩) l2 ys:=(show SOb true _ l2 ys from SOb.mv q2 fun o e=>Heap.get?_push_of_some _ e)
   wp_walk using wpAny_pyIter_list e1,wpAny_pyIter_list e2
   exact⟨_,rfl,h⟩
section
variable {prog:Program}{w:World}{A:Around}{E:Value->Shared->Prop}{s:Shared}{b1 b2:Bool}
theorem x7a{l1 l2:Addr}{xs ys:Array Value}{Q:Value->Shared->Prop}(q1:SOb b1 s.heap l1 xs)(q2:SOb b2 s.heap l2 ys)
 (h:∀h',IsZip h' (s.heap.objs.size+4) (s.heap.objs.size+2) (s.heap.objs.size+3) .none->IsPair h' (s.heap.objs.size+2) (.ref s.heap.objs.size) (.ref (s.heap.objs.size+1))->IsPair h' (s.heap.objs.size+3) .none .none->SIt b1 h' s.heap.objs.size l1 0->SIt b2 h' (s.heap.objs.size+1) l2 0->h'.objs.size=s.heap.objs.size+5 ->
   (∀c o,s.heap.get? c=some o->h'.get? c=some o)->Q (.ref (s.heap.objs.size+4)) { s with heap:=h' }):wpAny (model prog w) A (call (.type "zip") [.ref l1,.ref l2]) Q E s:=by
 refine callType_new F.called_zip (by decide) (F.typeCall_zip_2 _ _) (F.newCall_zip_2 _ _) (fun obj=>F.args_object_init_3 obj _ _) F.entry_zip_new (x3q b1 b2 l1 l2 xs ys) ⟨q1,q2,?_⟩
 have y1:(zA b1 s.heap l1).objs.size=s.heap.objs.size+1:=Heap.size_push ..
 have y2:(zB b1 b2 s.heap l1 l2).objs.size=s.heap.objs.size+2:=by rw[Heap.size_push,y1]
 have y3:(zC b1 b2 s.heap l1 l2).objs.size=s.heap.objs.size+3:=by rw[Heap.size_push,y2]
 have y4:(zE b1 b2 s.heap l1 l2).objs.size=s.heap.objs.size+4:=by rw[Heap.size_push,y3]
 have y5:(zF b1 b2 s.heap l1 l2).objs.size=s.heap.objs.size+5:=by rw[Heap.size_push,y4]
 have u5:(zF b1 b2 s.heap l1 l2).get? (zE b1 b2 s.heap l1 l2).objs.size=some _:=Heap.get?_push_size _ rfl
 have u4:(zF b1 b2 s.heap l1 l2).get? (zC b1 b2 s.heap l1 l2).objs.size=some _:=Heap.get?_push_of_some _ (Heap.get?_push_size _ rfl)
 have u3:(zF b1 b2 s.heap l1 l2).get? (zB b1 b2 s.heap l1 l2).objs.size=some _:=Heap.get?_push_of_some _ (Heap.get?_push_of_some _ (Heap.get?_push_size _ rfl))
 have u2:(zF b1 b2 s.heap l1 l2).get? (zA b1 s.heap l1).objs.size=some { cls:=.type (itn b2),data:=.fields #[.ref l2,.int 0 0] }:=Heap.get?_push_of_some _ (Heap.get?_push_of_some _ (Heap.get?_push_of_some _ (Heap.get?_push_size _ rfl)))
 have u1:(zF b1 b2 s.heap l1 l2).get? s.heap.objs.size=some { cls:=.type (itn b1),data:=.fields #[.ref l1,.int 0 0] }:=Heap.get?_push_of_some _ (Heap.get?_push_of_some _ (Heap.get?_push_of_some _ (Heap.get?_push_of_some _ (Heap.get?_push_size _ rfl))))
 show _/\_
 rw[y2,y3,y4] at u5
 rw[y1,y2] at u3
 rw[y3] at u4
 rw[y1] at u2
 rw[y4]
 have i1:SIt b1 (zF b1 b2 s.heap l1 l2) s.heap.objs.size l1 0:=by
  cases b1
  ·exact⟨_,u1,rfl,rfl⟩
  ·exact⟨_,u1,rfl,rfl⟩
 have i2:SIt b2 (zF b1 b2 s.heap l1 l2) (s.heap.objs.size+1) l2 0:=by
  cases b2
  ·exact⟨_,u2,rfl,rfl⟩
  ·exact⟨_,u2,rfl,rfl⟩
 exact⟨⟨_,u5,rfl⟩,h _ u5 u3 u4 i1 i2 y5 fun c o x=>Heap.get?_push_of_some _ (Heap.get?_push_of_some _ (Heap.get?_push_of_some _ (Heap.get?_push_of_some _ (Heap.get?_push_of_some _ x))))⟩
end
section
variable {X:Cx}{pins:List (Addr×Obj)}{σ:St}{H:Hp}{s:Shared}{h':Heap}
theorem x7i{ch:List Addr}{t':Nat}(I:Inv X pins σ H s)(hf:∀b∈ch,FpOk X pins H b)(k:∀b o,b ∉ ch->s.heap.get? b=some o->h'.get? b=some o):Inv X pins σ H { s with heap:=h',toks:=t' }:=by
 have nit:∀b u,H b=some u->b ∉ ch:=fun b u e z=>by rw[(hf b z).1] at e;cases e
 have nL:X.env.locals ∉ ch:=fun z=>(hf _ z).2.1 rfl
 refine I.step (g':=s.gens) (d':=s.drawn) (ch:=ch) (fun b hb=>?_) (fun b o _ _ hc e _=>k b o hc e) (fun b o _ _ hc e _=>⟨o.slots,k b o hc e⟩) (fun _ _ _ _ n=>n) (fun b o hc e=>⟨o,k b o hc e⟩) (fun _ _ e=>e) (fun _ _ _ e=>e) (fun b ps e=>⟨#[],by rw[e];simp⟩) (fun m hm=>?_) (fun b u e=>?_) I.bare
 ·obtain⟨f0,f1,f2,f3,f4,f5⟩:=hf b hb
  exact⟨f3.imp_right fun z=>Heap.get?_none_of_le z,f1,f4,f5⟩
 ·obtain⟨o,es,ep,ho,r⟩:=hm
  exact⟨o,es,ep,k _ o nL ho,r⟩
 ·refine(I.hok b u e).stay (fun c v hc q=>k c v ?_ q) (fun _ q=>q) fun _ _ q=>q
  rcases hc with z | z
  ·rw[z];exact nit b u e
  ·exact nit c _ z
theorem x7h{ch:List Addr}{t':Nat}{T:Addr}{xs:List V}{its:List Value}(I:Inv X pins σ H s)(hf:∀b∈ch,FpOk X pins H b)(k:∀b o,b ∉ ch->s.heap.get? b=some o->h'.get? b=some o)(hT:s.heap.objs.size<=T)(hz:xs.length<=sizeLine)(rv:Vals xs its)(ht:IsTup h' T its.toArray):Inv X pins σ (upd H T (.tup xs)) { s with heap:=h',toks:=t' }:=by
 have nit:∀b u,H b=some u->b ∉ ch:=fun b u e z=>by rw[(hf b z).1] at e;cases e
 have nL:X.env.locals ∉ ch:=fun z=>(hf _ z).2.1 rfl
 have hn:H T=none:=I.hok.fresh hT
 have neT:∀b o,s.heap.get? b=some o->b≠T:=fun b o e=>Nat.ne_of_lt (Nat.lt_of_lt_of_le (Heap.lt_size e) hT)
 have nT:∀b u,H b=some u->b≠T:=fun b u e=>z0p e hn
 refine I.step (g':=s.gens) (d':=s.drawn) (ch:=ch) (fun b hb=>?_) (fun b o _ _ hc e _=>k b o hc e) (fun b o _ _ hc e _=>⟨o.slots,k b o hc e⟩) (fun b o _ e n=>by rw[z0q (neT b o e)];exact n) (fun b o hc e=>⟨o,k b o hc e⟩)
  (fun b u e=>by rw[z0q (nT b _ e)];exact e) (fun b o u e=>by rw[z0q (nT b _ e)];exact e) (fun b ps e=>⟨#[],by rw[z0q (nT b _ e),e];simp⟩) (fun m hm=>?_) (fun b u e=>?_) I.bare
 ·obtain⟨f0,f1,f2,f3,f4,f5⟩:=hf b hb
  exact⟨f3.imp_right fun z=>Heap.get?_none_of_le z,f1,f4,f5⟩
 ·obtain⟨o,es,ep,ho,r⟩:=hm
  exact⟨o,es,ep,k _ o nL ho,r⟩
 ·by_cases hb:b=T
  ·subst hb
   rw[z0v] at e
   cases e
   exact⟨hz,its,rv,ht⟩
  ·rw[z0q hb] at e
   refine(I.hok b u e).stay (fun c v hc q=>k c v ?_ q) (fun c q=>by rw[z0q (nT c _ q)];exact q) fun c u' q=>by rw[z0q (nT c _ q)];exact q
   rcases hc with z | z
   ·rw[z];exact nit b u e
   ·exact nit c _ z
noncomputable def Sq(b:Bool)(K:PySem.W.Frag)(H:Hp)(l:Addr)(xs:List V):Prop:=if b=true then SqL K H l xs else SqT K H l xs
theorem y2c{b:Bool}{l:Addr}{xs:List V}(I:Inv X pins σ H s)(h:Sq b X.K H l xs):∃its:List Value,Vals xs its/\SOb b s.heap l its.toArray/\xs.length<=sizeLine:=by
 cases b
 ·obtain⟨its,rv,p,hz⟩:=I.tuple h
  exact⟨its,rv,(show s.heap.IsTuple l its.toArray from p),hz⟩
 ·obtain⟨its,rv,p,hz⟩:=I.list h
  exact⟨its,rv,p.isList,hz⟩
theorem x0f{b:Bool}{l:Addr}{xs ys:List V}(I:Inv X pins σ H s)(h:Sq b X.K H l xs)(h':Sq b X.K H l ys):xs=ys:=by
 cases b
 ·exact I.tuple_inj h h'
 ·exact I.list_inj h h'
theorem Sq.same{b:Bool}{K:PySem.W.Frag}{H H':Hp}{l:Addr}{xs:List V}(h:Sq b K H l xs)(S:Same H H'):Sq b K H' l xs:=by
 cases b
 ·exact z6e S h
 ·exact S.seq h
end
noncomputable def Itz(b1 b2:Bool)(K:PySem.W.Frag)(l1 l2:Addr):It :=
 ⟨fun i H=>∃xs x ys y,Sq b1 K H l1 xs/\xs[i]? = some x/\Sq b2 K H l2 ys/\ys[i]? = some y,
  fun i H v H'=>∃T x y,v = .ref T/\H T=none/\H'=upd H T (.tup [x,y])/\(∀xs,Sq b1 K H l1 xs->xs[i]? = some x)/\∀ys,Sq b2 K H l2 ys->ys[i]? = some y,
  fun i H=>∃xs ys,Sq b1 K H l1 xs/\Sq b2 K H l2 ys/\(xs.length<=i∨ys.length<=i)⟩
theorem x2w{P:Program}{w:World}{K:PySem.W.Frag}{b1 b2:Bool}{elts:List Expr}{kt}{pt:Pos}{z TI TO i1 i2 l1 l2:Addr}(D:ZipApart z TI TO i1 i2 l1 l2):Turn P w K (.Tuple elts kt pt) (Itz b1 b2 K l1 l2) [z,TI,TO,i1,i2] z
 (fun i h=>IsZip h z TI TO .none/\IsPair h TI (.ref i1) (.ref i2)/\(∃a b,IsPair h TO a b)/\SIt b1 h i1 l1 i/\SIt b2 h i2 l2 i) where
 mem:=by simp
 obj:=fun i h ⟨q1,q2,⟨a,b,q3⟩,q4,q5⟩ c hc=>by
  simp only[List.mem_cons,List.not_mem_nil,or_false] at hc
  rcases hc with rfl | rfl | rfl | rfl | rfl
  ·exact⟨_,q1,fun v z=>nomatch z⟩
  ·exact⟨_,q2,fun v z=>nomatch z⟩
  ·exact⟨_,q3,fun v z=>nomatch z⟩
  ·obtain⟨o,vs,e,d⟩:=q4.obj;exact⟨o,e,fun v z=>by rw[d] at z;cases z⟩
  ·obtain⟨o,vs,e,d⟩:=q5.obj;exact⟨o,e,fun v z=>by rw[d] at z;cases z⟩
 keep:=fun i h h' ⟨q1,q2,⟨a,b,q3⟩,q4,q5⟩ k=>⟨k z (by simp) _ q1,k TI (by simp) _ q2,⟨a,b,k TO (by simp) _ q3⟩,q4.mv fun o e=>k i1 (by simp) o e,q5.mv fun o e=>k i2 (by simp) o e⟩
 item:=by
  intro X hP hw hK hc i pins s σ H E I hf ⟨q1,q2,⟨a,b,q3⟩,q4,q5⟩ ⟨xs,x,ys,y,s1,ex,s2,ey⟩
  subst hP hw hK
  obtain⟨its1,rv1,o1,z1⟩:=y2c I s1
  obtain⟨its2,rv2,o2,z2⟩:=y2c I s2
  obtain⟨u,hu,ru⟩:=rv1.get ex
  obtain⟨v,hv,rv⟩:=rv2.get ey
  refine x5k D q1 q2 q3 q4 q5 o1 o2 (x:=u) (y:=v) (by simpa using hu) (by simpa using hv) fun h' a1 a2 a3 a4 a5 a6 a7=>⟨_,rfl,?_⟩
  refine wpAny_letOwnedTupleGo_zip (s:={ s with heap:=h' }) a1 fun h'' c1 c2=>?_
  have Tz:s.heap.objs.size≠z:=Nat.ne_of_gt (Heap.lt_size q1)
  have kk:∀c o,c ∉ [z,TI,TO,i1,i2]->s.heap.get? c=some o->h''.get? c=some o:=fun c o hc e=>by
   simp only[List.mem_cons,List.not_mem_nil,or_false,not_or] at hc
   exact c2.extBut _ _ hc.1 (a7 c o hc.1 hc.2.2.1 hc.2.2.2.1 hc.2.2.2.2 e)
  have tT:IsTup h'' s.heap.objs.size [u,v].toArray:=⟨_,c2.extBut _ _ Tz a5,rfl,_,rfl⟩
  have I1:=x7h (t':=s.toks) (xs:=[x,y]) I hf kk (Nat.le_refl _) (by rw[sizeLine_eq];exact(by decide:(2:Nat)<=16777216)) (.cons ru (.cons rv .nil)) tT
  refine⟨.ref s.heap.objs.size,_,I1,rfl,⟨_,x,y,rfl,I.hok.fresh (Nat.le_refl _),rfl,fun xs' q=>by rw[x0f I q s1];exact ex,fun ys' q=>by rw[x0f I q s2];exact ey⟩,?_,fun c hc=>?_⟩
  ·exact⟨c1,c2.extBut _ _ D.TIz (a7 _ _ D.TIz D.TITO D.TIi1 D.TIi2 q2),⟨_,_,c2.extBut _ _ D.TOz a2⟩,a3.mv fun o e=>c2.extBut _ _ D.i1z e,a4.mv fun o e=>c2.extBut _ _ D.i2z e⟩
  ·rw[z0q]
   ·exact(hf c hc).1
   ·intro e
    have ex:∃o,s.heap.get? c=some o:=by
     simp only[List.mem_cons,List.not_mem_nil,or_false] at hc
     rcases hc with rfl | rfl | rfl | rfl | rfl
     ·exact⟨_,q1⟩
     ·exact⟨_,q2⟩
     ·exact⟨_,q3⟩
     ·obtain⟨o,_,e,_⟩:=q4.obj;exact⟨o,e⟩
     ·obtain⟨o,_,e,_⟩:=q5.obj;exact⟨o,e⟩
    obtain⟨o,eo⟩:=ex
    exact absurd (Heap.lt_size eo) (by rw[e];exact Nat.lt_irrefl _)
 done:=by
  intro X hP hw hK hc i pins s σ H E I hf ⟨q1,q2,⟨a,b,q3⟩,q4,q5⟩ ⟨xs,ys,s1,s2,hend⟩
  subst hP hw hK
  obtain⟨its1,rv1,o1,z1⟩:=y2c I s1
  obtain⟨its2,rv2,o2,z2⟩:=y2c I s2
  have n1:=rv1.length
  have n2:=rv2.length
  refine x5j (I.ok.hd hc) D q1 q2 q3 q4 q5 o1 o2 (hend.imp (fun z=>by simp;lia) fun z=>by simp;lia) fun h' kk=>⟨rfl,x7i (t':=s.toks) I hf fun c o hc e=>?_⟩
  simp only[List.mem_cons,List.not_mem_nil,or_false,not_or] at hc
  exact kk c o hc.1 hc.2.2.1 hc.2.2.2.1 hc.2.2.2.2 e
 self:=fun _ _ _ _ _ st h=>wpAny_pyIter_zip st.1 h
theorem y6u:∀{xs ys:List D} {i:Nat} {x y:D},xs[i]? = some x->ys[i]? = some y->(zipD xs ys)[i]? = some (.tup [x,y])
 | [],_,_,_,_,h,_=>by simp at h
 | _::_,[],_,_,_,_,h=>by simp at h
 | a::xs,b::ys,0,x,y,h1,h2=>by simp at h1 h2;subst h1 h2;simp[zipD]
 | a::xs,b::ys,i+1,x,y,h1,h2=>by simp only[zipD,List.getElem?_cons_succ] at *;exact y6u h1 h2
theorem y6t:∀xs ys:List D,(zipD xs ys).length=min xs.length ys.length
 | [],_=>by simp[zipD]
 | _::_,[]=>by simp[zipD]
 | a::xs,b::ys=>by simp[zipD,y6t xs ys]
theorem x6o{b1 b2:Bool}{K:PySem.W.Frag}{H:Hp}{F:List Addr}{l1 l2:Addr}{xs ys:List V}{ds es:List D}(fo:FOk H F)(h1:Sq b1 K H l1 xs)(h2:Sq b2 K H l2 ys)(i1:IsAll K (hid F H) ds xs)(i2:IsAll K (hid F H) es ys):JC2 K H F (Itz b1 b2 K l1 l2) (zipD ds es):=fun H1 S=>by
 have q1:=h1.same S
 have q2:=h2.same S
 have n1:=i1.length
 have n2:=i2.length
 have nz:=y6t ds es
 refine⟨fun i hi=>⟨⟨xs,xs[i]'(by lia),ys,ys[i]'(by lia),q1,List.getElem?_eq_getElem (by lia),q2,List.getElem?_eq_getElem (by lia)⟩,fun v H2 y=>?_⟩,⟨xs,ys,q1,q2,by lia⟩⟩
 obtain⟨T,x,y',rfl,hT,rfl,e1,e2⟩:=y
 obtain⟨d,ed,iv⟩:=i1.getX (e1 xs q1)
 obtain⟨d',ed',iv'⟩:=i2.getX (e2 ys q2)
 have S2:=z1x hT (.tup [x,y'])
 exact⟨S2,d,d',T,x,y',y6u ed ed',rfl,SqT.of z0v,iv.same (z1y (S.trans S2)),iv'.same (z1y (S.trans S2))⟩
theorem x2s{n l1 l2:Nat}(h1:l1<n)(h2:l2<n):ZipApart (n+4) (n+2) (n+3) n (n+1) l1 l2:=by
 constructor<;>(show @Ne Nat _ _;lia)
theorem x4l:bootBuiltins ("zip":Str)=some (.type "zip"):=by decide +kernel
section
variable {X:Cx}{a b:Expr}{ga gb:G->R D}
theorem y7a{F:List Addr}{H:Hp}{d:D}{v:V}{ds:List D}(fo:FOk H F)(i:Is X.K H d v)(e:dSeq d = .ok ds)(n:D.noLs ds=true):∃b l xs,v = .ref l/\Sq b X.K H l xs/\IsAll X.K (hid F H) ds xs:=by
 cases d with
 | tup es =>
   cases e
   obtain⟨l,xs,rfl,h1,h2⟩:=Is.tup_iff.mp i
   exact⟨false,l,xs,rfl,h1,IsAll.hid fo _ xs n h2⟩
 | lst es =>
   cases e
   obtain⟨l,xs,rfl,h1,h2⟩:=Is.lst_iff.mp i
   exact⟨true,l,xs,rfl,h1,IsAll.hid fo _ xs n h2⟩
 | _=>cases e
theorem y2x{elts:List Expr}{kt}{pt p pos:Pos}(ha:PD X a ga)(hb:PD X b gb)(hm:X.mg "zip"=none)(hg:Gl X "zip":=by rfl)(hs:starEach [a,b] X.env=[(false,eval a X.env),(false,eval b X.env)]:=by rfl)(hs2:starEach [b] X.env=[(false,eval b X.env)]:=by rfl) :
 PIx JC2 X (.Tuple elts kt pt) (.Call (.Name "zip" p) [a,b] [] pos) (gZip ga gb):=by
 refine⟨fun pins s σ H F Γ I fo rl hgg=>?_⟩
 refine Call_ (z6f I hg hm x4l (PyProof.Rows.callWith_type1 ?_ (by rw[hs,hs2]) (by rw[hs2];rfl)))
 rw[hs]
 show wpAny _ _ (spliced ((false,eval a X.env)::backTo pos [(false,eval b X.env)])) _ _ s
 refine Calls.spliced_cons (wpAny_mono (ha.run pins s σ H F Γ I fo rl (R.left hgg)) (fun u s1 ⟨d,v,H1,e1,I1,r1,S1,i1⟩=>?_) fun _ _ x=>x.bind _)
 have hg1:=R.next hgg e1
 show wpAny _ _ (spliced ((false,eval b X.env)::backTo pos [])) _ _ s1
 refine Calls.spliced_cons (wpAny_mono (hb.run pins s1 σ H1 F Γ I1 (fo.same S1) (rl.same S1) (R.left hg1)) (fun u2 s2 ⟨d2,v2,H2,e2,I2,r2,S2,i2⟩=>Calls.spliced_nil ?_) fun _ _ x=>z1n.later e1 S1 (x.bind _))
 have hg2:=R.next hg1 e2
 obtain⟨ds,ed⟩:∃ds,dSeq d = .ok ds:=by
  cases q:dSeq d with
  | ok ds=>exact⟨ds,rfl⟩
  | no=>exact absurd (by show(dSeq d>>=_)=R.no;rw[q];rfl) hg2
  | er c=>cases d<;>cases q
 have hg3:=R.next hg2 ed
 obtain⟨es,ee⟩:∃es,dSeq d2 = .ok es:=by
  cases q:dSeq d2 with
  | ok ds=>exact⟨ds,rfl⟩
  | no=>exact absurd (by show(dSeq d2>>=_)=R.no;rw[q];rfl) hg3
  | er c=>cases d2<;>cases q
 have hg4:=R.next hg3 ee
 obtain⟨⟨n1,n2⟩,e5⟩:=R.guard_ne hg4
 have fo2:=(fo.same S1).same S2
 obtain⟨b1,l1,xs,rfl,q1,j1⟩:=y7a (X:=X) fo2 (i1.same S2) ed n1
 obtain⟨b2,l2,ys,rfl,q2,j2⟩:=y7a (X:=X) fo2 i2 ee n2
 cases (show u=Value.ref l1 from r1)
 cases (show u2=Value.ref l2 from r2)
 obtain⟨its1,rv1,o1,z1⟩:=y2c I2 q1
 obtain⟨its2,rv2,o2,z2⟩:=y2c I2 q2
 have lt:∀{b:Bool} {l:Addr} {its:Array Value},SOb b s2.heap l its->l<s2.heap.objs.size:=fun {b l its} o=>by
  cases b
  ·obtain⟨o',e,_⟩:=(show s2.heap.IsTuple l its from o);exact Heap.lt_size e
  ·obtain⟨o',e,_⟩:=(show s2.heap.IsList l its from o);exact Heap.lt_size e
 have m1:=lt o1
 have m2:=lt o2
 refine x7a o1 o2 fun h' a1 a2 a3 a4 a5 a6 a7=>?_
 refine wpAny_pyIter_zip (s:={ s2 with heap:=h' }) a1 ?_
 have I3:Inv X pins σ H2 { s2 with heap:=h' }:=I2.kept (t':=s2.toks) a7
 have D:ZipApart (s2.heap.objs.size+4) (s2.heap.objs.size+2) (s2.heap.objs.size+3) s2.heap.objs.size (s2.heap.objs.size+1) l1 l2:=x2s m1 m2
 refine⟨zipD ds es,s2.heap.objs.size+4,_,_,Itz b1 b2 X.K l1 l2,H2,(R.step e1 _).trans ((R.step e2 _).trans ((R.step ed _).trans ((R.step ee _).trans e5))),rfl,I3,S1.trans S2,x2w D,⟨a1,a2,⟨_,_,a3⟩,a4,a5⟩,fun c hc=>?_,x6o fo2 q1 q2 j1 j2⟩
 simp only[List.mem_cons,List.not_mem_nil,or_false] at hc
 have hge:s2.heap.objs.size<=c:=by rcases hc with rfl | rfl | rfl | rfl | rfl<;>lia
 exact I2.fpOk hge (I2.hok.fresh hge)
end
section
variable {X:Cx}{e a b c:Expr}{g ga gb gc:G->R D}{pos:Pos}
end
noncomputable def Ite(K:PySem.W.Frag)(l:Addr):It :=
 ⟨fun i H=>∃xs x,SqL K H l xs/\xs[i]? = some x,
  fun i H v H'=>∃T x,v = .ref T/\H T=none/\H'=upd H T (.tup [.int (i:Int),x])/\∀xs,SqL K H l xs->xs[i]? = some x,
  fun i H=>∃xs,SqL K H l xs/\xs.length<=i⟩
theorem y9p{P:Program}{w:World}{K:PySem.W.Frag}{elts:List Expr}{kt}{pt:Pos}{e it l:Addr}(hei:e≠it):Turn P w K (.Tuple elts kt pt) (Ite K l) [e,it] e (fun i h=>(∃old,IsEnum h e it (i:Nat) old)/\h.IsListIter it l i) where
 mem:=by simp
 obj:=fun i h ⟨⟨old,q1⟩,q2⟩ c hc=>by
  simp only[List.mem_cons,List.not_mem_nil,or_false] at hc
  rcases hc with rfl | rfl
  ·exact⟨_,q1,fun v z=>nomatch z⟩
  ·obtain⟨o,e,c,d⟩:=q2;exact⟨o,e,fun v z=>by rw[d] at z;cases z⟩
 keep:=fun i h h' ⟨⟨old,q1⟩,q2⟩ k=>⟨⟨old,k e (by simp) _ q1⟩,q2.at fun o z=>k it (by simp) o z⟩
 item:=by
  intro X hP hw hK hc i pins s σ H E I hf ⟨⟨old,q1⟩,q2⟩ ⟨xs,x,s1,ex⟩
  subst hP hw hK
  obtain⟨its,rv,p,hz⟩:=I.list s1
  obtain⟨u,hu,ru⟩:=rv.get ex
  refine wpAny_pyNext_enum_item q1 q2 p.isList (x:=u) (by simpa using hu) hei fun h' a1 a2 a3 a4 a5=>⟨_,rfl,?_⟩
  refine wpAny_letOwnedTupleGo_enum (s:={ s with heap:=h',toks:=s.toks+1 }) a1 fun h'' c1 c2=>?_
  have Te:s.heap.objs.size≠e:=Nat.ne_of_gt (Heap.lt_size q1)
  have kk:∀c o,c ∉ [e,it]->s.heap.get? c=some o->h''.get? c=some o:=fun c o hc z=>by
   simp only[List.mem_cons,List.not_mem_nil,or_false,not_or] at hc
   exact c2.extBut _ _ hc.1 (a5 c o hc.1 hc.2 z)
  have tT:IsTup h'' s.heap.objs.size [Value.int i s.toks,u].toArray:=⟨_,c2.extBut _ _ Te a3,rfl,_,rfl⟩
  have I1:=x7h (t':=s.toks+1) (xs:=[.int (i:Int),x]) I hf kk (Nat.le_refl _) (by rw[sizeLine_eq];exact(by decide:(2:Nat)<=16777216)) (.cons ⟨_,rfl⟩ (.cons ru .nil)) tT
  refine⟨.ref s.heap.objs.size,_,I1,rfl,⟨_,x,rfl,I.hok.fresh (Nat.le_refl _),rfl,fun xs' q=>by rw[I.list_inj q s1];exact ex⟩,⟨⟨u,c1⟩,a2.extBut c2.extBut (Ne.symm hei)⟩,fun c hc=>?_⟩
  rw[z0q]
  ·exact(hf c hc).1
  ·intro z
   have ex:∃o,s.heap.get? c=some o:=by
    simp only[List.mem_cons,List.not_mem_nil,or_false] at hc
    rcases hc with rfl | rfl
    ·exact⟨_,q1⟩
    ·obtain⟨o,e,_⟩:=q2;exact⟨o,e⟩
   obtain⟨o,eo⟩:=ex
   exact absurd (Heap.lt_size eo) (by rw[z];exact Nat.lt_irrefl _)
 done:=by
  intro X hP hw hK hc i pins s σ H E I hf ⟨⟨old,q1⟩,q2⟩ ⟨xs,s1,hend⟩
  subst hP hw hK
  obtain⟨its,rv,p,hz⟩:=I.list s1
  have n1:=rv.length
  refine wpAny_pyNext_enum_end (I.ok.hd hc) q1 q2 p.isList (by simp;lia) fun h' kk=>⟨rfl,x7i (t':=s.toks) I hf fun c o hc z=>?_⟩
  simp only[List.mem_cons,List.not_mem_nil,or_false,not_or] at hc
  exact kk c o hc.2 z
 self:=fun _ _ _ _ _ st h=>by obtain⟨⟨old,q1⟩,_⟩:=st;exact wpAny_pyIter_enum q1 h
theorem y5a:∀{k:Nat} {xs:List D} {i:Nat} {x:D},xs[i]? = some x->(z6h k xs)[i]? = some (.tup [.int ((k+i:Nat):Int),x])
 | _,[],_,_,h=>by simp at h
 | k,a::xs,0,x,h=>by simp at h;subst h;simp[z6h]
 | k,a::xs,i+1,x,h=>by
   simp only[z6h,List.getElem?_cons_succ] at *
   rw[y5a h,show k+1+i=k+(i+1) by lia]
theorem y4z:∀(k:Nat) (xs:List D),(z6h k xs).length=xs.length
 | _,[]=>rfl
 | k,a::xs=>by simp[z6h,y4z (k+1) xs]
theorem x3y{K:PySem.W.Frag}{H:Hp}{F:List Addr}{l:Addr}{xs:List V}{ds:List D}(h1:SqL K H l xs)(i1:IsAll K (hid F H) ds xs):JC2 K H F (Ite K l) (z6h 0 ds):=fun H1 S=>by
 have q1:=S.seq h1
 have n1:=i1.length
 have nz:=y4z 0 ds
 refine⟨fun i hi=>⟨⟨xs,xs[i]'(by lia),q1,List.getElem?_eq_getElem (by lia)⟩,fun v H2 y=>?_⟩,⟨xs,q1,by lia⟩⟩
 obtain⟨T,x,rfl,hT,rfl,e1⟩:=y
 obtain⟨d,ed,iv⟩:=i1.getX (e1 xs q1)
 have S2:=z1x hT (.tup [.int (i:Int),x])
 have eg:=y5a (k:=0) ed
 rw[Nat.zero_add] at eg
 exact⟨S2,.int (i:Int),d,T,.int (i:Int),x,eg,rfl,SqT.of z0v,Is.int_iff.mpr rfl,iv.same (z1y (S.trans S2))⟩
theorem x2i:bootBuiltins ("enumerate":Str)=some (.type "enumerate"):=by decide +kernel
section
variable {X:Cx}{a b:Expr}{ga gb:G->R D}
theorem y4l{elts:List Expr}{kt}{pt p pos:Pos}(ha:PD X a ga)(hm:X.mg "enumerate"=none)(hg:Gl X "enumerate":=by rfl)(hs:starEach [a] X.env=[(false,eval a X.env)]:=by rfl) :
 PIx JC2 X (.Tuple elts kt pt) (.Call (.Name "enumerate" p) [a] [] pos) (y4w ga):=by
 refine⟨fun pins s σ H F Γ I fo rl hgg=>?_⟩
 refine Call_ (z6f I hg hm x2i (PyProof.Rows.callWith_type1 ?_ hs rfl))
 rw[hs]
 show wpAny _ _ (spliced ((false,eval a X.env)::backTo pos [])) _ _ s
 refine Calls.spliced_cons (wpAny_mono (ha.run pins s σ H F Γ I fo rl (R.left hgg)) (fun u s1 ⟨d,v,H1,e1,I1,r1,S1,i1⟩=>Calls.spliced_nil ?_) fun _ _ x=>x.bind _)
 have hg1:=R.next hgg e1
 cases d with
 | lst ds =>
   obtain⟨n1,e5⟩:=R.guard_ne (show R.guard (D.noLs ds=true) (.ok (z6h 0 ds)) ≠ .no from hg1)
   obtain⟨l,xs,rfl,q1,j1⟩:=Is.lst_iff.mp i1
   have j1':=IsAll.hid (fo.same S1) _ xs n1 j1
   cases (show u=Value.ref l from r1)
   obtain⟨its,rv,pl,hz⟩:=I1.list q1
   refine call_enumerate_list pl.isList fun h' a1 a2 a3 a4=>?_
   refine wpAny_pyIter_enum (s:={ s1 with heap:=h' }) a1 ?_
   have I3:Inv X pins σ H1 { s1 with heap:=h' }:=I1.kept (t':=s1.toks) a4
   refine⟨z6h 0 ds,s1.heap.objs.size+1,_,_,Ite X.K l,H1,(R.step e1 _).trans e5,rfl,I3,S1,y9p (it:=s1.heap.objs.size) (by show @Ne Nat _ _;lia),⟨⟨_,a1⟩,a2⟩,fun c hc=>?_,x3y q1 j1'⟩
   simp only[List.mem_cons,List.not_mem_nil,or_false] at hc
   have hge:s1.heap.objs.size<=c:=by rcases hc with rfl | rfl<;>lia
   exact I1.fpOk hge (I1.hok.fresh hge)
 | _=>exact absurd rfl hg1
end
section
variable {X:Cx}{e a b c:Expr}{g ga gb gc:G->R D}{pos pos' p:Pos}
theorem y5w(i:Nat){x x0 y:Str}{elt iter:Expr}{p0 px pt:Pos}{kt}{scope:Scope}{ifs:List Expr}{f:D->D->G->R (Option D)}{gi:G->R (List D)}(hi':PIx JC2 X (.Tuple [.Name x0 p0,.Name y px] kt pt) iter gi)(hp:PC2 X x0 y scope ifs elt f)(hN:X.N.Nodup)(hcalm:X.calm=true)(hi:X.N[i]? = some x:=by rfl)(hx:Loc X.env.scope x:=by first | exact Or.inl rfl | exact Or.inr rfl)
 (hsw:swapsWith (.ListComp elt [⟨.Tuple [.Name x0 p0,.Name y px] kt pt,iter,ifs,0⟩] scope p) (some (.Name x pos')) pos.line X.env=pure true:=by rfl) (hf:X.fn x=true∨X.env.scope.names.lookup x=some .local:=by first | exact .inl rfl | exact .inr rfl | assumption)
 (chk:y0e X.N X.env x0 y scope=true:=by rfl) (hclos:closureFor scope X.env=pure (capt X.env scope.names []):=by rfl) (hs:∀x,foldedSetIterable iter X.env x=pure x:=by intro _;rfl) :
 PQ X (.Assign [.Name x pos'] (.ListComp elt [⟨.Tuple [.Name x0 p0,.Name y px] kt pt,iter,ifs,0⟩] scope p) pos) (z2s i (z5u gi f)):=by
 refine⟨fun pins s σ H F Γ I fo rl hg=>?_⟩
 have c:=y2i chk
 rw[exec_Assign_Name_used _ _ _ _ hsw]
 refine wpAny_bind (wpAny_standAt (wpAny_bind ?_))
 show wpAny _ X.A (do let _ <-comprehension (.ListComp elt [⟨.Tuple [.Name x0 p0,.Name y px] kt pt,iter,ifs,0⟩] scope p) scope X.env _ (newList []) false (eval iter X.env) (some (assign (.Name x pos') X.env))) _ _ s
 have hg0:=z2g hg
 refine wpAny_bind (wpAny_mono (wpAny_comprehension_free (use:=some (assign (.Name x pos') X.env)) (Q:=fun _ s'=>FlP X pins H F (z2s i (z5u gi f) Γ) .next s') rfl hs hclos c.kind c.names
  (wpAny_mono (hi'.run pins s σ H F Γ I fo rl (R.left hg0)) (fun xv s₁ h₁=>wpAny_mono h₁ (fun itv s₂ h₂=>?_) fun _ _ x=>(x.bind _).lift fo rl _) fun _ _ x=>(x.bind _).lift fo rl _)) (fun _ s' hq=>wpAny_pure (wpAny_pure hq)) fun _ _ e=>e)
 obtain⟨items,it,fp,tn,J,H₂,e1,rfl,I2,S2,T,t0,fk,jc⟩:=h₂
 have hgx:=R.next hg0 e1
 obtain⟨hl,e2⟩:=R.guard_ne hgx
 have hne:z0w (z8s f Γ) items [] ≠ .no:=by
  have:=R.next hg0 e1
  rw[e2] at this;exact this
 obtain⟨total,et⟩:=z5l hne
 have eT:z5u gi f Γ = .ok total:=(R.step e1 _).trans (e2.trans et)
 refine y2k (RR:=fun acc C=>compPost (model X.prog X.w) X.A _ (some (assign (.Name x pos') X.env)) _ acc C) hp c hN hcalm I2 (fo.same S2) (rl.same S2) T t0 fk jc et hl ?_
 intro Dd C xs H' m s' hC hDC hn hn' hnC hD S' ia I' hnsC
 have nlt:∀{b:Addr} {o:Obj},s₂.heap.get? b=some o->b≠C:=fun e=>Nat.ne_of_lt (Nat.lt_of_lt_of_le (Heap.lt_size e) hC)
 have S3:=z1x hn' (.lst xs)
 have hall:Same H (upd H' Dd (.lst xs)):=(S2.trans S').trans S3
 have hH:H Dd=none:=S2.free hn
 have ia':IsAll X.K (hid (Dd::F) (upd H' Dd (.lst xs))) total xs:=ia.same fun b o hb=>by
  obtain⟨z1,z2⟩:=z2v hb
  have hbl:b≠Dd:=z0p z2 hn'
  rw[z1j fun z=>(List.mem_cons.mp z).elim hbl z1,z0q hbl]
  exact z2
 show wpAny _ X.A (assign (.Name x pos') X.env (.ref Dd)) _ _ s'
 refine wpAny_assign_Name (z8l (v:=.ref Dd) I' hN hi hx rfl (fun s3 I3 hsb=>?_) hf)
 obtain⟨aa,hsb,haa⟩:=hsb
 have haC:aa≠C:=by
  rcases haa with z | z
  ·subst z;exact Nat.ne_of_lt (Nat.lt_of_lt_of_le I2.lt hC)
  ·obtain⟨v,o,ho,_⟩:=I2.cell x aa z;exact nlt ho
 refine⟨m,hnsC.sameBut hsb (Ne.symm haC),fun h'' hs''=>?_⟩
 have I4:Inv X pins (σ.set i (some (.ref Dd))) (upd H' Dd (.lst xs)) { s3 with heap:=h'' }:=I3.turned (t':=s3.toks) (it:=C) (fun b o hb e=>hs''.extBut b o hb e) (by rw[z0q (Ne.symm hDC)];exact hnC) (Nat.ne_of_gt (Nat.lt_of_lt_of_le I2.lt hC)) (.inr (Nat.le_trans I2.sz hC))
  (fun x k e=>by obtain⟨v,o,ho,_⟩:=I2.cell x k e;exact nlt ho) (fun p hp'=>nlt (I2.pin p hp').1)
 exact⟨_,z4j eT,_,_,Dd::F,I4,(fo.same hall).cons z0v,rl.set_own fo hall hH z0v ia',⟨fun b o _ h=>hall _ _ h,fun b hb=>(List.mem_cons.mp hb).elim (fun z=>.inr (z ▸ hH)) .inl⟩⟩
theorem x5w(ha:PD X a ga)(he:∀whole,isTrue a X.env whole=(do let v <-whole;standAt a.pos;holding [v] (truthy v)):=by intro _;rfl):PTD X a (x1q ga):=by
 refine⟨fun pins s σ H F Γ I fo rl hg=>?_⟩
 refine isTrue_plain (wpAny_mono (ha.run pins s σ H F Γ I fo rl (R.left hg)) (fun v s1 ⟨d,x,H1,e1,I1,r1,S1,i1⟩=>?_) fun _ _ x=>x.bind _) (he _)
 have hg1:=R.next hg e1
 cases d with
 | lst ds =>
   obtain⟨l,xs,rfl,q1,j1⟩:=Is.lst_iff.mp i1
   cases (show v=Value.ref l from r1)
   obtain⟨its,rv,pl,hz⟩:=I1.list q1
   have n1:=rv.length
   have n2:=j1.length
   refine wpAny_truthy_list pl.isList (by rw[sizeLine_eq] at hz;simp;lia) ⟨H1,(R.step e1 _).trans ?_,I1.tok _,S1⟩
   have:its.toArray.isEmpty=ds.isEmpty:=by
    cases ds with
    | nil=>cases its with
      | nil=>rfl
      | cons z zs=>simp at n1 n2;lia
    | cons d ds=>cases its with
      | nil=>rw[<-n2] at n1;simp at n1
      | cons z zs=>rfl
   rw[this]
 | _=>exact absurd rfl hg1
theorem y3k:∀{bs:List Int} {us:List Value} {i:Nat} {v:Value},Vals (bs.map V.int) us->us[i]? = some v->∃b t,bs[i]? = some b/\v = .int b t
 | [],us,i,v,r,e=>by cases r;simp at e
 | b::bs,us,0,v,r,e=>by
   cases r with
   | cons r1 r2=>simp at e;subst e;obtain⟨t,r1⟩:=r1;exact⟨b,t,rfl,r1⟩
 | b::bs,us,i+1,v,r,e=>by
   cases r with
   | cons r1 r2 =>
     obtain⟨b',t,e1,e2⟩:=y3k (i:=i) r2 (by simpa using e)
     exact⟨b',t,by simpa using e1,e2⟩
theorem x4n(hc:X.calm=true):z8a X (.builtin "any") (fun xs H Q=>∃(a:Addr) (bs:List Int),xs=[.ref a]/\SqT X.K H a (bs.map V.int)/\Q (.bl (bs.any (fun b=>b != 0))) H):=by
 intro pins s σ H xs us Q I r h
 obtain⟨a,bs,rfl,hq,q⟩:=h
 obtain⟨u,rfl,ru⟩:=y3v r
 cases ru
 obtain⟨its,rv,pl,_⟩:=I.tuple hq
 have hl:s.heap.IsTuple a its.toArray:=pl
 have hlt:a<s.heap.objs.size:=by obtain⟨_,e,_⟩:=hl;exact Heap.lt_size e
 have hlen:its.length=bs.length:=by rw[<-rv.length,List.length_map]
 refine call_any_walk (wpAny_pyIter_tuple hl ?_)
 refine⟨s.heap.objs.size,[s.heap.objs.size,a],[s.heap.objs.size],its.toArray.size,_,_,fun i=>((bs.map fun b=>b != 0)[i]?).getD false,rfl,Walks.tuple (A:=X.A.in1) (I.ok.hd hc) _ a (Nat.ne_of_lt hlt) its.toArray,
  ⟨⟨_,Heap.get?_push_size _ rfl,rfl,rfl⟩,hl.push _⟩,fun i v s' Q' E' hP hQ=>?_,fun h' tk hk=>?_⟩
 ·obtain⟨b,t,e,rfl⟩:=y3k rv (i:=i) (v:=v) (by simpa using hP)
  simp only[List.getElem?_map,e,Option.map_some,Option.getD_some] at hQ
  exact PyProof.Rows.truthy_int hQ
 ·have e:((List.range its.toArray.size).any fun i=>((bs.map fun b=>b != 0)[i]?).getD false)=bs.any (fun b=>b != 0):=by
   rw[List.size_toArray,hlen]
   have:=y1n (bs.map fun b=>b != 0)
   rw[List.length_map,List.any_map] at this
   exact this
  refine⟨.bl (bs.any (fun b=>b != 0)),H,I.kept (fun b x ex=>hk b x (fun hm=>by rw[List.mem_singleton.mp hm] at ex;exact Nat.lt_irrefl _ (Heap.lt_size ex)) (Heap.get?_push_of_some _ ex)),by rw[e];rfl,q⟩
theorem x6z(hc:X.calm=true):z9x X (.builtin "any") y6n:=by
 refine⟨_,x4n (X:=X.nox) hc,fun H xs ds i hg=>?_⟩
 unfold y6n at hg
 split at hg
 ·rename_i ys
  obtain⟨v,rfl,h⟩:=z7j i
  obtain⟨a,zs,rfl,h1,h2⟩:=Is.tup_iff.mp h
  cases q:ints? ys with
  | none=>rw[q] at hg;exact absurd rfl hg
  | some ns =>
    have:=ints?_some q
    subst this
    rw[h2.ints_eq] at h1
    exact⟨a,ns,rfl,h1,.bl (ns.any (fun n=>n != 0)),by show y6n [.tup (ns.map D.int)]=_;simp only[y6n,q],.refl _,Is.bl_iff.mpr rfl⟩
 ·exact absurd rfl hg
end
section
variable {X:Cx}{e a b c:Expr}{g ga gb gc:G->R D}{pos pos' p:Pos}{gs:G->R (List D)}
end
theorem Rel.frzAt{K:PySem.W.Frag}{H:Hp}{F:List Addr}{Γ:G}{σ:St}(fo:FOk H F)(r:Rel K H F Γ σ)(i:Nat):∃F',(∀b∈F',b∈F)/\FOk H F'/\Rel K H F' (L3.frzAt i Γ) σ:=by
 unfold L3.frzAt
 split
 ·rename_i ds e
  obtain⟨a,xs,h1,h2,h3,h4⟩:=r.own i ds e
  have sub:∀b∈F.filter (fun b=>decide (b≠a)),b∈F:=fun b hb=>(List.mem_filter.mp hb).1
  have out:a ∉ F.filter (fun b=>decide (b≠a)):=fun z=>(of_decide_eq_true (List.mem_filter.mp z).2) rfl
  have S:Same (hid F H) (hid (F.filter (fun b=>decide (b≠a))) H):=fun b o h=>by
   obtain⟨z1,z2⟩:=z2v h
   rw[z1j fun z=>z1 (sub b z)]
   exact z2
  have hi:i<Γ.length:=by
   rcases Nat.lt_or_ge i Γ.length with z | z
   ·exact z
   ·rw[List.getElem?_eq_none z] at e;cases e
  refine⟨F.filter (fun b=>decide (b≠a)),sub,fun b hb=>fo b (sub b hb),⟨by rw[List.length_set];exact r.len,fun j d h=>?_,fun j es h=>?_,fun j k es fs c g1 g2 g3 g4=>?_⟩⟩
  ·by_cases hj:i=j
   ·subst hj
    rw[List.getElem?_set_self hi] at h
    cases h
    exact⟨.ref a,h1,Is.lst_iff.mpr ⟨a,xs,rfl,SqL.of (by rw[z1j out];exact h3),h4.same S⟩⟩
   ·rw[List.getElem?_set_ne hj] at h
    obtain⟨v,q1,q2⟩:=r.ro j d h
    exact⟨v,q1,q2.same S⟩
  ·by_cases hj:i=j
   ·subst hj
    rw[List.getElem?_set_self hi] at h
    cases h
   ·rw[List.getElem?_set_ne hj] at h
    obtain⟨c,ys,q1,q2,q3,q4⟩:=r.own j es h
    refine⟨c,ys,q1,List.mem_filter.mpr ⟨q2,decide_eq_true fun z=>?_⟩,q3,q4.same S⟩
    subst z
    exact hj (r.inj i j ds es c e h h1 q1)
  ·have back:∀(m:Nat) (es:List D),(Γ.set i (.ro (.lst ds)))[m]? = some (.own es)->Γ[m]? = some (.own es):=fun m es h=>by
    by_cases hm:i=m
    ·subst hm
     rw[List.getElem?_set_self hi] at h
     cases h
    ·rw[List.getElem?_set_ne hm] at h;exact h
   exact r.inj j k es fs c (back j es g1) (back k fs g2) g3 g4
 ·exact⟨F,fun _ h=>h,fo,r⟩
theorem x7t{X:Cx}(i:Nat){st:Stmt}{g:G->R Fl}(h:PQ X st g):PQ X st (gFrz i g):=by
 refine⟨fun pins s σ H F Γ I fo rl hg=>?_⟩
 obtain⟨F',sub,fo',rl'⟩:=rl.frzAt fo i
 have E:Ext H F H F':=⟨fun b o _ q=>q,fun b hb=>.inl (sub b hb)⟩
 exact wpAny_mono (h.run pins s σ H F' _ I fo' rl' hg) (fun _ _ q=>FlP.later E q) fun _ _ q=>FlX.later E q
noncomputable def y5z(y:Str)(names:List (Str×NameKind)):Bool:=decide (names.filter (fun p=>p.2 == .cell)=[(y,.cell)])
theorem y6d{M:Model}{A:Around}{E:Value->Shared->Prop}{s:Shared}{scope:Scope}{globals:Addr}{closure:List (Str×Addr)}{qual:Str}{env:Env}{y:Str}{Q:Env->Shared->Prop}(h1:y5z y scope.names=true)
 (hQ:Q (newEnv scope s.heap.objs.size globals ((y,s.heap.objs.size+1)::closure) qual none .none (some env) builtinsNs) { s with heap:=(s.heap.push { cls:=.type "dict",data:=.dict #[] }).push { cls:=.type "cell",data:=.cell none } }) :
 wpAny M A (newFunctionEnv scope globals closure [] qual none .none (some env)) Q E s:=by
 have h1:=of_decide_eq_true h1
 have sz:(s.heap.push { cls:=.type "dict",data:=.dict #[] }).objs.size=s.heap.objs.size+1:=Heap.size_push ..
 simp only[newFunctionEnv,Option.isSome_some,if_true]
 refine wpAny_bind (wpAny_alloc (wpAny_bind ?_))
 refine wpAny_forIn_list _ (fun rest b s'=>(rest.filter (fun p=>p.2 == .cell)=[(y,.cell)]/\b=closure/\s'={ s with heap:=s.heap.push { cls:=.type "dict",data:=.dict #[] } })∨(rest.filter (fun p=>p.2 == .cell)=[]/\b=(y,s.heap.objs.size+1)::closure/\s'={ s with heap:=(s.heap.push { cls:=.type "dict",data:=.dict #[] }).push { cls:=.type "cell",data:=.cell none } })) _ ?_ ?_ scope.names closure (.inl ⟨h1,rfl,rfl⟩)
 ·rintro⟨n,k⟩ rest b s' (⟨q1,rfl,rfl⟩ | ⟨q1,rfl,rfl⟩)
  ·by_cases hk:(k==NameKind.cell)=true
   ·rw[List.filter_cons,if_pos (show((n,k).2==NameKind.cell)=true from hk)] at q1
    injection q1 with q2 q3
    injection q2 with q4 q5
    simp only[hk,if_true]
    refine wpAny_bind (wpAny_alloc (wpAny_pure (.inr ⟨q3,?_,rfl⟩)))
    rw[q4,sz]
   ·rw[List.filter_cons,if_neg (show ¬((n,k).2==NameKind.cell)=true from hk)] at q1
    have hk':(k==NameKind.cell)=false:=by simpa using hk
    simp only[hk',Bool.false_eq_true,if_false]
    exact wpAny_pure (.inl ⟨q1,rfl,rfl⟩)
  ·by_cases hk:(k==NameKind.cell)=true
   ·rw[List.filter_cons,if_pos (show((n,k).2==NameKind.cell)=true from hk)] at q1;cases q1
   ·rw[List.filter_cons,if_neg (show ¬((n,k).2==NameKind.cell)=true from hk)] at q1
    have hk':(k==NameKind.cell)=false:=by simpa using hk
    simp only[hk',Bool.false_eq_true,if_false]
    exact wpAny_pure (.inr ⟨q1,rfl,rfl⟩)
 ·rintro b s' (⟨q1,_,_⟩ | ⟨_,rfl,rfl⟩)
  ·cases q1
  ·simp only[List.forIn_nil]
   exact wpAny_bind (wpAny_pure (wpAny_pure hQ))
noncomputable def y3r(N:List Str)(env:Env)(y:Str)(scope:Scope):Bool :=
 decide (scope.kind = .function)&&scope.names.all (fun p=>(decide (p.2 ≠ .cell)||decide (p.1=y))&&(decide (p.2 ≠ .local)||decide (scope.names.lookup p.1=some .local))&&(decide (p.2 ≠ .free)||((env.cells.lookup p.1).isSome&&(decide (env.scope.names.lookup p.1=some .cell)||decide (env.scope.names.lookup p.1=some .free)))))
  && (y5z y scope.names&&decide (scope.names.lookup y=some .cell))&&decide (scope.names.lookup (("":Str))=none)&&N.all (fun z=>decide (scope.names.lookup z≠some .local))&&N.all (fun z=>decide (z≠("":Str)))
structure CompOkC (N:List Str) (env:Env) (y:Str) (scope:Scope):Prop where
 kind:scope.kind = .function
 nocell:∀p∈scope.names,p.2 ≠ .cell∨p.1=y
 names:∀p∈scope.names,p.2 = .local->scope.names.lookup p.1=some .local
 free:∀p∈scope.names,p.2 = .free->(∃c,env.cells.lookup p.1=some c)/\(env.scope.names.lookup p.1=some .cell∨env.scope.names.lookup p.1=some .free)
 loc:y5z y scope.names=true/\scope.names.lookup y=some .cell
 nil:scope.names.lookup (("":Str))=none
 only:∀z∈N,scope.names.lookup z≠some .local
 none:∀z∈N,z≠("":Str)
theorem y9e{N:List Str}{env:Env}{y:Str}{scope:Scope}(h:y3r N env y scope=true):CompOkC N env y scope:=by
 unfold y3r at h
 simp only[Bool.and_eq_true,List.all_eq_true,Bool.or_eq_true,decide_eq_true_eq] at h
 obtain⟨⟨⟨⟨⟨h1,h2⟩,h3⟩,h4⟩,h5⟩,h6⟩:=h
 refine⟨h1,fun p hp=>(h2 p hp).1.1,fun p hp e=>((h2 p hp).1.2).resolve_left fun z=>z e,fun p hp e=>?_,h3,h4,fun z hz e=>h5 z hz e,h6⟩
 have q:=((h2 p hp).2).resolve_left fun z=>z e
 exact⟨Option.isSome_iff_exists.mp q.1,q.2⟩
noncomputable def z2i(X:Cx)(y:Str)(scope:Scope)(C cc:Addr)(s₂:Shared)(H₂:Hp)(fp:List Addr)(pn:List (Addr×Obj)):Cx :=
 { X with N:=y::X.N.map (fun z=>if z=y then ("":Str) else z),s₀:=s₂,H₀:=H₂,env:=compEnvC scope ((y,cc)::capt X.env scope.names []) C X.env,outer:=X.stack,ex:=fp,fn:=fun z=>z==y,pn:=pn,xe:=fun _ _=>False }
theorem y9f{X:Cx}{y:Str}{scope:Scope}{C cc Dd:Addr}{fp:List Addr}{pins pl:List (Addr×Obj)}{σ σ':St}{H₂ H':Hp}{s₂ s1:Shared}{xs:List V}{its:List Value}{n:Nat}(I:Inv X pins σ H₂ s₂)
 (J:Inv (z2i X y scope C cc s₂ H₂ fp (X.pn++pins)) pl σ' H' s1) (hD:s₂.heap.objs.size<=Dd) (hn:H' Dd=none) (hd:s1.heap.get? Dd=some { cls:=.type "list",data:=.seq its.toArray n }) (rv:Vals xs its) (hz:xs.length<=sizeLine) (hf:∀b∈fp,FpOk X pins H₂ b) :
 Inv X pins σ (upd H' Dd (.lst xs)) s1:=by
 have os:s1.os=s₂.os:=J.os
 have un:Un (frs X.stack) fp H₂ H' s₂.heap s1.heap:=J.base
 have hok:HOk X.prog X.w H' s1.heap:=J.hok
 have bare:AllBare s1.gens:=J.bare
 clear J
 obtain⟨hh,gg,dd,tt,os'⟩:=s1
 obtain rfl:os'=s₂.os:=os
 have neD:∀b o,s₂.heap.get? b=some o->b≠Dd:=fun b o e=>Nat.ne_of_lt (Nat.lt_of_lt_of_le (Heap.lt_size e) hD)
 refine I.call (h':=hh) (g':=gg) (d':=dd) (t':=tt) (ch:=fp) ⟨un.keep,un.slot,fun b o e n' hx=>?_,un.there,fun b ys e=>?_,fun b o u e=>?_,fun b ps e=>?_⟩ (y3m hok hn ⟨hz,its,n,rv,hd⟩) bare fun b hb=>?_
 ·rw[z0q (neD b o e)];exact un.free b o e n' hx
 ·have q:=un.tups b ys e
  rw[z0q (z0p q hn)];exact q
 ·have q:=un.frzs b o u e
  rw[z0q (z0p q hn)];exact q
 ·obtain⟨more,q⟩:=un.tbls b ps e
  exact⟨more,by rw[z0q (z0p q hn)];exact q⟩
 ·obtain⟨f0,f1,f2,f3,f4,f5⟩:=hf b hb
  exact⟨f3.imp_right fun z=>Heap.get?_none_of_le z,f1,f4,f5⟩
theorem z2p{X:Cx}{y:Str}{scope:Scope}{cc:Addr}{x:Str}{k:Addr}(e:((y,cc)::capt X.env scope.names []).lookup x=some k):(x=y/\k=cc)∨(x≠y/\X.env.cells.lookup x=some k):=by
 by_cases q:x=y
 ·subst q
  rw[List.lookup_cons_self] at e
  exact .inl ⟨rfl,(Option.some.inj e).symm⟩
 ·rw[List.lookup_cons,beq_eq_false_iff_ne.mpr q] at e
  rcases z3r scope.names [] (PySem.mem_of_lookup e) with z | z
  ·simp at z
  ·exact .inr ⟨q,z⟩
theorem x4i{X:Cx}{y:Str}{scope:Scope}{C cc:Addr}{fp:List Addr}{pins:List (Addr×Obj)}{σ:St}{H₂:Hp}{s₂:Shared}(I:Inv X pins σ H₂ s₂)(c:CompOkC X.N X.env y scope)(hC:s₂.heap.objs.size<=C)(hcc:s₂.heap.objs.size<=cc)(hf:∀b∈fp,FpOk X pins H₂ b)(ho:∀b∈fp,b<s₂.heap.objs.size) :
 (z2i X y scope C cc s₂ H₂ fp (X.pn++pins)).Ok:=by
 have lt:∀x k,X.env.cells.lookup x=some k->k<s₂.heap.objs.size:=fun x k e=>by obtain⟨v,q⟩:=I.cell x k e;exact q.lt
 refine⟨I.ok.mod,c.kind,I.ok.glob,I.ok.blt,hC,fun x z k h1 h2=>by
  rcases z2p h1 with ⟨a1,a2⟩ | ⟨a1,a2⟩<;>rcases z2p h2 with ⟨b1,b2⟩ | ⟨b1,b2⟩
  ·rw[a1,b1]
  ·have:=lt _ _ b2;rw[a2] at this;exact absurd (Nat.lt_of_lt_of_le this hcc) (Nat.lt_irrefl _)
  ·have:=lt _ _ a2;rw[b2] at this;exact absurd (Nat.lt_of_lt_of_le this hcc) (Nat.lt_irrefl _)
  ·exact I.ok.inj x z k a2 b2,fun x hx=>?_,fun x k h e=>by
  rcases z2p e with ⟨_,a2⟩ | ⟨a1,_⟩
  ·rw[a2];exact hcc
  ·exact absurd (beq_iff_eq.mp (show(x==y)=true from h)) a1,I.ok.hd,I.ok.frames,.inl rfl,fun b hb=>?_,I.bs,Nat.le_trans I.ok.bsz I.sz,fun b o e hb=>?_,fun b hb z=>?_,I.stack,I.stkFree⟩
 ·have hx':(relabel scope X.env).names.lookup x=some .cell∨(relabel scope X.env).names.lookup x=some .free:=hx
  have hm:∃k,(x,k)∈scope.names/\(k = .free∨k = .cell):=by
   rcases hx' with q | q <;>
   ·have m:=PySem.mem_of_lookup q
    unfold relabel at m
    simp only[List.mem_map] at m
    obtain⟨⟨n,k⟩,hm,e⟩:=m
    by_cases hc:(k==NameKind.free&&X.env.scope.kind == .function&&X.env.kindOf n==some .cell)=true
    ·rw[if_pos hc] at e
     have e1:n=x:=congrArg Prod.fst e
     subst e1
     rw[Bool.and_eq_true,Bool.and_eq_true] at hc
     exact⟨k,hm,.inl (y8t hc.1.1)⟩
    ·rw[if_neg hc] at e
     have e1:n=x:=congrArg Prod.fst e
     have e2:=congrArg Prod.snd e
     dsimp only at e2
     subst e1 e2
     exact⟨_,hm,by first | exact .inr rfl | exact .inl rfl⟩
  obtain⟨k,hm,hk⟩:=hm
  rcases hk with rfl | rfl
  ·obtain⟨⟨a,ea⟩,_⟩:=c.free _ hm rfl
   obtain⟨c',h1,_⟩:=z1l (List.mem_cons_of_mem (y,cc) (z5d ea scope.names [] hm))
   exact⟨c',h1⟩
  ·have:=(c.nocell _ hm).resolve_left fun z=>z rfl
   dsimp only at this
   subst this
   exact⟨cc,List.lookup_cons_self⟩
 ·refine⟨Nat.ne_of_lt (Nat.lt_of_lt_of_le (ho b hb) hC),fun x k e=>by
   rcases z2p e with ⟨_,a2⟩ | ⟨_,a2⟩
   ·intro z;have:=ho b hb;rw[<-z,a2] at this;exact absurd (Nat.lt_of_lt_of_le this hcc) (Nat.lt_irrefl _)
   ·exact(hf b hb).2.2.2.2.1 x k a2⟩
 ·rcases(hf b hb).2.2.2.1 with z | z
  ·exact I.ok.noex b o e z
  ·exact absurd (Nat.lt_of_lt_of_le (Nat.lt_of_lt_of_le (Heap.lt_size e) I.ok.bsz) z) (Nat.lt_irrefl _)
 ·rcases List.mem_cons.mp (I.stkSub b z) with q | q
  ·exact(hf b hb).2.1 q
  ·exact(hf b hb).2.2.1 q
theorem z5k{env:Env}:∀{names:List (Str×NameKind)} {x:Str},names.lookup x=some .cell ->
 (names.map fun(n,k)=>if (k==NameKind.free&&env.scope.kind == .function&&env.kindOf n==some .cell) then (n,NameKind.cell) else (n,k)).lookup x=some .cell
 | [],_,h=>by simp at h
 | (n,k)::r,x,h=>by
   rw[List.map_cons]
   by_cases e:x=n
   ·subst e
    rw[List.lookup_cons_self] at h
    cases h
    dsimp only
    rw[if_neg (by simp[show(NameKind.cell==NameKind.free)=false from rfl]),List.lookup_cons_self]
   ·rw[List.lookup_cons,beq_eq_false_iff_ne.mpr e] at h
    have:=z5k (env:=env) h
    dsimp only
    split<;>(rw[List.lookup_cons,beq_eq_false_iff_ne.mpr e];exact this)
section
variable {X:Cx}{y:Str}{scope:Scope}
theorem y6q{C cc Dd:Addr}{fp:List Addr}{pins:List (Addr×Obj)}{σ:St}{H₂:Hp}{s₂:Shared}{h₁:Heap}{tk:Nat}{oD:Obj}{m:Str->Option Value}(I:Inv X pins σ H₂ s₂)(c:CompOkC X.N X.env y scope)(hC:s₂.heap.objs.size<=C)(hD:s₂.heap.objs.size<=Dd)(hDC:Dd≠C)(hcc:s₂.heap.objs.size<=cc)(hic:h₁.IsCell cc none)(hf:∀b∈fp,FpOk X pins H₂ b)(ho:∀b∈fp,b<s₂.heap.objs.size)
 (old:∀b o,s₂.heap.get? b=some o->h₁.get? b=some o) (hns:h₁.Ns C m) (hd:h₁.get? Dd=some oD) (hdd:∀v,oD.data ≠ .cell v) :
 Inv (z2i X y scope C cc s₂ H₂ fp (X.pn++pins)) [(Dd,oD)] (none::σ) H₂ { s₂ with heap:=h₁,toks:=tk }:=by
 have nstk:∀b,s₂.heap.objs.size<=b->b ∉ frs X.stack:=fun b hb z=>by
  rcases List.mem_cons.mp (I.stkSub b z) with q | q
  ·exact absurd (Nat.lt_of_lt_of_le I.lt (by rw[<-q];exact hb)) (Nat.lt_irrefl _)
  ·exact I.nofs hb q
 refine⟨x4i I c hC hcc hf ho,rfl,I.bare,Un.kept old,⟨m,hns,fun i x v e1 e2 e3=>?_⟩,fun x k e=>?_,I.hok.fresh hC,fun x k e=>by
  rcases z2p e with ⟨_,a2⟩ | ⟨_,a2⟩
  ·rw[a2];exact I.hok.fresh hcc
  ·exact I.freeC x k a2,fun p hp=>?_,I.hok.kept old,?_⟩
 ·cases i with
  | zero=>simp at e2
  | succ i =>
    have e2':σ[i]? = some (some v):=by simpa using e2
    have e1':(X.N.map (fun z=>if z=y then ("":Str) else z))[i]? = some x:=by simpa [z2i] using e1
    rw[List.getElem?_map] at e1'
    cases hz:X.N[i]? with
    | none=>rw[hz] at e1';cases e1'
    | some z =>
      rw[hz] at e1'
      simp only[Option.map_some,Option.some.injEq] at e1'
      have e3':Vis (relabel scope X.env) x:=e3
      have look0:∀{k:NameKind},(relabel scope X.env).names.lookup x=some k->∃k',(x,k')∈scope.names/\(k'=k∨(k' = .free/\k = .cell)):=fun {k} q=>by
       have m':=PySem.mem_of_lookup q
       unfold relabel at m'
       simp only[List.mem_map] at m'
       obtain⟨⟨n,k0⟩,hm,e⟩:=m'
       by_cases hc:(k0==NameKind.free&&X.env.scope.kind == .function&&X.env.kindOf n==some .cell)=true
       ·rw[if_pos hc] at e
        have e1:n=x:=congrArg Prod.fst e
        have e2:=congrArg Prod.snd e
        dsimp only at e2
        subst e1 e2
        rw[Bool.and_eq_true,Bool.and_eq_true] at hc
        exact⟨k0,hm,.inr ⟨y8t hc.1.1,rfl⟩⟩
       ·rw[if_neg hc] at e
        have e1:n=x:=congrArg Prod.fst e
        have e2:=congrArg Prod.snd e
        dsimp only at e2
        subst e1 e2
        exact⟨_,hm,.inl rfl⟩
      have inames:∀k',(x,k')∈scope.names->x≠("":Str):=fun k' hm z=>by
       subst z
       obtain⟨c',h1,_⟩:=z1l hm
       rw[c.nil] at h1;cases h1
      have ne:x≠("":Str):=by
       rcases e3' with q | q | q<;>(obtain⟨k',hm,_⟩:=look0 q;exact inames k' hm)
      by_cases hzy:z=y
      ·rw[if_pos hzy] at e1';exact absurd e1'.symm ne
      ·rw[if_neg hzy] at e1'
       subst e1'
       have fr:(z,NameKind.free)∈scope.names:=by
        rcases e3' with q | q | q
        ·obtain⟨k',hm,hk⟩:=look0 q
         rcases hk with rfl | ⟨_,hk⟩
         ·exact absurd (c.names _ hm rfl) (c.only z (List.mem_of_getElem? hz))
         ·cases hk
        ·obtain⟨k',hm,hk⟩:=look0 q
         rcases hk with rfl | ⟨rfl,_⟩
         ·exact absurd ((c.nocell _ hm).resolve_left fun q=>q rfl) hzy
         ·exact hm
        ·obtain⟨k',hm,hk⟩:=look0 q
         rcases hk with rfl | ⟨_,hk⟩
         ·exact hm
         ·cases hk
       obtain⟨⟨ca,eca⟩,hv⟩:=c.free _ fr rfl
       obtain⟨m0,hn0,hl0⟩:=I.loc
       obtain⟨u,ru,lk⟩:=hl0 i z v hz e2' (.inr hv)
       refine⟨u,ru,?_⟩
       rcases lk with ⟨q,_⟩ | ⟨_,k,ek,hk⟩
       ·exfalso
        have q':X.env.scope.names.lookup z=some .local:=q
        rcases hv with w | w<;>(rw[q'] at w;cases w)
       ·obtain⟨c',h1,_⟩:=z1l (List.mem_cons_of_mem (y,cc) (z5d ek scope.names [] fr))
        have h2:=((z2p h1).resolve_left fun q=>hzy q.1).2
        rw[ek] at h2;cases h2
        refine .inr ⟨?_,k,h1,?_⟩
        ·rcases e3' with q | q | q
         ·exfalso
          obtain⟨k',hm,hk'⟩:=look0 q
          rcases hk' with rfl | ⟨_,hk'⟩
          ·exact c.only z (List.mem_of_getElem? hz) (c.names _ hm rfl)
          ·cases hk'
         ·exact .inl q
         ·exact .inr q
        ·obtain⟨o,ho',hd'⟩:=hk
         exact⟨o,old _ _ ho',hd'⟩
 ·rcases z2p e with ⟨_,a2⟩ | ⟨_,a2⟩
  ·rw[a2];exact⟨none,hic⟩
  ·obtain⟨v,o,ho',hd'⟩:=I.cell x k a2
   exact⟨v,o,old _ _ ho',hd'⟩
 ·rcases List.mem_append.mp hp with q | q
  ·obtain⟨h1,h2,h3,h4,h5⟩:=I.pin p q
   refine⟨old _ _ h1,h2,Nat.ne_of_lt (Nat.lt_of_lt_of_le (Heap.lt_size h1) hC),fun z=>?_,h5⟩
   rcases List.mem_cons.mp (I.stkSub p.1 z) with q' | q'
   ·exact h3 q'
   ·exact h4 q'
  ·have e:p=(Dd,oD):=by simpa using q
   subst e
   exact⟨hd,I.hok.fresh hD,hDC,nstk Dd hD,hdd⟩
 ·show σ.length+1=(y::X.N.map _).length
  rw[List.length_cons,List.length_map,I.len]
structure PC1C (X:Cx) (y:Str) (scope:Scope) (ifs:List Expr) (elt:Expr) (f:D->G->R (Option D)):Prop where
 run:∀(C cc:Addr) (s₂:Shared) (H₂:Hp) (fp:List Addr) (pn:List (Addr×Obj)) (pins:List (Addr×Obj)) (s:Shared) (σ:St) (H:Hp) (F:List Addr) (Γ:G) (d:D),Inv (z2i X y scope C cc s₂ H₂ fp pn) pins σ H s->FOk H F->Rel X.K H F (.ro d::Γ) σ->(∃o,f d Γ = .ok o) ->
  wpAny (model X.prog X.w) X.A (forIn ifs true fun c r=>if r=true then do let ok <-isTrue c (compEnvC scope ((y,cc)::capt X.env scope.names []) C X.env) (eval c (compEnvC scope ((y,cc)::capt X.env scope.names []) C X.env));pure (ForInStep.yield ok) else pure (ForInStep.yield r)) (fun ok s₃ =>
   if ok=true then wpAny (model X.prog X.w) X.A (eval elt (compEnvC scope ((y,cc)::capt X.env scope.names []) C X.env)) (fun u s₄=>∃e v H',f d Γ = .ok (some e)/\Inv (z2i X y scope C cc s₂ H₂ fp pn) pins σ H' s₄/\RelV v u/\Same H H'/\Is X.K (hid F H') e v) (fun _ _=>False) s₃
   else f d Γ = .ok none/\∃H',Inv (z2i X y scope C cc s₂ H₂ fp pn) pins σ H' s₃/\Same H H') (fun _ _=>False) s
theorem x5z{elt:Expr}{ge:G->R D}(he:∀C cc s₂ H₂ fp pn,PDr (z2i X y scope C cc s₂ H₂ fp pn) elt ge):PC1C X y scope [] elt (fElt ge):=by
 refine⟨fun C cc s₂ H₂ fp pn pins s σ H F Γ d I fo rl ⟨o,eo⟩=>?_⟩
 refine wpAny_tests_nil ?_
 rw[if_pos rfl]
 have hne:ge (.ro d::Γ) ≠ .no:=fun z=>by unfold fElt at eo;rw[z] at eo;cases eo
 refine wpAny_mono ((he C cc s₂ H₂ fp pn).run pins s σ H F (.ro d::Γ) I fo rl hne) (fun u s4 ⟨e,v,H',e1,I',rv,S,iv⟩=>⟨e,v,H',R.step e1 _,I',rv,S,iv⟩) fun x s' ⟨c,H',e1,_⟩=>?_
 unfold fElt at eo;rw[e1] at eo;cases eo
theorem y9g{elt iter:Expr}{px pos:Pos}{ifs:List Expr}{f:D->G->R (Option D)}{pins:List (Addr×Obj)}{σ:St}{H₂:Hp}{s₂:Shared}{F:List Addr}{Γ:G}{items:List D}{it:Addr}{fp:List Addr}{tn:Nat->Heap->Prop}{J:It}{E:Value->Shared->Prop}{total:List D}
 (hp:PC1C X y scope ifs elt f) (c:CompOkC X.N X.env y scope) (hN:X.N.Nodup) (hcalm:X.calm=true) (I:Inv X pins σ H₂ s₂) (fo:FOk H₂ F) (rl:Rel X.K H₂ F Γ σ) (T:Turn X.prog X.w X.K (.Name y px) J fp it tn) (t0:tn 0 s₂.heap) (hf:∀b∈fp,FpOk X pins H₂ b) (hj:JC X.K H₂ F J items)
 (ht:z0w (fun d=>f d Γ) items [] = .ok total) (hl:items.length<=100000) {RR:Value->Addr->Result->Shared->Prop}
 (hR:∀(Dd C:Addr) (xs:List V) (H':Hp) (m:Str->Option Value) (s':Shared),s₂.heap.objs.size<=C->Dd≠C->H₂ Dd=none->H' Dd=none->H' C=none->s₂.heap.objs.size<=Dd->Same H₂ H'->IsAll X.K (hid F H') total xs->Inv X pins σ (upd H' Dd (.lst xs)) s'->s'.heap.Ns C m->RR (.ref Dd) C (.ok .next) s') :
 wpAny (model X.prog X.w) X.A (newList []) (fun acc s₃=>wpAny (model X.prog X.w) X.A (newFunctionEnv scope X.env.globals (capt X.env scope.names []) [] X.env.qual none .none (some X.env)) (fun cenv s₄ =>
  codeAny (model X.prog X.w) X.A (.compStart (.ListComp elt [⟨.Name y px,iter,ifs,0⟩] scope pos) 0 (.ref it) acc { cenv with scope:=relabel scope X.env }) (RR acc cenv.locals) s₄) E s₃) E s₂:=by
 have ho:∀b∈fp,b<s₂.heap.objs.size:=fun b hb=>by obtain⟨o,e,_⟩:=T.obj _ _ t0 b hb;exact Heap.lt_size e
 refine wpAny_newObj_type (y6d c.loc.1 ?_)
 dsimp only
 generalize hH2:s₂.heap.push { cls:=.type "list",dict:=none,data:=.seq ([]:List Value).toArray }=H2
 have hCs:H2.objs.size=s₂.heap.objs.size+1:=by rw[<-hH2,Heap.size_push]
 generalize hh1:(H2.push { cls:=.type "dict",data:=.dict #[] }).push { cls:=.type "cell",data:=.cell none }=h₁
 have hns₁:h₁.Ns H2.objs.size (fun _=>none):=by
  rw[<-hh1]
  exact⟨_,#[],_,Heap.get?_push_of_some _ (Heap.get?_push_size _ rfl),rfl,by intro e he;simp at he,fun _=>rfl⟩
 have hic:h₁.IsCell (H2.objs.size+1) none:=by
  rw[<-hh1]
  refine⟨{ cls:=.type "cell",data:=.cell none },?_,rfl⟩
  rw[<-Heap.size_push H2 { cls:=.type "dict",data:=.dict #[] }]
  exact Heap.get?_push_size _ rfl
 have hold:∀b o,H2.get? b=some o->h₁.get? b=some o:=fun b o e=>by
  rw[<-hh1]
  exact Heap.get?_push_of_some _ (Heap.get?_push_of_some _ e)
 generalize hCC:H2.objs.size=C at hns₁ hic hCs ⊢
 generalize hcc0:C+1=cc at hic ⊢
 generalize hDD:s₂.heap.objs.size=Dd at hCs ⊢
 obtain⟨⟨hDC,hC,hD⟩,below⟩:=sb2 hCs hDD
 obtain⟨⟨hcc,hcD⟩,belowc⟩:=sb3 hCs hDD hcc0
 have old:∀b o,s₂.heap.get? b=some o->h₁.get? b=some o:=fun b o e=>hold b o (hH2 ▸ Heap.get?_push_of_some _ e)
 have hacc:h₁.get? Dd=some { cls:=.type "list",dict:=none,data:=.seq ([]:List Value).toArray }:=by
  refine hold _ _ ?_
  rw[<-hH2,<-hDD]
  exact Heap.get?_push_size _ rfl
 have J0:∀tk,Inv (z2i X y scope C cc s₂ H₂ fp (X.pn++pins)) [(Dd,{ cls:=.type "list",dict:=none,data:=.seq ([]:List Value).toArray })] (none::σ) H₂ { s₂ with heap:=h₁,toks:=tk }:=fun tk =>
  y6q I c hC hD hDC hcc hic hf ho old hns₁ hacc (fun v z=>nomatch z)
 have t1:tn 0 h₁:=T.keep _ _ _ t0 fun b hb o e=>old b o e
 have fpY:∀{H':Hp} {o:Obj},(∀b∈fp,H' b=none)->∀b∈fp,FpOk (z2i X y scope C cc s₂ H₂ fp (X.pn++pins)) [(Dd,o)] H' b:=fun {H' o} hn b hb=>by
  obtain⟨f0,f1,f2,f3,f4,f5⟩:=hf b hb
  have lt:=ho b hb
  refine⟨hn b hb,(below b lt).1,fun z=>?_,.inl hb,fun x k e=>?_,fun p hp'=>?_⟩
  ·rcases List.mem_cons.mp (I.stkSub b z) with q | q
   ·exact f1 q
   ·exact f2 q
  ·rcases z2p e with ⟨_,q⟩ | ⟨_,q⟩
   ·rw[q];exact Ne.symm (belowc b lt)
   ·exact f4 x k q
  ·rcases List.mem_append.mp hp' with q | q
   ·exact f5 p q
   ·have e:p=(Dd,o):=by simpa using q
    subst e
    exact Ne.symm (below b lt).2
 have NdY:(z2i X y scope C cc s₂ H₂ fp (X.pn++pins)).N.Nodup:=by
  show(y::X.N.map (fun z=>if z=y then ("":Str) else z)).Nodup
  refine List.nodup_cons.mpr ⟨fun z=>?_,?_⟩
  ·obtain⟨z',hz,e⟩:=List.mem_map.mp z
   by_cases q:z'=y
   ·rw[if_pos q] at e
    subst e
    have:=c.loc.2;rw[c.nil] at this;cases this
   ·rw[if_neg q] at e;exact q e
  ·have inj:∀a∈X.N,∀b∈X.N,(if a=y then ("":Str) else a)=(if b=y then ("":Str) else b)->a=b:=fun a ha b hb e=>by
    by_cases qa:a=y
    ·by_cases qb:b=y
     ·rw[qa,qb]
     ·rw[if_pos qa,if_neg qb] at e;exact absurd e.symm (c.none b hb)
    ·by_cases qb:b=y
     ·rw[if_neg qa,if_pos qb] at e;exact absurd e (c.none a ha)
     ·rw[if_neg qa,if_neg qb] at e;exact e
   have gen:∀l:List Str,(∀a∈l,a∈X.N)->l.Nodup->(l.map (fun z=>if z=y then ("":Str) else z)).Nodup:=by
    intro l
    induction l with
    | nil=>intro _ _;exact List.nodup_nil
    | cons a l ih =>
      intro hs nd
      obtain⟨n1,n2⟩:=List.nodup_cons.mp nd
      rw[List.map_cons]
      refine List.nodup_cons.mpr ⟨fun z=>?_,ih (fun b hb=>hs b (List.mem_cons_of_mem _ hb)) n2⟩
      obtain⟨b,hb,e⟩:=List.mem_map.mp z
      exact n1 (inj b (hs b (List.mem_cons_of_mem _ hb)) a (hs a List.mem_cons_self) e ▸ hb)
   exact gen X.N (fun _ h=>h) hN
 let L:Nat->Shared->Prop:=fun n s'=>∃(i:Nat) (H':Hp) (o:Option V) (xs:List V) (its:List Value) (acc:List D) (k:Nat),n=items.length-i/\i<=items.length/\Inv (z2i X y scope C cc s₂ H₂ fp (X.pn++pins)) [(Dd,{ cls:=.type "list",dict:=none,data:=.seq its.toArray k })] (o::σ) H' s' /\
  Same H₂ H'/\(∀b∈fp,H' b=none)/\tn i s'.heap/\Vals xs its/\acc.length<=i/\IsAll X.K (hid F H') acc xs/\z0w (fun d=>f d Γ) (items.drop i) acc = .ok total
 have loop:∀s₄:Shared,L items.length s₄->codeAny (model X.prog X.w) X.A (.compLoop (.ListComp elt [⟨.Name y px,iter,ifs,0⟩] scope pos) 0 (.ref it) (.ref Dd) (compEnvC scope ((y,cc)::capt X.env scope.names []) C X.env)) (RR (.ref Dd) C) s₄:=fun s₄ h4=>by
  refine codeAny_compLoop_tests L (fun n s' hL=>wpAny_mono (E:=fun _ _=>False) ?_ (fun _ _ q=>q) fun _ _ z=>z.elim) items.length h4
  obtain⟨i,H',o,xs,its,acc,k,en,hi,J',S',fr',tn',rv,hal,ia,eg⟩:=hL
  obtain⟨jgo,jstop⟩:=hj H' S'
  have hpD:=J'.pin (Dd,{ cls:=.type "list",dict:=none,data:=.seq its.toArray k }) (List.mem_append_right _ (by simp))
  have hxl:xs.length<=100000:=by rw[<-ia.length];exact Nat.le_trans hal (Nat.le_trans hi hl)
  have hsl:(100000:Nat)<=sizeLine:=by rw[sizeLine_eq];decide
  by_cases hlt:i<items.length
  ·obtain⟨go,yl⟩:=jgo i hlt
   refine thn (T.item (z2i X y scope C cc s₂ H₂ fp (X.pn++pins)) rfl rfl rfl hcalm i _ s' _ H' (fun _ _=>False) J' (fpY fr') tn' go) fun r s2 ⟨u,hr,h1⟩=>?_
   subst hr
   refine pure_J (a:=()) h1 fun⟨x,H5,J5,r5,y5,st5,fr5⟩=>?_
   obtain⟨e5,d,ed,iv⟩:=yl x H5 y5
   subst e5
   have J5':=J5.pinned (fpY fr5) (T.obj _ _ st5)
   have hdrop:items.drop i=d::items.drop (i+1):=by
    rw[List.drop_eq_getElem_cons hlt]
    have:items[i]=d:=by
     have:=List.getElem?_eq_getElem hlt
     rw[ed] at this;exact(Option.some.inj this).symm
    rw[this]
   rw[hdrop] at eg
   have hfo:∃od,f d Γ = .ok od/\(match od with | some e=>z0w (fun d=>f d Γ) (items.drop (i+1)) (acc++[e]) | none=>z0w (fun d=>f d Γ) (items.drop (i+1)) acc) = .ok total:=by
    unfold z0w at eg
    cases q:f d Γ with
    | no=>simp only[q] at eg;cases eg
    | er c'=>simp only[q] at eg;cases eg
    | ok od =>
      refine⟨od,rfl,?_⟩
      cases od with
      | none=>simp only[q] at eg;exact eg
      | some e=>simp only[q] at eg;exact eg
   obtain⟨od,eod,etot⟩:=hfo
   have hpg:PG (z2i X y scope C cc s₂ H₂ fp (X.pn++pins)).nox (.Name y px) (y8w 0):=y0o (X:=(z2i X y scope C cc s₂ H₂ fp (X.pn++pins)).nox) NdY rfl (.inr (z5k c.loc.2)) (.inl (show(y==y)=true from beq_self_eq_true y))
   refine wpAny_mono (hpg _ s2 (o::σ) H5 x u (fun σ' H'=>σ'=some x::σ/\H'=H5) (J5'.wish _) r5 ⟨rfl,rfl⟩) (fun _ s3 ⟨σ6,H6,J6,e6,e6'⟩=>?_) fun _ _ z=>z.elim
   subst e6 e6'
   have J6':=J6.unwish
   have fo6:=fo.same S'
   refine wpAny_mono (hp.run C cc s₂ H₂ fp (X.pn++pins) _ s3 _ H6 F Γ d J6' fo6 (y0c (rl.same S') iv) ⟨od,eod⟩) (fun ok s4 h4=>?_) fun _ _ z=>z.elim
   have back:∀{s5:Shared} {H7:Hp} {σ7:St},Inv (z2i X y scope C cc s₂ H₂ fp (X.pn++pins)) ([(Dd,{ cls:=.type "list",dict:=none,data:=.seq its.toArray k })]++y0m fp s2.heap) σ7 H7 s5->tn (i+1) s5.heap/\(∀b∈fp,H7 b=none):=fun {s5 H7 σ7} J7=>by
    refine⟨T.keep _ _ _ st5 fun b hb o' e=>(J7.pin (b,o') (List.mem_append_right _ (List.mem_append_right _ (z3v hb e)))).1,fun b hb=>?_⟩
    obtain⟨o',e,dd⟩:=T.obj _ _ st5 b hb
    exact(J7.pin (b,o') (List.mem_append_right _ (List.mem_append_right _ (z3v hb e)))).2.1
   cases ok with
   | false =>
     rw[if_neg Bool.false_ne_true] at h4 ⊢
     obtain⟨ef,H7,J7,S7⟩:=h4
     rw[eod] at ef;cases ef
     obtain⟨tn7,fr7⟩:=back J7
     exact⟨items.length-(i+1),sb1 en hlt,i+1,H7,some x,xs,its,acc,k,rfl,hlt,J7.unpinned,S'.trans S7,fr7,tn7,rv,Nat.le_succ_of_le hal,ia.same (z1y S7),etot⟩
   | true =>
     rw[if_pos rfl] at h4 ⊢
     refine wpAny_mono h4 (fun u7 s5 ⟨e,v7,H7,ef,J7,r7,S7,iv7⟩=>?_) fun _ _ z=>z.elim
     rw[eod] at ef;cases ef
     obtain⟨tn7,fr7⟩:=back J7
     have J8:=J7.unpinned
     have hpD7:=J8.pin (Dd,{ cls:=.type "list",dict:=none,data:=.seq its.toArray k }) (List.mem_append_right _ (by simp))
     have hlen:its.length=acc.length:=by rw[<-rv.length,<-ia.length]
     refine wpAny_list_append_plain (l:=Dd) (items:=its.toArray) (x:=u7) ⟨k,hpD7.1⟩ (fun h' hl' hs'=>?_) (by rw[List.size_toArray,<-rv.length];exact Nat.le_trans hxl hsl)
     obtain⟨k',hk'⟩:=hl'
     have epush:its.toArray.push u7=(its++[u7]).toArray:=by simp
     rw[epush] at hk'
     have J9:Inv (z2i X y scope C cc s₂ H₂ fp (X.pn++pins)) [] (some x::σ) H7 s5:=J8.pins_of fun p hp'=>by simp at hp'
     have J10:Inv (z2i X y scope C cc s₂ H₂ fp (X.pn++pins)) [] (some x::σ) H7 { s5 with heap:=h' }:=J9.turned (t':=s5.toks) (it:=Dd) (fun b o' hb e'=>(hs'.2 b hb).trans e') hpD7.2.1 hDC (.inr hD) (fun x' k'' e' z=>by
      rcases z2p e' with ⟨_,q⟩ | ⟨_,q⟩
      ·exact hcD (q ▸ z)
      ·obtain⟨v',o',ho',_⟩:=I.cell x' k'' q
       exact(below k'' (Heap.lt_size ho')).2 z) (fun p hp' z=>by
      rcases List.mem_append.mp hp' with q | q
      ·obtain⟨h1',_⟩:=I.pin p q
       exact(below p.1 (Heap.lt_size h1')).2 z
      ·simp at q)
     have J11:Inv (z2i X y scope C cc s₂ H₂ fp (X.pn++pins)) [(Dd,{ cls:=.type "list",dict:=none,data:=.seq (its++[u7]).toArray k' })] (some x::σ) H7 { s5 with heap:=h' }:=J10.pins_of fun p hp'=>by
      have e':p=(Dd,{ cls:=.type "list",dict:=none,data:=.seq (its++[u7]).toArray k' }):=by simpa using hp'
      subst e'
      exact⟨hk',hpD7.2.1,hDC,hpD7.2.2.2.1,fun v z=>nomatch z⟩
     refine⟨items.length-(i+1),sb1 en hlt,i+1,H7,some x,xs++[v7],its++[u7],acc++[e],k',rfl,hlt,J11,S'.trans S7,fr7,T.keep _ _ _ tn7 fun b hb o' e'=>(hs'.2 b (below b (ho b hb)).2).trans e',rv.append (.cons r7 .nil),by rw[List.length_append,List.length_singleton];exact Nat.succ_le_succ hal,(ia.same (z1y S7)).append (IsAll.cons iv7 IsAll.nil),etot⟩
  ·have hi':i=items.length:=Nat.le_antisymm hi (Nat.le_of_not_lt hlt)
   subst hi'
   refine thn (T.done (z2i X y scope C cc s₂ H₂ fp (X.pn++pins)) rfl rfl rfl hcalm _ _ s' _ H' (fun _ _=>False) J' (fpY fr') tn' jstop) fun r s1 ⟨hr,J1⟩=>?_
   subst hr
   have hpD1:=J1.pin (Dd,{ cls:=.type "list",dict:=none,data:=.seq its.toArray k }) (List.mem_append_right _ (by simp))
   rw[List.drop_length] at eg
   have:acc=total:=by unfold z0w at eg;cases eg;rfl
   subst this
   obtain⟨mC,hnC,_⟩:=J1.loc
   exact hR Dd C xs H' mC s1 hC hDC (I.hok.fresh hD) hpD1.2.1 J1.free hD S' ia (y9f I J1 hD hpD1.2.1 hpD1.1 rv (Nat.le_trans hxl hsl) hf) hnC
 have L0:∀tk,L items.length { s₂ with heap:=h₁,toks:=tk }:=fun tk=>⟨0,H₂,none,[],[],[],_,rfl,Nat.zero_le _,J0 tk,.refl _,fun b hb=>(hf b hb).1,t1,.nil,Nat.le_refl _,IsAll.nil,by rw[List.drop_zero];exact ht⟩
 exact codeAny_compStart_list (loop _ (L0 _)) (T.self _ 0 _ _ _ t1 (loop _ (L0 _)))
theorem y5v(i:Nat){p pos pos':Pos}{x:Str}{elt iter:Expr}{px:Pos}{ifs:List Expr}{f:D->G->R (Option D)}{gi:G->R (List D)}(hi':PIC X (.Name y px) iter gi)(hp:PC1C X y scope ifs elt f)(hN:X.N.Nodup)(hcalm:X.calm=true)(hi:X.N[i]? = some x:=by rfl)(hx:Loc X.env.scope x:=by first | exact Or.inl rfl | exact Or.inr rfl)
 (hsw:swapsWith (.ListComp elt [⟨.Name y px,iter,ifs,0⟩] scope p) (some (.Name x pos')) pos.line X.env=pure true:=by rfl) (hf:X.fn x=true∨X.env.scope.names.lookup x=some .local:=by first | exact .inl rfl | exact .inr rfl | assumption)
 (chk:y3r X.N X.env y scope=true:=by rfl) (hclos:closureFor scope X.env=pure (capt X.env scope.names []):=by rfl) (hs:∀x,foldedSetIterable iter X.env x=pure x:=by intro _;rfl) :
 PQ X (.Assign [.Name x pos'] (.ListComp elt [⟨.Name y px,iter,ifs,0⟩] scope p) pos) (z2s i (z2t gi f)):=by
 refine⟨fun pins s σ H F Γ I fo rl hg=>?_⟩
 have c:=y9e chk
 rw[exec_Assign_Name_used _ _ _ _ hsw]
 refine wpAny_bind (wpAny_standAt (wpAny_bind ?_))
 show wpAny _ X.A (do let _ <-comprehension (.ListComp elt [⟨.Name y px,iter,ifs,0⟩] scope p) scope X.env _ (newList []) false (eval iter X.env) (some (assign (.Name x pos') X.env))) _ _ s
 have hg0:=z2g hg
 refine wpAny_bind (wpAny_mono (wpAny_comprehension_free (use:=some (assign (.Name x pos') X.env)) (Q:=fun _ s'=>FlP X pins H F (z2s i (z2t gi f) Γ) .next s') rfl hs hclos c.kind c.names
  (wpAny_mono (hi'.run pins s σ H F Γ I fo rl (R.left hg0)) (fun xv s₁ h₁=>wpAny_mono h₁ (fun itv s₂ h₂=>?_) fun _ _ x=>(x.bind _).lift fo rl _) fun _ _ x=>(x.bind _).lift fo rl _)) (fun _ s' hq=>wpAny_pure (wpAny_pure hq)) fun _ _ e=>e)
 obtain⟨items,it,fp,tn,J,H₂,e1,rfl,I2,S2,T,t0,fk,jc⟩:=h₂
 have hgx:=R.next hg0 e1
 obtain⟨hl,e2⟩:=R.guard_ne hgx
 have hne:z0w (fun d=>f d Γ) items [] ≠ .no:=by
  have:=R.next hg0 e1
  rw[e2] at this;exact this
 obtain⟨total,et⟩:=z5l hne
 have eT:z2t gi f Γ = .ok total:=(R.step e1 _).trans (e2.trans et)
 refine y9g (RR:=fun acc C=>compPost (model X.prog X.w) X.A _ (some (assign (.Name x pos') X.env)) _ acc C) hp c hN hcalm I2 (fo.same S2) (rl.same S2) T t0 fk jc et hl ?_
 intro Dd C xs H' m s' hC hDC hn hn' hnC hD S' ia I' hnsC
 have nlt:∀{b:Addr} {o:Obj},s₂.heap.get? b=some o->b≠C:=fun e=>Nat.ne_of_lt (Nat.lt_of_lt_of_le (Heap.lt_size e) hC)
 have S3:=z1x hn' (.lst xs)
 have hall:Same H (upd H' Dd (.lst xs)):=(S2.trans S').trans S3
 have hH:H Dd=none:=S2.free hn
 have ia':IsAll X.K (hid (Dd::F) (upd H' Dd (.lst xs))) total xs:=ia.same fun b o hb=>by
  obtain⟨z1,z2⟩:=z2v hb
  have hbl:b≠Dd:=z0p z2 hn'
  rw[z1j fun z=>(List.mem_cons.mp z).elim hbl z1,z0q hbl]
  exact z2
 show wpAny _ X.A (assign (.Name x pos') X.env (.ref Dd)) _ _ s'
 refine wpAny_assign_Name (z8l (v:=.ref Dd) I' hN hi hx rfl (fun s3 I3 hsb=>?_) hf)
 obtain⟨aa,hsb,haa⟩:=hsb
 have haC:aa≠C:=by
  rcases haa with z | z
  ·subst z;exact Nat.ne_of_lt (Nat.lt_of_lt_of_le I2.lt hC)
  ·obtain⟨v,o,ho,_⟩:=I2.cell x aa z;exact nlt ho
 refine⟨m,hnsC.sameBut hsb (Ne.symm haC),fun h'' hs''=>?_⟩
 have I4:Inv X pins (σ.set i (some (.ref Dd))) (upd H' Dd (.lst xs)) { s3 with heap:=h'' }:=I3.turned (t':=s3.toks) (it:=C) (fun b o hb e=>hs''.extBut b o hb e) (by rw[z0q (Ne.symm hDC)];exact hnC) (Nat.ne_of_gt (Nat.lt_of_lt_of_le I2.lt hC)) (.inr (Nat.le_trans I2.sz hC))
  (fun x k e=>by obtain⟨v,o,ho,_⟩:=I2.cell x k e;exact nlt ho) (fun p hp'=>nlt (I2.pin p hp').1)
 exact⟨_,z4j eT,_,_,Dd::F,I4,(fo.same hall).cons z0v,rl.set_own fo hall hH z0v ia',⟨fun b o _ h=>hall _ _ h,fun b hb=>(List.mem_cons.mp hb).elim (fun z=>.inr (z ▸ hH)) .inl⟩⟩
end
section
variable {X:Cx}{e:Expr}{pos p:Pos}{x:Str}{es:List Expr}{gs:G->R (List D)}
theorem x6p{P:Program}{w:World}{H:Hp}{h:Heap}{F:List Addr}(fo:FOk H F)(k:HOk P w H h):HOk P w (hid F H) h:=fun b u e=>by
 have out:∀{c:Addr} {o:HO},H c=some o->(∀xs,o ≠ .lst xs)->hid F H c=some o:=fun {c o} q n=>by
  rw[z1j fun z=>by obtain⟨xs,e⟩:=fo c z;rw[q] at e;cases e;exact n xs rfl];exact q
 exact(k b u (z2v e).2).stay (fun c v _ q=>q) (fun c q=>out q fun xs z=>nomatch z) fun c xs q=>out q fun xs z=>nomatch z
end
section
variable {M:Model}{A:Around}{E:Value->Shared->Prop}{env:Env}{s:Shared}
end
section
variable {X:Cx}{y:Str}{scope:Scope}
structure PC1X (X:Cx) (y:Str) (scope:Scope) (ifs:List Expr) (elt:Expr) (f:D->G->R (Option D)):Prop where
 run:∀(C:Addr) (s₂:Shared) (H₂:Hp) (fp:List Addr) (pn:List (Addr×Obj)),(∀b∈fp,∃o,(b,o)∈pn)->∀(pins:List (Addr×Obj)) (s:Shared) (σ:St) (H:Hp) (F:List Addr) (Γ:G) (d:D),Inv (z2a X y scope C s₂ H₂ fp pn) pins σ H s->FOk H F->Rel X.K H F (.ro d::Γ) σ->f d Γ ≠ .no ->
  wpAny (model X.prog X.w) X.A (forIn ifs true fun c r=>if r=true then do let ok <-isTrue c (compEnvC scope (capt X.env scope.names []) C X.env) (eval c (compEnvC scope (capt X.env scope.names []) C X.env));pure (ForInStep.yield ok) else pure (ForInStep.yield r)) (fun ok s₃ =>
   if ok=true then wpAny (model X.prog X.w) X.A (eval elt (compEnvC scope (capt X.env scope.names []) C X.env)) (fun u s₄=>∃e v H',f d Γ = .ok (some e)/\Inv (z2a X y scope C s₂ H₂ fp pn) pins σ H' s₄/\RelV v u/\Same H H'/\Is X.K (hid F H') e v) (fun x s'=>∃c H',f d Γ = .er c/\Same H H'/\y5p (z2a X y scope C s₂ H₂ fp pn) pins σ H' c x s') s₃
   else f d Γ = .ok none/\∃H',Inv (z2a X y scope C s₂ H₂ fp pn) pins σ H' s₃/\Same H H') (fun x s'=>∃c H',f d Γ = .er c/\Same H H'/\y5p (z2a X y scope C s₂ H₂ fp pn) pins σ H' c x s') s
end
section
variable {X:Cx}{e a b c:Expr}{g ga gb gc:G->R D}{pos p:Pos}{x:Str}{es:List Expr}{gs:G->R (List D)}
end
section
variable {X:Cx}{e:Expr}{g:G->R D}{pos p pos':Pos}
end
section
variable {X:Cx}{e a b c:Expr}{g ga gb gc:G->R D}{pos:Pos}
end
namespace Rv
end Rv
section
variable {prog:Program}{w:World}{A:Around}{E:Value->Shared->Prop}{s:Shared}
end
section
variable {X:Cx}{a:Expr}{ga:G->R D}
end
section
variable {X:Cx}{e:Expr}{pos p:Pos}{x:Str}{es:List Expr}{gs:G->R (List D)}
theorem x9g{k:Nat}{f:Addr}{fd:FuncData}{ps:List Str}{φ:List D->R D}(Fn:FnD X.prog X.w X.K X.mg X.base k f fd ps φ)(hr:Room k X.A){pins:List (Addr×Obj)}{σ:St}{H:Hp}{F:List Addr}{s:Shared}{us:List Value}{vs:List V}{ds:List D}{d':D}{EE:Value->Shared->Prop}
 (I:Inv X pins σ H s) (fo:FOk H F) (r:Vals vs us) (i:IsAll X.K (hid F H) ds vs) (hg:φ ds = .ok d'):wpAny (model X.prog X.w) X.A (call (.ref f) us) (fun u s'=>∃v H',Inv X pins σ H' s'/\RelV v u/\Same H H'/\Is X.K (hid F H') d' v) EE s:=by
 have hsp:spD X.K X.mg φ vs (hid F H) (fun v H'=>Same (hid F H) H'/\Is X.K H' d' v) (fun _ _ _=>False) :=
  ⟨ds,i,(by rw[hg];exact fun z=>nomatch z),fun d v H' e S iv=>by rw[hg] at e;cases e;exact⟨S,iv⟩,fun c C H' e=>by rw[hg] at e;cases e⟩
 have hl:us.length=ps.length:=by rw[<-r.length];exact Fn.ok.len _ _ _ _ hsp
 have hb:=Fn.binds s us I.kIn (by rw[List.append_nil];exact hl)
 rw[List.append_nil] at hb
 have nh:∀{b:Addr},H b=none->hid F H b=none:=fun {b} q=>by
  by_cases hb:b∈F
  ·exact y4v hb
  ·rw[z1j hb];exact q
 have e0:=I.env0
 have en:Env0 X.prog X.w X.K X.mg X.base X.A X.stack s (hid F H):=⟨e0.frames,e0.mod,fun b o q=>⟨(e0.bs b o q).1,nh (e0.bs b o q).2⟩,e0.bsz,e0.funs,fun b hb=>nh (e0.frf b hb),x6p fo e0.hok,e0.bare⟩
 refine wpAny_call (codeAny_mono (Fn.ok.run X.A X.stack s (hid F H) ⟨us,[]⟩ us vs _ _ hr en hb r hsp) fun r' s' hq=>?_)
 cases r' with
 | error u=>obtain⟨_,_,_,_,_,_,_,_,_,_,_,_,_,_,_,_,_,_,_,_,_,_,_,_,_,_,hE⟩:=hq;exact hE.elim
 | ok fl =>
   cases fl with
   | ret u =>
     obtain⟨v,H1,os,bare,un,hok,rv,S,h3⟩:=hq
     have own:∀b,b∈F->∃ys its n,H b=some (.lst ys)/\ys.length<=sizeLine/\Vals ys its/\s'.heap.get? b=some { cls:=.type "list",data:=.seq its.toArray n }/\H1 b=none:=fun b hb=>by
      obtain⟨ys,ey⟩:=fo b hb
      obtain⟨z,its,n,rv',gt⟩:=I.hok b _ ey
      exact⟨ys,its,n,ey,z,rv',un.keep b _ gt (y4v hb) (fun z=>by rw[e0.frf b z] at ey;cases ey) (by simp),un.free b _ gt (y4v hb) (by simp)⟩
     let H2:Hp:=fun b=>if b∈F then H b else H1 b
     have in2:∀{b},b∈F->H2 b=H b:=fun {b} h=>if_pos h
     have out2:∀{b},b ∉ F->H2 b=H1 b:=fun {b} h=>if_neg h
     have up:∀{b o},H1 b=some o->b ∉ F/\H2 b=some o:=fun {b o} q=>by
      have hb:b ∉ F:=fun z=>by obtain⟨_,_,_,_,_,_,_,z2⟩:=own b z;rw[q] at z2;cases z2
      exact⟨hb,(out2 hb).trans q⟩
     have notl:∀{b o},H b=some o->(∀ys,o ≠ .lst ys)->b ∉ F:=fun {b o} q n z=>by obtain⟨ys,e⟩:=fo b z;rw[q] at e;cases e;exact n ys rfl
     have un2:Un (frs X.stack) [] H H2 s.heap s'.heap:=by
      refine⟨fun b o q n=>un.keep b o q (nh n),fun b o q n=>un.slot b o q (nh n),fun b o q n hx=>?_,un.there,fun b ys q=>?_,fun b o u q=>?_,fun b ps q=>?_⟩
      ·have hb:b ∉ F:=fun z=>by obtain⟨ys,e⟩:=fo b z;rw[n] at e;cases e
       rw[out2 hb];exact un.free b o q (nh n) hx
      ·have hb:=notl q fun ys z=>nomatch z
       rw[out2 hb];exact un.tups b ys (by rw[z1j hb];exact q)
      ·have hb:=notl q fun ys z=>nomatch z
       rw[out2 hb];exact un.frzs b o u (by rw[z1j hb];exact q)
      ·have hb:=notl q fun ys z=>nomatch z
       rw[out2 hb];exact un.tbls b ps (by rw[z1j hb];exact q)
     have hok2:HOk X.prog X.w H2 s'.heap:=fun b u q=>by
      by_cases hb:b∈F
      ·obtain⟨ys,its,n,ey,z,rv',gt,_⟩:=own b hb
       rw[in2 hb,ey] at q
       cases q
       exact⟨z,its,n,rv',gt⟩
      ·rw[out2 hb] at q
       exact(hok b u q).stay (fun c v _ e=>e) (fun c e=>(up e).2) fun c ys e=>(up e).2
     have I2:Inv X pins σ H2 s':=I.call' os un2 hok2 bare (fun b z=>absurd z (by simp))
     have S2:Same H H2:=fun b o q=>by
      by_cases hb:b∈F
      ·rw[in2 hb];exact q
      ·rw[out2 hb];exact S b o (by rw[z1j hb];exact q)
     have Sx:Same H1 (hid F H2):=fun b o q=>by rw[z1j (up q).1];exact(up q).2
     exact⟨v,H2,I2,rv,S2,h3.same Sx⟩
   | next=>exact False.elim hq
   | brk=>exact False.elim hq
   | cont=>exact False.elim hq
theorem y4n{k:Nat}{f:Addr}{fd:FuncData}{ps:List Str}{φ:List D->R D}(Fn:FnD X.prog X.w X.K X.mg X.base k f fd ps φ)(hr:Room k X.A)(hm:X.mg x=some (.ref f))(ha:PADr X (e::es) gs)(hg:Gl X x:=by rfl)(hdb:(x==("__debug__":Str))=false:=by decide)
 (he:starEach (e::es) X.env=(false,eval e X.env)::starEach es X.env:=by rfl) (hpl:(backTo pos (starEach es X.env)).any (·.1)=false:=by rfl):PDr X (.Call (.Name x p) (e::es) [] pos) (y1f φ gs):=by
 refine⟨fun pins s σ H F Γ I fo rl hgg=>?_⟩
 refine wpAny_Call_Name_kw (y0z I hg hm ?_ hdb)
 refine PySem.W.callWith_K (h₀:=X.base) I.ok.mod.kin Fn.kp (wpAny_mono (ha.run pos pins s σ H F Γ I fo rl (R.left hgg)) (fun us s1 ⟨ds,vs,H1,e1,I1,r1,S1,i1⟩=>⟨I1.kIn,?_⟩) fun _ _ x=>x.bind _) he hpl
 have hg1:=R.next hgg e1
 cases q:φ ds with
 | no=>rw[q] at hg1;exact absurd rfl hg1
 | er c=>rw[q] at hg1;exact absurd rfl hg1
 | ok d =>
   refine wpAny_mono (x9g (EE:=z1n X pins σ H (y1f φ gs Γ)) Fn hr I1 (fo.same S1) r1 i1 q) (fun u s' ⟨v,H',I',rv,S,h2⟩=>?_) fun _ _ z=>z
   have e2:y1f φ gs Γ = .ok d:=(R.step e1 _).trans (by rw[q])
   exact⟨d,v,H',e2,I',rv,S1.trans S,h2⟩
end
section
variable {X:Cx}{e:Expr}{g:G->R D}{pos pt:Pos}
end
section
variable {prog:Program}{w:World}{A:Around}{E:Value->Shared->Prop}{s:Shared}
end
section
variable {X:Cx}{a:Expr}{ga:G->R D}{st:Expr}{gt:G->R (Option Int)}{pos p2:Pos}
end
theorem y0k:∀(bs:List Int) (n:Nat),preSum (fun i=>(bs[i]?).getD 0) n=(bs.take n).sum
 | bs,0=>by simp[preSum]
 | bs,n+1=>by
   have ih:=y0k bs n
   have e:preSum (fun i=>(bs[i]?).getD 0) (n+1)=preSum (fun i=>(bs[i]?).getD 0) n+(bs[n]?).getD 0:=rfl
   rw[e,ih,List.take_add_one,List.sum_append]
   cases bs[n]? with
   | none=>simp
   | some x=>simp
section
variable {X:Cx}{e a b c:Expr}{g ga gb gc:G->R D}{pos:Pos}
theorem x2z(hc:X.calm=true):z8a X (.builtin "sum") (fun xs H Q=>∃(a:Addr) (bs:List Int),xs=[.ref a]/\SqT X.K H a (bs.map V.int)/\Q (.int bs.sum) H):=by
 intro pins s σ H xs us Q I r h
 obtain⟨a,bs,rfl,hq,q⟩:=h
 obtain⟨u,rfl,ru⟩:=y3v r
 cases ru
 obtain⟨its,rv,pl,_⟩:=I.tuple hq
 have hl:s.heap.IsTuple a its.toArray:=pl
 have hlt:a<s.heap.objs.size:=by obtain⟨_,e,_⟩:=hl;exact Heap.lt_size e
 have hlen:its.length=bs.length:=by rw[<-rv.length,List.length_map]
 refine call_sum_walkG (wpAny_pyIter_tuple hl ?_)
 refine⟨s.heap.objs.size,[s.heap.objs.size,a],[s.heap.objs.size],its.toArray.size,_,_,fun i=>(bs[i]?).getD 0,rfl,Walks.tuple (A:=X.A.in1) (I.ok.hd hc) _ a (Nat.ne_of_lt hlt) its.toArray,
  ⟨⟨_,Heap.get?_push_size _ rfl,rfl,rfl⟩,hl.push _⟩,fun b hb=>?_,fun i v hP=>?_,fun h' tk t' hk=>?_⟩
 ·have hs:(s.heap.push { cls:=.type "tuple_iterator",data:=.fields #[.ref a,.int 0 0] }).objs.size=s.heap.objs.size+1:=Heap.size_push ..
  simp only[List.mem_cons,List.not_mem_nil,or_false] at hb
  rcases hb with rfl | rfl
  ·show s.heap.objs.size<(s.heap.push _).objs.size
   rw[Heap.size_push];exact Nat.lt_succ_self _
  ·show b<(s.heap.push _).objs.size
   rw[Heap.size_push];exact Nat.lt_succ_of_lt hlt
 ·obtain⟨b,t,e,rfl⟩:=y3k rv (i:=i) (v:=v) (by simpa using hP)
  exact⟨t,by show Value.int b t=Value.int ((bs[i]?).getD 0) t;rw[e];rfl⟩
 ·have e:preSum (fun i=>(bs[i]?).getD 0) its.toArray.size=bs.sum:=by
   rw[y0k,List.size_toArray,hlen,List.take_of_length_le (Nat.le_refl _)]
  refine⟨.int bs.sum,H,I.kept (fun b x ex=>hk b x (fun hm=>by rw[List.mem_singleton.mp hm] at ex;exact Nat.lt_irrefl _ (Heap.lt_size ex)) (Heap.get?_push_of_some _ ex)),⟨t',by rw[e]⟩,q⟩
theorem x6x(hc:X.calm=true):z9x X (.builtin "sum") y6m:=by
 refine⟨_,x2z (X:=X.nox) hc,fun H xs ds i hg=>?_⟩
 unfold y6m at hg
 split at hg
 ·rename_i ys
  obtain⟨v,rfl,h⟩:=z7j i
  obtain⟨a,zs,rfl,h1,h2⟩:=Is.tup_iff.mp h
  cases q:ints? ys with
  | none=>rw[q] at hg;exact absurd rfl hg
  | some ns =>
    have:=ints?_some q
    subst this
    rw[h2.ints_eq] at h1
    exact⟨a,ns,rfl,h1,.int ns.sum,by show y6m [.tup (ns.map D.int)]=_;simp only[y6m,q],.refl _,Is.int_iff.mpr rfl⟩
 ·exact absurd rfl hg
end
section
variable {X:Cx}{e a b c:Expr}{g ga gb gc:G->R D}{pos:Pos}
end
section
variable {X:Cx}
end
section
variable {prog:Program}{w:World}{A:Around}{E:Value->Shared->Prop}{s:Shared}
end
section
variable {X:Cx}{a b:Expr}{ga gb:G->R D}
end
section
variable {X:Cx}{e a b c:Expr}{g ga gb gc:G->R D}{gs:G->R (List D)}{pos pos' p:Pos}
end
structure TabK (led:Bool) (t:SetTable):Prop where
 led:t.led=led
 dum:t.dummies=#[]
 up:t.plain=true->t.place.toList.Pairwise (·<·)
section
variable {prog:Program}{w:World}{A:Around}{E:Value->Shared->Prop}{s:Shared}
end
section
variable {prog:Program}{w:World}{A:Around}{E:Value->Shared->Prop}{s:Shared}
end
section
variable {prog:Program}{w:World}{A:Around}{E:Value->Shared->Prop}{s:Shared}
end
section
variable {prog:Program}{w:World}{A:Around}{E:Value->Shared->Prop}{s:Shared}
end
section
variable {prog:Program}{w:World}{A:Around}{E:Value->Shared->Prop}{s:Shared}
end
section
variable {prog:Program}{w:World}{A:Around}{E:Value->Shared->Prop}{s:Shared}
end
section
variable {prog:Program}{w:World}{A:Around}{E:Value->Shared->Prop}{s:Shared}
end
section
variable {prog:Program}{w:World}{A:Around}{E:Value->Shared->Prop}{s:Shared}
end
section
variable {X:Cx}{e a b c:Expr}{g ga gb gc:G->R D}{gs:G->R (List D)}{pos pos' p p2:Pos}
end
section
variable {X:Cx}
end
section
variable {prog:Program}{w:World}{A:Around}{E:Value->Shared->Prop}{s:Shared}
end
section
variable {prog:Program}{w:World}{A:Around}{E:Value->Shared->Prop}{s:Shared}
end
section
variable {X:Cx}{a b:Expr}{ga gb:G->R D}
end
end L3
namespace Row
open PySem PySem.Spec PyProof.Rows L2 L3
noncomputable def top(i:Nat):Stmt:=PySem.Challenge.pw_longrounds_k55_whole_shut_off_for_ever.main.body.getD i (.Pass ⟨0,0,0,0⟩)
noncomputable abbrev s_p:Stmt:=top 38
theorem sc_p:FnScope ["script","k"] ["script","k"] (z0d s_p):=⟨rfl,rfl,rfl,by decide +kernel,rfl,by decide +kernel,by decide +kernel⟩
noncomputable abbrev s_d:Stmt:=top 40
theorem sc_d:FnScope ["cell","P","size","out","k"] ["cell","P","size"] (z0d s_d):=⟨rfl,rfl,rfl,by decide +kernel,rfl,by decide +kernel,by decide +kernel⟩
noncomputable abbrev s_k:Stmt:=top 43
theorem sc_k:FnScope ["cell"] ["cell"] (z0d s_k):=⟨rfl,rfl,rfl,by decide +kernel,rfl,by decide +kernel,by decide +kernel⟩
noncomputable abbrev s_t:Stmt:=top 44
theorem sc_t:FnScope ["cell","more","P","many","x","form"] ["cell","more","P","many"] (z0d s_t):=⟨rfl,rfl,rfl,by decide +kernel,rfl,by decide +kernel,by decide +kernel⟩
noncomputable abbrev s_o:Stmt:=top 45
theorem sc_o:FnScope ["cells","P","many","agains","items","deep","k","few","level"] ["cells","P","many","agains"] (z0d s_o):=⟨rfl,rfl,rfl,by decide +kernel,rfl,by decide +kernel,by decide +kernel⟩
noncomputable abbrev s_h:Stmt:=top 39
theorem sc_h:FnScope ["cell","n"] ["cell"] (z0d s_h):=⟨rfl,rfl,rfl,by decide +kernel,rfl,by decide +kernel,by decide +kernel⟩
noncomputable abbrev s_l:Stmt:=top 46
theorem sc_l:FnScope ["P","size","found","n"] ["P","size","found"] (z0d s_l):=⟨rfl,rfl,rfl,by decide +kernel,rfl,by decide +kernel,by decide +kernel⟩
noncomputable abbrev s_f:Stmt:=top 47
theorem sc_f:FnScope ["P","many","stands","weights","goal","x"] ["P","many","stands","weights","goal"] (z0d s_f):=⟨rfl,rfl,rfl,by decide +kernel,rfl,by decide +kernel,by decide +kernel⟩
noncomputable abbrev s_j:Stmt:=top 41
theorem sc_j:FnScope ["P","form","stand"] ["P","form","stand"] (z0d s_j):=⟨rfl,rfl,rfl,by decide +kernel,rfl,by decide +kernel,by decide +kernel⟩
noncomputable abbrev s_e:Stmt:=top 42
theorem sc_e:FnScope ["P","table","stand"] ["P","table","stand"] (z0d s_e):=⟨rfl,rfl,rfl,by decide +kernel,rfl,by decide +kernel,by decide +kernel⟩
noncomputable abbrev s_B:Stmt:=top 9
theorem sc_B:FnScope ["width","place"] ["width","place"] (z0d s_B):=⟨rfl,rfl,rfl,by decide +kernel,rfl,by decide +kernel,by decide +kernel⟩
noncomputable abbrev s_I:Stmt:=top 10
theorem sc_I:FnScope ["many"] ["many"] (z0d s_I):=⟨rfl,rfl,rfl,by decide +kernel,rfl,by decide +kernel,by decide +kernel⟩
noncomputable abbrev s_i:Stmt:=top 11
theorem sc_i:FnScope ["form","table","place"] ["form","table","place"] (z0d s_i):=⟨rfl,rfl,rfl,by decide +kernel,rfl,by decide +kernel,by decide +kernel⟩
noncomputable abbrev s_on:Stmt:=top 4
theorem x7q:FnScope ["P","n"] ["P","n"] (z0d s_on):=⟨rfl,rfl,rfl,by decide +kernel,rfl,by decide +kernel,by decide +kernel⟩
noncomputable abbrev s_n:Stmt:=top 12
theorem sc_n:FnScope ["P","table","form","many","numbers"] ["P","table","form"] (z0d s_n):=⟨rfl,rfl,rfl,by decide +kernel,rfl,by decide +kernel,by decide +kernel⟩
noncomputable abbrev s_J:Stmt:=top 13
theorem sc_J:FnScope ["P","one","other"] ["P","one","other"] (z0d s_J):=⟨rfl,rfl,rfl,by decide +kernel,rfl,by decide +kernel,by decide +kernel⟩
noncomputable abbrev s_D:Stmt:=top 16
theorem sc_D:FnScope ["P","table","n","rungs","rung","figure"] ["P","table","n"] (z0d s_D):=⟨rfl,rfl,rfl,by decide +kernel,rfl,by decide +kernel,by decide +kernel⟩
noncomputable abbrev s_r:Stmt:=top 17
theorem sc_r:FnScope ["rungs","n"] ["rungs","n"] (z0d s_r):=⟨rfl,rfl,rfl,by decide +kernel,rfl,by decide +kernel,by decide +kernel⟩
noncomputable abbrev s_E:Stmt:=top 18
theorem sc_E:FnScope ["P","table","n","whole","rung"] ["P","table","n"] (z0d s_E):=⟨rfl,rfl,rfl,by decide +kernel,rfl,by decide +kernel,by decide +kernel⟩
noncomputable abbrev s_x:Stmt:=top 14
theorem sc_x:FnScope ["many","x","form","forms"] ["many","x","form"] (z0d s_x):=⟨rfl,rfl,rfl,by decide +kernel,rfl,by decide +kernel,by decide +kernel⟩
noncomputable abbrev s_v:Stmt:=top 20
theorem sc_v:FnScope ["P","many","items","whole","item"] ["P","many","items"] (z0d s_v):=⟨rfl,rfl,rfl,by decide +kernel,rfl,by decide +kernel,by decide +kernel⟩
noncomputable abbrev s_b:Stmt:=top 19
theorem sc_b:FnScope ["P","many","item"] ["P","many","item"] (z0d s_b):=⟨rfl,rfl,rfl,by decide +kernel,rfl,by decide +kernel,by decide +kernel⟩
noncomputable abbrev s_G:Stmt:=top 7
theorem sc_G:FnScope ["P","form","stand","many"] ["P","form","stand"] (z0d s_G):=⟨rfl,rfl,rfl,by decide +kernel,rfl,by decide +kernel,by decide +kernel⟩
noncomputable abbrev s_z:Stmt:=top 8
theorem sc_z:FnScope ["P","table","stand"] ["P","table","stand"] (z0d s_z):=⟨rfl,rfl,rfl,by decide +kernel,rfl,by decide +kernel,by decide +kernel⟩
noncomputable abbrev s_H:Stmt:=top 21
theorem sc_H:FnScope ["P","many","items","n","stand"] ["P","many","items","n","stand"] (z0d s_H):=⟨rfl,rfl,rfl,by decide +kernel,rfl,by decide +kernel,by decide +kernel⟩
noncomputable abbrev s_K:Stmt:=top 5
theorem sc_K:FnScope ["P","n","number","answer"] ["P","n"] (z0d s_K):=⟨rfl,rfl,rfl,by decide +kernel,rfl,by decide +kernel,by decide +kernel⟩
noncomputable abbrev s_a:Stmt:=top 29
theorem sc_a:FnScope ["P","row","other"] ["P","row","other"] (z0d s_a):=⟨rfl,rfl,rfl,by decide +kernel,rfl,by decide +kernel,by decide +kernel⟩
noncomputable abbrev s_w:Stmt:=top 25
theorem sc_w:FnScope ["P","row","lead","place"] ["P","row","lead","place"] (z0d s_w):=⟨rfl,rfl,rfl,by decide +kernel,rfl,by decide +kernel,by decide +kernel⟩
noncomputable abbrev s_F:Stmt:=top 23
theorem sc_F:FnScope ["P","row","number"] ["P","row","number"] (z0d s_F):=⟨rfl,rfl,rfl,by decide +kernel,rfl,by decide +kernel,by decide +kernel⟩
noncomputable abbrev s_u:Stmt:=top 24
theorem sc_u:FnScope ["P","rows","place","row"] ["P","rows","place"] (z0d s_u):=⟨rfl,rfl,rfl,by decide +kernel,rfl,by decide +kernel,by decide +kernel⟩
noncomputable abbrev s_g:Stmt:=top 26
theorem sc_g:FnScope ["P","rows","left","steps","place","lead"] ["P","rows"] (z0d s_g):=⟨rfl,rfl,rfl,by decide +kernel,rfl,by decide +kernel,by decide +kernel⟩
noncomputable abbrev s_q:Stmt:=top 27
theorem sc_q:FnScope ["P","rows","width","marked"] ["P","rows"] (z0d s_q):=⟨rfl,rfl,rfl,by decide +kernel,rfl,by decide +kernel,by decide +kernel⟩
noncomputable abbrev s_c:Stmt:=top 30
theorem sc_c:FnScope ["P","rows","goal","columns","row","number"] ["P","rows","goal"] (z0d s_c):=⟨rfl,rfl,rfl,by decide +kernel,rfl,by decide +kernel,by decide +kernel⟩
noncomputable abbrev s_m:Stmt:=top 28
theorem sc_m:FnScope ["P","rows","goal","sums"] ["P","rows","goal"] (z0d s_m):=⟨rfl,rfl,rfl,by decide +kernel,rfl,by decide +kernel,by decide +kernel⟩
noncomputable abbrev s_A:Stmt:=top 31
theorem sc_A:FnScope ["P","rows","goal","weights"] ["P","rows","goal"] (z0d s_A):=⟨rfl,rfl,rfl,by decide +kernel,rfl,by decide +kernel,by decide +kernel⟩
noncomputable abbrev s_s:Stmt:=top 33
theorem sc_s:FnScope ["stand"] ["stand"] (z0d s_s):=⟨rfl,rfl,rfl,by decide +kernel,rfl,by decide +kernel,by decide +kernel⟩
noncomputable abbrev s_y:Stmt:=top 34
theorem sc_y:FnScope ["P","stands","goal"] ["P","stands","goal"] (z0d s_y):=⟨rfl,rfl,rfl,by decide +kernel,rfl,by decide +kernel,by decide +kernel⟩
noncomputable abbrev s_L:Stmt:=top 35
theorem sc_L:FnScope ["P","many","items","stand","table","stands","coming","told"] ["P","many","items","stand"] (z0d s_L):=⟨rfl,rfl,rfl,by decide +kernel,rfl,by decide +kernel,by decide +kernel⟩
noncomputable abbrev s_C:Stmt:=top 36
theorem sc_C:FnScope ["P","many","items","stand","goal","stands"] ["P","many","items","stand","goal"] (z0d s_C):=⟨rfl,rfl,rfl,by decide +kernel,rfl,by decide +kernel,by decide +kernel⟩
noncomputable abbrev y2t:Stmt:=top 48
theorem x4p:FnScope ["script","P","many","stand","goal","x","n","few","items","told","table","ends","count","end"] ["script"] (z0d y2t):=⟨rfl,rfl,rfl,by decide +kernel,rfl,by decide +kernel,by decide +kernel⟩
section
variable {P:Program}{w:World}{K:PySem.W.Frag}{mg:Str->Option Value}{base:Heap}
theorem f_p{f:Addr}{fd:FuncData}(Fu:Fun K "_law_cell" "_law_cell" s_p f fd)(hb:z1s K fd ["script","k"] [])
 (m_len:mg "len"=none)
 : FnD P w K mg base 1 f fd ["script","k"] c_p:=by
 refine z1k Fu sc_p hb (fun ds h=>z0i h) fun cdv A outer s H E hr=>?_
 have nd:=sc_p.nd
 have hu:=hr.units
 refine⟨g_p,?_,fun ds hne=>(z1g (z0i hne)).symm⟩
 exact(z0e (z5v (z1c x3m (z0b 1) (z0y z4w m_len (by decide +kernel) (z0a (z0b 0) z0c)) (z1u _)) (z0g (z0u (z1v (z0b 0) (z0b 1)))) z2e)
  (z0g (z0u z0f)))
theorem f_d{f:Addr}{fd:FuncData}(Fu:Fun K "_law_digits" "_law_digits" s_d f fd)(hb:z1s K fd ["cell","P","size"] [])
 (m_range:mg "range"=none)
 (m_tuple:mg "tuple"=none)
 : FnD P w K mg base 1 f fd ["cell","P","size"] c_d:=by
 refine z1k Fu sc_d hb (fun ds h=>z0i h) fun cdv A outer s H E hr=>?_
 have nd:=sc_d.nd
 have hu:=hr.units
 refine⟨g_d,?_,fun ds hne=>(z1g (z0i hne)).symm⟩
 exact(z0e (z5g 3 (z7d z0c) nd)
  (z0e (z7c 4 z3s rfl (z1w (z0b 2) m_range)
  (z0e (z5h 3 (PD.ro (z0s z2j (z0b 0) (z0b 1))))
  (z0g (z1a 0 (PD.ro (z0s z5j (z0b 0) (z0b 1))) nd))) nd)
  (z0g (z0u (z1r z2c m_tuple (by decide +kernel) (z0a (z0b 3) z0c))))))
theorem f_k{f:Addr}{fd:FuncData}(Fu:Fun K "_law_count" "_law_count" s_k f fd)(hb:z1s K fd ["cell"] [])
 : FnD P w K mg base 1 f fd ["cell"] c_k:=by
 refine z1k Fu sc_k hb (fun ds h=>z0i h) fun cdv A outer s H E hr=>?_
 have nd:=sc_k.nd
 have hu:=hr.units
 refine⟨g_k,?_,fun ds hne=>(z1g (z0i hne)).symm⟩
 exact(z0g (z0u (z1v (PF.pd (z7d (z0a (z0s z2j (z0s z5j (z0b 0) z0f) z0f) (z0a (z0s z2j (z0s z5j (z0b 0) z0f) z0f) (z0a (z0s z2j (z0s z5j (z0b 0) z0f) (z0s z2u (z0s x4u z0f z0f) z0f)) z0c))))) (z0s z2j (z0b 0) z0f))))
theorem f_t{f:Addr}{fd:FuncData}(Fu:Fun K "_law_set" "_law_set" s_t f fd)(hb:z1s K fd ["cell","more","P","many"] [])
 {a_d:Addr} {d_d:FuncData} (G_d:FnD P w K mg base 1 a_d d_d ["cell","P","size"] c_d) (m_d:mg "_law_digits"=some (.ref a_d))
 : FnD P w K mg base 2 f fd ["cell","more","P","many"] c_t:=by
 have F_d:=G_d.mono (k:=1) (by lia)
 refine z1k Fu sc_t hb (fun ds h=>z0i h) fun cdv A outer s H E hr=>?_
 have nd:=sc_t.nd
 have hu:=hr.units
 refine⟨g_t,?_,fun ds hne=>(z1g (z0i hne)).symm⟩
 exact(z0e (z1a 4 (PD.ro (z0s z2j (z0b 0) (z0b 3))) nd)
  (z0e (z1a 5 (PD.ro (z0j F_d hr m_d (z0a (z0b 1) (z0a (z0b 2) (z0a (z0s z2u (z0b 3) z0f) z0c))))) nd)
  (z0e (z5v (PWD.pt (y5u (z1c (z9i hu) (z1v (z0b 5) (z0b 4)) z0f (z1u _)) (y7d (z1c x6g (z0s z2j (z0s z5j (z0b 0) z0f) z0f) z0f (z1u _))))) (z0g (z1a 5 (PD.ro (z0s z2u (z0s z2u (z9g (z0b 5) podN (podS (z0b 4))) (z8q (z0a (z0s z2u z0f (z0s z2j (z0s z5j (z0b 0) z0f) (z0s y4p (z0b 2) z0f))) z0c))) (z9g (z0b 5) (podS (z0s z2u (z0b 4) z0f)) podN))) nd)) z2e)
  (z0g (z0u (z8q (z0a z8r (z0a (z0b 4) (z0a (z0b 5) z0c)))))))))
theorem f_o{f:Addr}{fd:FuncData}(Fu:Fun K "_law_items" "_law_items" s_o f fd)(hb:z1s K fd ["cells","P","many","agains"] [])
 {a_k:Addr} {d_k:FuncData} (G_k:FnD P w K mg base 1 a_k d_k ["cell"] c_k) (m_k:mg "_law_count"=some (.ref a_k))
 {a_t:Addr} {d_t:FuncData} (G_t:FnD P w K mg base 2 a_t d_t ["cell","more","P","many"] c_t) (m_t:mg "_law_set"=some (.ref a_t))
 (m_len:mg "len"=none)
 (m_max:mg "max"=none)
 (m_min:mg "min"=none)
 (m_range:mg "range"=none)
 (m_tuple:mg "tuple"=none)
 : FnD P w K mg base 3 f fd ["cells","P","many","agains"] c_o:=by
 have F_k:=G_k.mono (k:=2) (by lia)
 have F_t:=G_t.mono (k:=2) (by lia)
 refine z1k Fu sc_o hb (fun ds h=>z0i h) fun cdv A outer s H E hr=>?_
 have nd:=sc_o.nd
 have hu:=hr.units
 refine⟨g_o,?_,fun ds hne=>(z1g (z0i hne)).symm⟩
 exact(z0e (z5g 4 (z7d z0c) nd)
  (z0e (z5g 5 (z7d z0c) nd)
  (z0e (z7c 6 z3s rfl (y8p z0f (z0s y4p (z0y (x5g rfl) m_min (by decide +kernel) (z0a (z0y z4w m_len (by decide +kernel) (z0a (z0b 0) z0c)) (z0a z0f z0c))) z0f) z0f m_range)
  (z0e (z1a 7 (PD.ro (z0s y4p (z0y z4w m_len (by decide +kernel) (z0a (z0b 4) z0c)) (z0y (x5g rfl) m_min (by decide +kernel) (z0a (z0s z2j (z0s z5j (z1v (z0b 0) (z0b 6)) z0f) z0f) (z0a (z0y z4w m_len (by decide +kernel) (z0a (z0b 4) z0c)) z0c))))) nd)
  (z0e (z1a 8 (PD.ro (z0s z2u z0f (z0y (x6y rfl) m_max (by decide +kernel) (z0a (PF.pd (y5y (PF.pd (z7d (z0a z0f z0c))) (z9g (z0b 5) (podS (z0b 7)) podN))) z0c)))) nd)
  (z0g (z5v (PWD.pt (y5u (z1c (z9i hu) (z0s z2j (z1v (z0b 0) (z0b 6)) z0f) z0f (z1u _)) (y5u (z1c x3m (z0b 8) z0f (z1u _)) (y7d (z1c x6g (z0b 3) z0f (z1u _)))))) (z0e (z5g 4 (y5y (z9g (z0b 4) podN (podS (z0b 7))) (PF.pd (z7d (z0a (z8q (z0a z8r (z0a (z0j F_k hr m_k (z0a (z1v (z0b 0) (z0s z2u (z0b 6) z0f)) z0c)) (z0a (z1r z2c m_tuple (by decide +kernel) (z0a (z9g (z0b 4) (podS (z0b 7)) podN) z0c)) z0c)))) z0c)))) nd)
  (z0e (z5g 5 (y5y (z9g (z0b 5) podN (podS (z0b 7))) (PF.pd (z7d (z0a (z0b 8) z0c)))) nd)
  (z0g (z1a 3 (PD.ro (z0s y4p (z0b 3) z0f)) nd)))) (z0e (z5h 4 (PD.ro (z0j F_t hr m_t (z0a (z0s z5j (z1v (z0b 0) (z0b 6)) z0f) (z0a (z1v (z0b 0) (z0s z2u (z0b 6) z0f)) (z0a (z0b 1) (z0a (z0b 2) z0c)))))))
  (z0g (z5h 5 (PD.ro z0f)))))))) nd)
  (z0g (z0u (z1r z2c m_tuple (by decide +kernel) (z0a (z0b 4) z0c)))))))
theorem f_h{f:Addr}{fd:FuncData}(Fu:Fun K "_law_prime" "_law_prime" s_h f fd)(hb:z1s K fd ["cell"] [])
 (m_any:mg "any"=none)
 (m_range:mg "range"=none)
 : FnD P w K mg base 1 f fd ["cell"] c_h:=by
 refine z1k Fu sc_h hb (fun ds h=>z0i h) fun cdv A outer s H E hr=>?_
 have nd:=sc_h.nd
 have hu:=hr.units
 refine⟨g_h,?_,fun ds hne=>(z1g (z0i hne)).symm⟩
 exact(z0e (z5v (z1c (z9i hu) (z0s z2j (z0b 0) z0f) z0f (z1u _)) (z0g (z0u (z1v (z8q y8r) (z0s z2j (z0s z5j (z0b 0) z0f) z0f)))) z2e)
  (z0e (z1a 1 (PD.ro (z0s z2u z0f (z0s z2j (z0s z5j (z0b 0) z0f) z0f))) nd)
  (z0e (y2v 10000 z3s (z7f (z0y (x9a rfl) m_any (by decide +kernel) (z0a (PF.pd (z3x (PIx.pic (y8q z0f z0f m_range)) (x0q (fun _ _ _ _ _=>(z1c x3m (z0b 0) (z0b 2) (z1u _))) (fun _ _ _ _ _=>(PD.ro (x8b (z9i hu) (z0s z2j (z0b 2) (z0b 0)) z0f (z1u _))))) nd rfl)) z0c))) (z0g (z1a 1 (PD.ro (z0s z2u (z0b 1) z0f)) nd)))
  (z0g (z0u (z0b 1))))))
theorem f_l{f:Addr}{fd:FuncData}(Fu:Fun K "_law_tuple" "_law_tuple" s_l f fd)(hb:z1s K fd ["P","size","found"] [])
 (m_bool:mg "bool"=none)
 (m_int:mg "int"=none)
 (m_isinstance:mg "isinstance"=none)
 (m_len:mg "len"=none)
 (m_tuple:mg "tuple"=none)
 : FnD P w K mg base 1 f fd ["P","size","found"] c_l:=by
 refine z1k Fu sc_l hb (fun ds h=>z0i h) fun cdv A outer s H E hr=>?_
 have nd:=sc_l.nd
 have hu:=hr.units
 refine⟨g_l,?_,fun ds hne=>(z1g (z0i hne)).symm⟩
 exact(z0e (z5v (PWD.pt (z8p (z7g (z7f (y7g z2w (z0b 2) m_isinstance (fun I q=>z6f I rfl m_tuple (by decide +kernel) q) x1i))) (z8b (z1c (y1q hu) (z0y z4w m_len (by decide +kernel) (z0a (z0b 2) z0c)) (z0b 1) (z1u _))))) (z0g (z0u y1p)) z2e)
  (z0e (z7c 3 z3s rfl (z9f (z4s 2))
  (z0g (z5v (PWD.pt (z8p (z7g (z7f (y7g z7e (z0b 3) m_isinstance (fun I q=>z6f I rfl m_int (by decide +kernel) q) x9w))) (z8p (z7f (y7g z4t (z0b 3) m_isinstance (fun I q=>z6f I rfl m_bool (by decide +kernel) q) x8u)) (z8b (z7g (x0j x9t x3m z0f (z0b 3) (z0b 0))))))) (z0g (z0u y1p)) z2e)) nd)
  (z0g (z0u y1p))))
theorem f_f{f:Addr}{fd:FuncData}(Fu:Fun K "_law_sum_is" "_law_sum_is" s_f f fd)(hb:z1s K fd ["P","many","stands","weights","goal"] [])
 {a_l:Addr} {d_l:FuncData} (G_l:FnD P w K mg base 1 a_l d_l ["P","size","found"] c_l) (m_l:mg "_law_tuple"=some (.ref a_l))
 (m_len:mg "len"=none)
 (m_range:mg "range"=none)
 (m_sum:mg "sum"=none)
 (m_zip:mg "zip"=none)
 : FnD P w K mg base 2 f fd ["P","many","stands","weights","goal"] c_f:=by
 have F_l:=G_l.mono (k:=1) (by lia)
 refine z1k Fu sc_f hb (fun ds h=>z0i h) fun cdv A outer s H E hr=>?_
 have nd:=sc_f.nd
 have hu:=hr.units
 refine⟨g_f,?_,fun ds hne=>(z1g (z0i hne)).symm⟩
 exact(z0e (z5v (PWD.pt (z8p (z7g (z7f (z0j F_l hr m_l (z0a (z0b 0) (z0a (z0y z4w m_len (by decide +kernel) (z0a (z0b 2) z0c)) (z0a (z0b 3) z0c)))))) (z8b (z1c (y1q hu) (z0s z2j (z0y (x6x rfl) m_sum (by decide +kernel) (z0a (z0b 3) z0c)) (z0b 0)) z0f (z1u _))))) (z0g (z0u y1p)) z2e)
  (z0e (z7c 5 z3s rfl (z1w (z0b 1) m_range)
  (z0g (z5v (z1c (y1q hu) (z0s z2j (z0y (y5g rfl) m_sum (by decide +kernel) (z0a (PF.pd (y0d (y2x (z0b 3) (z0b 2) m_zip) (y2y (fun _ _ _ _ _=>(PD.ro (z0s z9q (z0b 0) (z1v (z0b 1) (z0b 7)))))) nd rfl)) z0c)) (z0b 0)) (z1v (z0b 4) (z0b 5)) (z1u _)) (z0g (z0u y1p)) z2e)) nd)
  (z0g (z0u y1p))))
theorem f_j{f:Addr}{fd:FuncData}(Fu:Fun K "_law_worth" "_law_worth" s_j f fd)(hb:z1s K fd ["P","form","stand"] [])
 (m_len:mg "len"=none)
 (m_range:mg "range"=none)
 (m_sum:mg "sum"=none)
 : FnD P w K mg base 1 f fd ["P","form","stand"] c_j:=by
 refine z1k Fu sc_j hb (fun ds h=>z0i h) fun cdv A outer s H E hr=>?_
 have nd:=sc_j.nd
 have hu:=hr.units
 refine⟨g_j,?_,fun ds hne=>(z1g (z0i hne)).symm⟩
 exact(z0g (z0u (z0s z2j (z0s z2u (z1v (z0b 1) (y7f z0f)) (z0y (y5g rfl) m_sum (by decide +kernel) (z0a (PF.pd (z3x (PIx.pic (z1w (z0y z4w m_len (by decide +kernel) (z0a (z0b 2) z0c)) m_range)) (z4u (fun _ _ _ _ _=>(PD.ro (z0s z9q (z1v (z0b 2) (z0b 0)) (z1v (z0b 3) (z0b 0)))))) nd rfl)) z0c))) (z0b 0))))
theorem f_e{f:Addr}{fd:FuncData}(Fu:Fun K "_law_turned" "_law_turned" s_e f fd)(hb:z1s K fd ["P","table","stand"] [])
 {a_j:Addr} {d_j:FuncData} (G_j:FnD P w K mg base 1 a_j d_j ["P","form","stand"] c_j) (m_j:mg "_law_worth"=some (.ref a_j))
 (m_tuple:mg "tuple"=none)
 : FnD P w K mg base 2 f fd ["P","table","stand"] c_e:=by
 have F_j:=G_j.mono (k:=1) (by lia)
 refine z1k Fu sc_e hb (fun ds h=>z0i h) fun cdv A outer s H E hr=>?_
 have nd:=sc_e.nd
 have hu:=hr.units
 refine⟨g_e,?_,fun ds hne=>(z1g (z0i hne)).symm⟩
 exact(z0g (z0u (z1r z2c m_tuple (by decide +kernel) (z0a (PF.pd (z3x (z5i (z0b 1)) (z4u (fun _ _ _ _ _=>(PD.ro (z3d F_j hr m_j (z0a (z0b 1) (z0a (z0b 0) (z0a (z0b 3) z0c))))))) nd rfl)) z0c))))
theorem f_B{f:Addr}{fd:FuncData}(Fu:Fun K "one_at" "one_at" s_B f fd)(hb:z1s K fd ["width","place"] [])
 (m_range:mg "range"=none)
 (m_tuple:mg "tuple"=none)
 : FnD P w K mg base 1 f fd ["width","place"] c_B:=by
 refine z1k Fu sc_B hb (fun ds h=>z0i h) fun cdv A outer s H E hr=>?_
 have nd:=sc_B.nd
 have hu:=hr.units
 refine⟨g_B,?_,fun ds hne=>(z1g (z0i hne)).symm⟩
 exact(z0g (z0u (z1r z2c m_tuple (by decide +kernel) (z0a (PF.pd (z3x (PIx.pic (z1w (z0b 0) m_range)) (z4u (fun _ _ _ _ _=>(PD.ro (x9p (z1c (z9i hu) (z0b 0) (z0b 2) (z1u _)) z0f z0f)))) nd rfl)) z0c))))
theorem f_I{f:Addr}{fd:FuncData}(Fu:Fun K "idle" "idle" s_I f fd)(hb:z1s K fd ["many"] [])
 {a_B:Addr} {d_B:FuncData} (G_B:FnD P w K mg base 1 a_B d_B ["width","place"] c_B) (m_B:mg "one_at"=some (.ref a_B))
 (m_range:mg "range"=none)
 (m_tuple:mg "tuple"=none)
 : FnD P w K mg base 2 f fd ["many"] c_I:=by
 have F_B:=G_B.mono (k:=1) (by lia)
 refine z1k Fu sc_I hb (fun ds h=>z0i h) fun cdv A outer s H E hr=>?_
 have nd:=sc_I.nd
 have hu:=hr.units
 refine⟨g_I,?_,fun ds hne=>(z1g (z0i hne)).symm⟩
 exact(z0g (z0u (z1r z2c m_tuple (by decide +kernel) (z0a (PF.pd (z3x (PIx.pic (z1w (z0b 0) m_range)) (z4u (fun _ _ _ _ _=>(PD.ro (z3d F_B hr m_B (z0a (z0s z2u (z0b 1) z0f) (z0a (z0b 0) z0c)))))) nd rfl)) z0c))))
theorem f_i{f:Addr}{fd:FuncData}(Fu:Fun K "column_sum" "column_sum" s_i f fd)(hb:z1s K fd ["form","table","place"] [])
 (m_len:mg "len"=none)
 (m_range:mg "range"=none)
 (m_sum:mg "sum"=none)
 : FnD P w K mg base 1 f fd ["form","table","place"] c_i:=by
 refine z1k Fu sc_i hb (fun ds h=>z0i h) fun cdv A outer s H E hr=>?_
 have nd:=sc_i.nd
 have hu:=hr.units
 refine⟨g_i,?_,fun ds hne=>(z1g (z0i hne)).symm⟩
 exact(z0g (z0u (z0y (y5g rfl) m_sum (by decide +kernel) (z0a (PF.pd (z3x (PIx.pic (z1w (z0y z4w m_len (by decide +kernel) (z0a (z0b 1) z0c)) m_range)) (z4u (fun _ _ _ _ _=>(PD.ro (z0s z9q (z1v (z0b 1) (z0b 0)) (z1v (z1v (z0b 2) (z0b 0)) (z0b 3)))))) nd rfl)) z0c))))
theorem f_on{f:Addr}{fd:FuncData}(Fu:Fun K "on" "on" s_on f fd)(hb:z1s K fd ["P","n"] [])
 : FnD P w K mg base 1 f fd ["P","n"] c_on:=by
 refine z1k Fu x7q hb (fun ds h=>z0i h) fun cdv A outer s H E hr=>?_
 have nd:=x7q.nd
 have hu:=hr.units
 refine⟨g_on,?_,fun ds hne=>(z1g (z0i hne)).symm⟩
 exact(z0g (z0u (z0s z2j (z0b 1) (z0b 0))))
theorem f_n{f:Addr}{fd:FuncData}(Fu:Fun K "form_ahead" "form_ahead" s_n f fd)(hb:z1s K fd ["P","table","form"] [])
 {a_i:Addr} {d_i:FuncData} (G_i:FnD P w K mg base 1 a_i d_i ["form","table","place"] c_i) (m_i:mg "column_sum"=some (.ref a_i))
 (m_len:mg "len"=none)
 {a_on:Addr} {d_on:FuncData} (G_on:FnD P w K mg base 1 a_on d_on ["P","n"] c_on) (m_on:mg "on"=some (.ref a_on))
 (m_range:mg "range"=none)
 (m_tuple:mg "tuple"=none)
 : FnD P w K mg base 2 f fd ["P","table","form"] c_n:=by
 have F_i:=G_i.mono (k:=1) (by lia)
 have F_on:=G_on.mono (k:=1) (by lia)
 refine z1k Fu sc_n hb (fun ds h=>z0i h) fun cdv A outer s H E hr=>?_
 have nd:=sc_n.nd
 have hu:=hr.units
 refine⟨g_n,?_,fun ds hne=>(z1g (z0i hne)).symm⟩
 exact(z0e (z1a 3 (PD.ro (z0y z4w m_len (by decide +kernel) (z0a (z0b 1) z0c))) nd)
  (z0e (z7u 4 (PIx.pic (z1w (z0s z2u (z0b 3) z0f) m_range)) (z4u (fun _ _ _ _ _=>(PD.ro (z3d F_i hr m_i (z0a (z0b 3) (z0a (z0b 2) (z0a (z0b 0) z0c))))))) nd rfl)
  (z0e (x4q 4 (z0b 3) (PD.ro (z0s z2u (z1v (z0b 4) (z0b 3)) (z1v (z0b 2) (z0b 3)))))
  (z0g (z0u (z1r z2c m_tuple (by decide +kernel) (z0a (PF.pd (z3x (z5i (z0b 4)) (z4u (fun _ _ _ _ _=>(PD.ro (z3d F_on hr m_on (z0a (z0b 1) (z0a (z0b 0) z0c)))))) nd rfl)) z0c)))))))
theorem f_J{f:Addr}{fd:FuncData}(Fu:Fun K "then" "then" s_J f fd)(hb:z1s K fd ["P","one","other"] [])
 {a_n:Addr} {d_n:FuncData} (G_n:FnD P w K mg base 2 a_n d_n ["P","table","form"] c_n) (m_n:mg "form_ahead"=some (.ref a_n))
 (m_tuple:mg "tuple"=none)
 : FnD P w K mg base 3 f fd ["P","one","other"] c_J:=by
 have F_n:=G_n.mono (k:=2) (by lia)
 refine z1k Fu sc_J hb (fun ds h=>z0i h) fun cdv A outer s H E hr=>?_
 have nd:=sc_J.nd
 have hu:=hr.units
 refine⟨g_J,?_,fun ds hne=>(z1g (z0i hne)).symm⟩
 exact(z0g (z0u (z1r z2c m_tuple (by decide +kernel) (z0a (PF.pd (z3x (z5i (z0b 2)) (z4u (fun _ _ _ _ _=>(PD.ro (z3d F_n hr m_n (z0a (z0b 1) (z0a (z0b 2) (z0a (z0b 0) z0c))))))) nd rfl)) z0c))))
theorem f_D{f:Addr}{fd:FuncData}(Fu:Fun K "ladder" "ladder" s_D f fd)(hb:z1s K fd ["P","table","n"] [])
 (m_range:mg "range"=none)
 {a_J:Addr} {d_J:FuncData} (G_J:FnD P w K mg base 3 a_J d_J ["P","one","other"] c_J) (m_J:mg "then"=some (.ref a_J))
 : FnF P w K mg base 4 f fd ["P","table","n"] c_D:=by
 have F_J:=G_J.mono (k:=3) (by lia)
 refine y7r Fu sc_D hb (fun ds h=>z7n h) fun cdv A outer s H E hr=>?_
 have nd:=sc_D.nd
 have hu:=hr.units
 refine⟨g_D,?_,fun ds hne=>(y4y (z7n hne)).symm⟩
 exact(z0e (z5g 3 (z7d z0c) nd)
  (z0e (z1a 4 (PD.ro (z0b 1)) nd)
  (z0e (z7c 5 z3s rfl (z1w (x5y (z0b 2)) m_range)
  (z0e (z5h 3 (PD.ro (z0b 4)))
  (z0g (z1a 4 (PD.ro (z0j F_J hr m_J (z0a (z0b 0) (z0a (z0b 4) (z0a (z0b 4) z0c))))) nd))) nd)
  (z0g (x0k 3)))))
theorem f_r{f:Addr}{fd:FuncData}(Fu:Fun K "rungs_for" "rungs_for" s_r f fd)(hb:z1s K fd ["rungs","n"] [])
 (m_enumerate:mg "enumerate"=none)
 : FnF P w K mg base 1 f fd ["rungs","n"] c_r:=by
 refine y7r Fu sc_r hb (fun ds h=>z7n h) fun cdv A outer s H E hr=>?_
 have nd:=sc_r.nd
 have hu:=hr.units
 refine⟨g_r,?_,fun ds hne=>(y4y (z7n hne)).symm⟩
 exact(z0g (x0l (y0d (y4l (z0b 0) m_enumerate) (x3k (fun _ _ _ _ _=>(z1c (z9i hu) (z0s z2j (z0s x8i (z0b 3) (z0b 0)) z0f) z0f (z1u _))) (fun _ _ _ _ _=>(PD.ro (z0b 1)))) nd rfl)))
theorem f_E{f:Addr}{fd:FuncData}(Fu:Fun K "rounds" "rounds" s_E f fd)(hb:z1s K fd ["P","table","n"] [])
 {a_I:Addr} {d_I:FuncData} (G_I:FnD P w K mg base 2 a_I d_I ["many"] c_I) (m_I:mg "idle"=some (.ref a_I))
 {a_D:Addr} {d_D:FuncData} (G_D:FnF P w K mg base 4 a_D d_D ["P","table","n"] c_D) (m_D:mg "ladder"=some (.ref a_D))
 (m_len:mg "len"=none)
 {a_r:Addr} {d_r:FuncData} (G_r:FnF P w K mg base 1 a_r d_r ["rungs","n"] c_r) (m_r:mg "rungs_for"=some (.ref a_r))
 {a_J:Addr} {d_J:FuncData} (G_J:FnD P w K mg base 3 a_J d_J ["P","one","other"] c_J) (m_J:mg "then"=some (.ref a_J))
 : FnD P w K mg base 5 f fd ["P","table","n"] c_E:=by
 have F_I:=G_I.mono (k:=4) (by lia)
 have F_D:=G_D.mono (k:=4) (by lia)
 have F_r:=G_r.mono (k:=4) (by lia)
 have F_J:=G_J.mono (k:=4) (by lia)
 refine z1k Fu sc_E hb (fun ds h=>z0i h) fun cdv A outer s H E hr=>?_
 have nd:=sc_E.nd
 have hu:=hr.units
 refine⟨g_E,?_,fun ds hne=>(z1g (z0i hne)).symm⟩
 exact(z0e (z1a 3 (PD.ro (z0j F_I hr m_I (z0a (z0y z4w m_len (by decide +kernel) (z0a (z0b 1) z0c)) z0c))) nd)
  (z0e (z7c 4 z3s rfl (z9f (PF.ro (y0p F_r hr m_r (z0a (PF.pd (y0p F_D hr m_D (z0a (z0b 0) (z0a (z0b 1) (z0a (z0b 2) z0c))))) (z0a (z0b 2) z0c)))))
  (z0g (z1a 3 (PD.ro (z0j F_J hr m_J (z0a (z0b 0) (z0a (z0b 3) (z0a (z0b 4) z0c))))) nd)) nd)
  (z0g (z0u (z0b 3)))))
theorem f_x{f:Addr}{fd:FuncData}(Fu:Fun K "setting" "setting" s_x f fd)(hb:z1s K fd ["many","x","form"] [])
 {a_I:Addr} {d_I:FuncData} (G_I:FnD P w K mg base 2 a_I d_I ["many"] c_I) (m_I:mg "idle"=some (.ref a_I))
 (m_list:mg "list"=none)
 (m_tuple:mg "tuple"=none)
 : FnD P w K mg base 3 f fd ["many","x","form"] c_x:=by
 have F_I:=G_I.mono (k:=2) (by lia)
 refine z1k Fu sc_x hb (fun ds h=>z0i h) fun cdv A outer s H E hr=>?_
 have nd:=sc_x.nd
 have hu:=hr.units
 refine⟨g_x,?_,fun ds hne=>(z1g (z0i hne)).symm⟩
 exact(z0e (z5g 3 (x0p (z0j F_I hr m_I (z0a (z0b 0) z0c)) m_list (by decide +kernel)) nd)
  (z0e (x4q 3 (z0b 1) (PD.ro (z1r z2c m_tuple (by decide +kernel) (z0a (z0b 2) z0c))))
  (z0g (z0u (z1r z2c m_tuple (by decide +kernel) (z0a (z0b 3) z0c))))))
theorem f_v
 {a_v:Addr} {d_v:FuncData} (Fu_v:Fun K "table_of" "table_of" s_v a_v d_v) (hb_v:z1s K d_v ["P","many","items"] []) (m_v:mg "table_of"=some (.ref a_v))
 {a_b:Addr} {d_b:FuncData} (Fu_b:Fun K "table_of_item" "table_of_item" s_b a_b d_b) (hb_b:z1s K d_b ["P","many","item"] []) (m_b:mg "table_of_item"=some (.ref a_b))
 {a_I:Addr} {d_I:FuncData} (G_I:FnD P w K mg base 2 a_I d_I ["many"] c_I) (m_I:mg "idle"=some (.ref a_I))
 {a_J:Addr} {d_J:FuncData} (G_J:FnD P w K mg base 3 a_J d_J ["P","one","other"] c_J) (m_J:mg "then"=some (.ref a_J))
 {a_E:Addr} {d_E:FuncData} (G_E:FnD P w K mg base 5 a_E d_E ["P","table","n"] c_E) (m_E:mg "rounds"=some (.ref a_E))
 {a_x:Addr} {d_x:FuncData} (G_x:FnD P w K mg base 3 a_x d_x ["many","x","form"] c_x) (m_x:mg "setting"=some (.ref a_x))
 : ∀n:Nat,FnD P w K mg base (5+n) a_v d_v ["P","many","items"] (c_v n)/\FnD P w K mg base (5+n) a_b d_b ["P","many","item"] (c_b n):=by
 intro n
 induction n with
 | zero=>exact⟨x5d (k:=4) Fu_v sc_v hb_v,x5d (k:=4) Fu_b sc_b hb_b⟩
 | succ n ih =>
   obtain⟨F_v,F_b⟩:=ih
   have F_I:=G_I.mono (k:=5+n) (by lia)
   have F_J:=G_J.mono (k:=5+n) (by lia)
   have F_E:=G_E.mono (k:=5+n) (by lia)
   have F_x:=G_x.mono (k:=5+n) (by lia)
   refine⟨?_,?_⟩
   ·refine z1k (k:=5+n) Fu_v sc_v hb_v (fun ds h=>z0i h) fun cdv A outer s H E hr=>?_
    have nd:=sc_v.nd
    have hu:=hr.units
    refine⟨g_v (c_v n) (c_b n),?_,fun ds hne=>(z1g (z0i hne)).symm⟩
    exact(z0e (z1a 3 (PD.ro (z0j F_I hr m_I (z0a (z0b 1) z0c))) nd)
   (z0e (z7c 4 z3s rfl (z9f (z4s 2))
   (z0g (z1a 3 (PD.ro (z0j F_J hr m_J (z0a (z0b 0) (z0a (z0b 3) (z0a (z0j F_b hr m_b (z0a (z0b 0) (z0a (z0b 1) (z0a (z0b 4) z0c)))) z0c))))) nd)) nd)
   (z0g (z0u (z0b 3)))))
   ·refine z1k (k:=5+n) Fu_b sc_b hb_b (fun ds h=>z0i h) fun cdv A outer s H E hr=>?_
    have nd:=sc_b.nd
    have hu:=hr.units
    refine⟨g_b (c_v n) (c_b n),?_,fun ds hne=>(z1g (z0i hne)).symm⟩
    exact(z0e (z5v (z1c (z9i hu) (z1v (z0b 2) z0f) z8r (z1u _)) (z0g (z0u (z0j F_x hr m_x (z0a (z0b 1) (z0a (z1v (z0b 2) z0f) (z0a (z1v (z0b 2) z0f) z0c)))))) z2e)
   (z0g (z0u (z0j F_E hr m_E (z0a (z0b 0) (z0a (z0j F_v hr m_v (z0a (z0b 0) (z0a (z0b 1) (z0a (z1v (z0b 2) z0f) z0c)))) (z0a (z1v (z0b 2) z0f) z0c)))))))
theorem f_G{f:Addr}{fd:FuncData}(Fu:Fun K "worth" "worth" s_G f fd)(hb:z1s K fd ["P","form","stand"] [])
 (m_len:mg "len"=none)
 {a_on:Addr} {d_on:FuncData} (G_on:FnD P w K mg base 1 a_on d_on ["P","n"] c_on) (m_on:mg "on"=some (.ref a_on))
 (m_range:mg "range"=none)
 (m_sum:mg "sum"=none)
 : FnD P w K mg base 2 f fd ["P","form","stand"] c_G:=by
 have F_on:=G_on.mono (k:=1) (by lia)
 refine z1k Fu sc_G hb (fun ds h=>z0i h) fun cdv A outer s H E hr=>?_
 have nd:=sc_G.nd
 have hu:=hr.units
 refine⟨g_G,?_,fun ds hne=>(z1g (z0i hne)).symm⟩
 exact(z0e (z1a 3 (PD.ro (z0y z4w m_len (by decide +kernel) (z0a (z0b 2) z0c))) nd)
  (z0g (z0u (z0j F_on hr m_on (z0a (z0b 0) (z0a (z0s z2u (z0y (y5g rfl) m_sum (by decide +kernel) (z0a (PF.pd (z3x (PIx.pic (z1w (z0b 3) m_range)) (z4u (fun _ _ _ _ _=>(PD.ro (z0s z9q (z1v (z0b 2) (z0b 0)) (z1v (z0b 3) (z0b 0)))))) nd rfl)) z0c)) (z1v (z0b 1) (z0b 3))) z0c))))))
theorem f_z{f:Addr}{fd:FuncData}(Fu:Fun K "turned" "turned" s_z f fd)(hb:z1s K fd ["P","table","stand"] [])
 (m_tuple:mg "tuple"=none)
 {a_G:Addr} {d_G:FuncData} (G_G:FnD P w K mg base 2 a_G d_G ["P","form","stand"] c_G) (m_G:mg "worth"=some (.ref a_G))
 : FnD P w K mg base 3 f fd ["P","table","stand"] c_z:=by
 have F_G:=G_G.mono (k:=2) (by lia)
 refine z1k Fu sc_z hb (fun ds h=>z0i h) fun cdv A outer s H E hr=>?_
 have nd:=sc_z.nd
 have hu:=hr.units
 refine⟨g_z,?_,fun ds hne=>(z1g (z0i hne)).symm⟩
 exact(z0g (z0u (z1r z2c m_tuple (by decide +kernel) (z0a (PF.pd (z3x (z5i (z0b 1)) (z4u (fun _ _ _ _ _=>(PD.ro (z3d F_G hr m_G (z0a (z0b 1) (z0a (z0b 0) (z0a (z0b 3) z0c))))))) nd rfl)) z0c))))
theorem f_H{f:Addr}{fd:FuncData}(Fu:Fun K "after" "after" s_H f fd)(hb:z1s K fd ["P","many","items","n","stand"] [])
 {a_E:Addr} {d_E:FuncData} (G_E:FnD P w K mg base 5 a_E d_E ["P","table","n"] c_E) (m_E:mg "rounds"=some (.ref a_E))
 {a_v:Addr} {d_v:FuncData} (G_v:FnD P w K mg base 17 a_v d_v ["P","many","items"] (c_v 12)) (m_v:mg "table_of"=some (.ref a_v))
 {a_z:Addr} {d_z:FuncData} (G_z:FnD P w K mg base 3 a_z d_z ["P","table","stand"] c_z) (m_z:mg "turned"=some (.ref a_z))
 : FnD P w K mg base 18 f fd ["P","many","items","n","stand"] c_H:=by
 have F_E:=G_E.mono (k:=17) (by lia)
 have F_v:=G_v.mono (k:=17) (by lia)
 have F_z:=G_z.mono (k:=17) (by lia)
 refine z1k Fu sc_H hb (fun ds h=>z0i h) fun cdv A outer s H E hr=>?_
 have nd:=sc_H.nd
 have hu:=hr.units
 refine⟨g_H,?_,fun ds hne=>(z1g (z0i hne)).symm⟩
 exact(z0g (z0u (z0j F_z hr m_z (z0a (z0b 0) (z0a (z0j F_E hr m_E (z0a (z0b 0) (z0a (z0j F_v hr m_v (z0a (z0b 0) (z0a (z0b 1) (z0a (z0b 2) z0c)))) (z0a (z0b 3) z0c)))) (z0a (z0b 4) z0c))))))
theorem f_K{f:Addr}{fd:FuncData}(Fu:Fun K "back" "back" s_K f fd)(hb:z1s K fd ["P","n"] [])
 {a_NoNumber:Addr} (m_NoNumber:mg "NoNumber"=some (.ref a_NoNumber))
 {a_on:Addr} {d_on:FuncData} (G_on:FnD P w K mg base 1 a_on d_on ["P","n"] c_on) (m_on:mg "on"=some (.ref a_on))
 (X_NoNumber:XOk K mg .noNumber a_NoNumber)
 : FnD P w K mg base 2 f fd ["P","n"] c_K:=by
 have F_on:=G_on.mono (k:=1) (by lia)
 refine z1k Fu sc_K hb (fun ds h=>z0i h) fun cdv A outer s H E hr=>?_
 have nd:=sc_K.nd
 have hu:=hr.units
 refine⟨g_K,?_,fun ds hne=>(z1g (z0i hne)).symm⟩
 exact(z0e (z1a 2 (PD.ro (z0j F_on hr m_on (z0a (z0b 0) (z0a (z0b 1) z0c)))) nd)
  (z0e (z5v (z1c (z9i hu) (z0b 2) z0f (z1u _)) (z0g (x3h X_NoNumber z8r rfl)) z2e)
  (z0e (z1a 3 (PD.ro z0f) nd)
  (z0e (y2v 100000 z3s (z1c (y1q hu) (z0b 2) z0f (z1u _)) (z0e (z1a 3 (PD.ro (z0j F_on hr m_on (z0a (z0b 0) (z0a (z0s z9q (y7f (z0b 3)) (z0s z5j (z0b 0) (z0b 2))) z0c)))) nd)
  (z0g (z1a 2 (PD.ro (z0s z2j (z0b 0) (z0b 2))) nd))))
  (z0g (z0u (z0b 3)))))))
theorem f_a{f:Addr}{fd:FuncData}(Fu:Fun K "brought_together" "brought_together" s_a f fd)(hb:z1s K fd ["P","row","other"] [])
 {a_on:Addr} {d_on:FuncData} (G_on:FnD P w K mg base 1 a_on d_on ["P","n"] c_on) (m_on:mg "on"=some (.ref a_on))
 (m_sum:mg "sum"=none)
 (m_zip:mg "zip"=none)
 : FnD P w K mg base 2 f fd ["P","row","other"] c_a:=by
 have F_on:=G_on.mono (k:=1) (by lia)
 refine z1k Fu sc_a hb (fun ds h=>z0i h) fun cdv A outer s H E hr=>?_
 have nd:=sc_a.nd
 have hu:=hr.units
 refine⟨g_a,?_,fun ds hne=>(z1g (z0i hne)).symm⟩
 exact(z0g (z0u (z0j F_on hr m_on (z0a (z0b 0) (z0a (z0y (y5g rfl) m_sum (by decide +kernel) (z0a (PF.pd (y0d (y2x (z0b 1) (z0b 2) m_zip) (y2y (fun _ _ _ _ _=>(PD.ro (z0s z9q (z0b 0) (z0b 1))))) nd rfl)) z0c)) z0c)))))
theorem f_w{f:Addr}{fd:FuncData}(Fu:Fun K "cleared" "cleared" s_w f fd)(hb:z1s K fd ["P","row","lead","place"] [])
 {a_on:Addr} {d_on:FuncData} (G_on:FnD P w K mg base 1 a_on d_on ["P","n"] c_on) (m_on:mg "on"=some (.ref a_on))
 (m_tuple:mg "tuple"=none)
 (m_zip:mg "zip"=none)
 : FnD P w K mg base 2 f fd ["P","row","lead","place"] c_w:=by
 have F_on:=G_on.mono (k:=1) (by lia)
 refine z1k Fu sc_w hb (fun ds h=>z0i h) fun cdv A outer s H E hr=>?_
 have nd:=sc_w.nd
 have hu:=hr.units
 refine⟨g_w,?_,fun ds hne=>(z1g (z0i hne)).symm⟩
 exact(z0g (z0u (z1r z2c m_tuple (by decide +kernel) (z0a (PF.pd (y0d (y2x (z0b 1) (z0b 2) m_zip) (y2y (fun _ _ _ _ _=>(PD.ro (z3d F_on hr m_on (z0a (z0b 2) (z0a (z0s y4p (z0b 0) (z0s z9q (z1v (z0b 3) (z0b 5)) (z0b 1))) z0c)))))) nd rfl)) z0c))))
theorem f_F{f:Addr}{fd:FuncData}(Fu:Fun K "times" "times" s_F f fd)(hb:z1s K fd ["P","row","number"] [])
 {a_on:Addr} {d_on:FuncData} (G_on:FnD P w K mg base 1 a_on d_on ["P","n"] c_on) (m_on:mg "on"=some (.ref a_on))
 (m_tuple:mg "tuple"=none)
 : FnD P w K mg base 2 f fd ["P","row","number"] c_F:=by
 have F_on:=G_on.mono (k:=1) (by lia)
 refine z1k Fu sc_F hb (fun ds h=>z0i h) fun cdv A outer s H E hr=>?_
 have nd:=sc_F.nd
 have hu:=hr.units
 refine⟨g_F,?_,fun ds hne=>(z1g (z0i hne)).symm⟩
 exact(z0g (z0u (z1r z2c m_tuple (by decide +kernel) (z0a (PF.pd (z3x (z5i (z0b 1)) (z4u (fun _ _ _ _ _=>(PD.ro (z3d F_on hr m_on (z0a (z0b 1) (z0a (z0s z9q (z0b 3) (z0b 0)) z0c)))))) nd rfl)) z0c))))
theorem f_u{f:Addr}{fd:FuncData}(Fu:Fun K "lead_row" "lead_row" s_u f fd)(hb:z1s K fd ["P","rows","place"] [])
 {a_K:Addr} {d_K:FuncData} (G_K:FnD P w K mg base 2 a_K d_K ["P","n"] c_K) (m_K:mg "back"=some (.ref a_K))
 {a_F:Addr} {d_F:FuncData} (G_F:FnD P w K mg base 2 a_F d_F ["P","row","number"] c_F) (m_F:mg "times"=some (.ref a_F))
 : FnD P w K mg base 3 f fd ["P","rows","place"] c_u:=by
 have F_K:=G_K.mono (k:=2) (by lia)
 have F_F:=G_F.mono (k:=2) (by lia)
 refine z1k Fu sc_u hb (fun ds h=>z0i h) fun cdv A outer s H E hr=>?_
 have nd:=sc_u.nd
 have hu:=hr.units
 refine⟨g_u,?_,fun ds hne=>(z1g (z0i hne)).symm⟩
 exact(z0e (z7c 3 z3s rfl (z9f (z4s 1))
  (z0g (z5v (z1c (y1q hu) (z1v (z0b 3) (z0b 2)) z0f (z1u _)) (z0g (z0u (z0j F_F hr m_F (z0a (z0b 0) (z0a (z0b 3) (z0a (z0j F_K hr m_K (z0a (z0b 0) (z0a (z1v (z0b 3) (z0b 2)) z0c))) z0c)))))) z2e)) nd)
  (z0g (z0u y4o)))
theorem f_g{f:Addr}{fd:FuncData}(Fu:Fun K "steps_form" "steps_form" s_g f fd)(hb:z1s K fd ["P","rows"] [])
 {a_w:Addr} {d_w:FuncData} (G_w:FnD P w K mg base 2 a_w d_w ["P","row","lead","place"] c_w) (m_w:mg "cleared"=some (.ref a_w))
 {a_u:Addr} {d_u:FuncData} (G_u:FnD P w K mg base 3 a_u d_u ["P","rows","place"] c_u) (m_u:mg "lead_row"=some (.ref a_u))
 (m_len:mg "len"=none)
 (m_range:mg "range"=none)
 {a_F:Addr} {d_F:FuncData} (G_F:FnD P w K mg base 2 a_F d_F ["P","row","number"] c_F) (m_F:mg "times"=some (.ref a_F))
 : FnF P w K mg base 4 f fd ["P","rows"] c_g:=by
 have F_w:=G_w.mono (k:=3) (by lia)
 have F_u:=G_u.mono (k:=3) (by lia)
 have F_F:=G_F.mono (k:=3) (by lia)
 refine y7r Fu sc_g hb (fun ds h=>z7n h) fun cdv A outer s H E hr=>?_
 have nd:=sc_g.nd
 have hu:=hr.units
 refine⟨g_g,?_,fun ds hne=>(y4y (z7n hne)).symm⟩
 exact(z0e (z7u 2 (z5i (z0b 1)) (z4u (fun _ _ _ _ _=>(PD.ro (z3d F_F hr m_F (z0a (z0b 1) (z0a (z0b 0) (z0a z0f z0c))))))) nd rfl)
  (z0e (z5g 3 (z7d z0c) nd)
  (z0e (z7c 4 z3s rfl (z1w (z0y z4w m_len (by decide +kernel) (z0a (z1v (z0b 1) z0f) z0c)) m_range)
  (z0e (z1a 5 (PD.ro (z0j F_u hr m_u (z0a (z0b 0) (z0a (z0b 2) (z0a (z0b 4) z0c))))) nd)
  (z0g (z5v (z1c x0s (z0b 5) y4o (z1u _)) (z0e (z7u 2 (z5i (z0b 2)) (z4u (fun _ _ _ _ _=>(PD.ro (z3d F_w hr m_w (z0a (z0b 1) (z0a (z0b 0) (z0a (z0b 6) (z0a (z0b 5) z0c)))))))) nd rfl)
  (z0e (z7u 3 (z5i (z0b 3)) (z4u (fun _ _ _ _ _=>(PD.ro (z3d F_w hr m_w (z0a (z0b 1) (z0a (z0b 0) (z0a (z0b 6) (z0a (z0b 5) z0c)))))))) nd rfl)
  (z0g (z5h 3 (PD.ro (z0b 5)))))) z2e))) nd)
  (z0g (x0k 3)))))
theorem f_q{f:Addr}{fd:FuncData}(Fu:Fun K "idle_sums" "idle_sums" s_q f fd)(hb:z1s K fd ["P","rows"] [])
 (m_any:mg "any"=none)
 (m_enumerate:mg "enumerate"=none)
 (m_len:mg "len"=none)
 {a_B:Addr} {d_B:FuncData} (G_B:FnD P w K mg base 1 a_B d_B ["width","place"] c_B) (m_B:mg "one_at"=some (.ref a_B))
 {a_g:Addr} {d_g:FuncData} (G_g:FnF P w K mg base 4 a_g d_g ["P","rows"] c_g) (m_g:mg "steps_form"=some (.ref a_g))
 (m_tuple:mg "tuple"=none)
 : FnF P w K mg base 5 f fd ["P","rows"] c_q:=by
 have F_B:=G_B.mono (k:=4) (by lia)
 have F_g:=G_g.mono (k:=4) (by lia)
 refine y7r Fu sc_q hb (fun ds h=>z7n h) fun cdv A outer s H E hr=>?_
 have nd:=sc_q.nd
 have hu:=hr.units
 refine⟨g_q,?_,fun ds hne=>(y4y (z7n hne)).symm⟩
 exact(z0e (z1a 2 (PD.ro (z0y z4w m_len (by decide +kernel) (z0a (z1v (z0b 1) z0f) z0c))) nd)
  (z0e (y5w 3 (y4l (z0b 1) m_enumerate) (y2y (fun _ _ _ _ _=>(PD.ro (z0s z2u (z1r z2c m_tuple (by decide +kernel) (z0a (z0b 1) z0c)) (z3d F_B hr m_B (z0a (z0y z4w m_len (by decide +kernel) (z0a (z0b 3) z0c)) (z0a (z0b 0) z0c))))))) nd rfl)
  (z0g (x0l (z3x (z5i (PF.pd (y0p F_g hr m_g (z0a (z0b 0) (z0a (z0b 3) z0c))))) (x0q (fun _ _ _ _ _=>(z7g (z7f (z0y (x6z rfl) m_any (by decide +kernel) (z0a (z9g (z0b 0) podN (podS (z0b 3))) z0c))))) (fun _ _ _ _ _=>(PD.ro (z9g (z0b 0) (podS (z0b 3)) podN)))) nd rfl)))))
theorem f_c{f:Addr}{fd:FuncData}(Fu:Fun K "shutting_row" "shutting_row" s_c f fd)(hb:z1s K fd ["P","rows","goal"] [])
 {a_K:Addr} {d_K:FuncData} (G_K:FnD P w K mg base 2 a_K d_K ["P","n"] c_K) (m_K:mg "back"=some (.ref a_K))
 {a_a:Addr} {d_a:FuncData} (G_a:FnD P w K mg base 2 a_a d_a ["P","row","other"] c_a) (m_a:mg "brought_together"=some (.ref a_a))
 {a_q:Addr} {d_q:FuncData} (G_q:FnF P w K mg base 5 a_q d_q ["P","rows"] c_q) (m_q:mg "idle_sums"=some (.ref a_q))
 (m_len:mg "len"=none)
 (m_range:mg "range"=none)
 {a_F:Addr} {d_F:FuncData} (G_F:FnD P w K mg base 2 a_F d_F ["P","row","number"] c_F) (m_F:mg "times"=some (.ref a_F))
 (m_tuple:mg "tuple"=none)
 : FnD P w K mg base 6 f fd ["P","rows","goal"] c_c:=by
 have F_K:=G_K.mono (k:=5) (by lia)
 have F_a:=G_a.mono (k:=5) (by lia)
 have F_q:=G_q.mono (k:=5) (by lia)
 have F_F:=G_F.mono (k:=5) (by lia)
 refine z1k Fu sc_c hb (fun ds h=>z0i h) fun cdv A outer s H E hr=>?_
 have nd:=sc_c.nd
 have hu:=hr.units
 refine⟨g_c,?_,fun ds hne=>(z1g (z0i hne)).symm⟩
 exact(z0e (y5v 3 (PIx.pic (z1w (z0y z4w m_len (by decide +kernel) (z0a (z0b 2) z0c)) m_range)) (x5z (fun _ _ _ _ _ _=>(PD.ro (z1r z2c m_tuple (by decide +kernel) (z0a (PF.pd (z3x (z5i (z0b 2)) (z4u (fun _ _ _ _ _=>(PD.ro (z1v (z0b 0) (z0b 1))))) (show List.Nodup (α:=Str) ["place","P","rows","goal","columns","row","number"] from by decide +kernel) rfl)) z0c))))) nd rfl)
  (z0e (z7c 4 z3s rfl (z9f (PF.ro (y0p F_q hr m_q (z0a (z0b 0) (z0a (z0b 3) z0c)))))
  (z0e (z1a 5 (PD.ro (z0j F_a hr m_a (z0a (z0b 0) (z0a (z0b 4) (z0a (z0b 2) z0c))))) nd)
  (z0g (z5v (z1c (y1q hu) (z0b 5) z0f (z1u _)) (z0g (z0u (z0j F_F hr m_F (z0a (z0b 0) (z0a (z0b 4) (z0a (z0j F_K hr m_K (z0a (z0b 0) (z0a (z0b 5) z0c))) z0c)))))) z2e))) nd)
  (z0g (z0u y4o))))
theorem f_m{f:Addr}{fd:FuncData}(Fu:Fun K "weights_to" "weights_to" s_m f fd)(hb:z1s K fd ["P","rows","goal"] [])
 {a_q:Addr} {d_q:FuncData} (G_q:FnF P w K mg base 5 a_q d_q ["P","rows"] c_q) (m_q:mg "idle_sums"=some (.ref a_q))
 (m_list:mg "list"=none)
 {a_F:Addr} {d_F:FuncData} (G_F:FnD P w K mg base 2 a_F d_F ["P","row","number"] c_F) (m_F:mg "times"=some (.ref a_F))
 : FnD P w K mg base 6 f fd ["P","rows","goal"] c_m:=by
 have F_q:=G_q.mono (k:=5) (by lia)
 have F_F:=G_F.mono (k:=5) (by lia)
 refine z1k Fu sc_m hb (fun ds h=>z0i h) fun cdv A outer s H E hr=>?_
 have nd:=sc_m.nd
 have hu:=hr.units
 refine⟨g_m,?_,fun ds hne=>(z1g (z0i hne)).symm⟩
 exact(z0e (z5g 3 (y0p F_q hr m_q (z0a (z0b 0) (z0a (PF.pd (x7w (z7d (z0a (z0b 2) z0c)) (x0p (z0b 1) m_list (by decide +kernel)))) z0c))) nd)
  (z0e (z5v (PWD.pt (z8p (z7g (x5w (z0b 3))) (z8b (z1c (z9i hu) (z1v (z1v (z0b 3) z0f) z0f) z0f (z1u _))))) (z0g (z0u y4o)) z2e)
  (z0g (z0u (z0j F_F hr m_F (z0a (z0b 0) (z0a (z9g (z1v (z0b 3) z0f) (podS z0f) podN) (z0a (y7f z0f) z0c))))))))
theorem f_A{f:Addr}{fd:FuncData}(Fu:Fun K "solved" "solved" s_A f fd)(hb:z1s K fd ["P","rows","goal"] [])
 {a_c:Addr} {d_c:FuncData} (G_c:FnD P w K mg base 6 a_c d_c ["P","rows","goal"] c_c) (m_c:mg "shutting_row"=some (.ref a_c))
 {a_m:Addr} {d_m:FuncData} (G_m:FnD P w K mg base 6 a_m d_m ["P","rows","goal"] c_m) (m_m:mg "weights_to"=some (.ref a_m))
 : FnD P w K mg base 7 f fd ["P","rows","goal"] c_A:=by
 have F_c:=G_c.mono (k:=6) (by lia)
 have F_m:=G_m.mono (k:=6) (by lia)
 refine z1k Fu sc_A hb (fun ds h=>z0i h) fun cdv A outer s H E hr=>?_
 have nd:=sc_A.nd
 have hu:=hr.units
 refine⟨g_A,?_,fun ds hne=>(z1g (z0i hne)).symm⟩
 exact(z0e (z1a 3 (PD.ro (z0j F_m hr m_m (z0a (z0b 0) (z0a (z0b 1) (z0a (z0b 2) z0c))))) nd)
  (z0e (z5v (z1c x0s (z0b 3) y4o (z1u _)) (z0g (z0u (z8q (z0a z8r (z0a (z0b 3) z0c))))) z2e)
  (z0g (z0u (z8q (z0a z8r (z0a (z0j F_c hr m_c (z0a (z0b 0) (z0a (z0b 1) (z0a (z0b 2) z0c)))) z0c)))))))
theorem f_s{f:Addr}{fd:FuncData}(Fu:Fun K "with_one" "with_one" s_s f fd)(hb:z1s K fd ["stand"] [])
 (m_tuple:mg "tuple"=none)
 : FnD P w K mg base 1 f fd ["stand"] c_s:=by
 refine z1k Fu sc_s hb (fun ds h=>z0i h) fun cdv A outer s H E hr=>?_
 have nd:=sc_s.nd
 have hu:=hr.units
 refine⟨g_s,?_,fun ds hne=>(z1g (z0i hne)).symm⟩
 exact(z0g (z0u (z0s z2u (z1r z2c m_tuple (by decide +kernel) (z0a (z0b 0) z0c)) (z8q (z0a z0f z0c)))))
theorem f_y{f:Addr}{fd:FuncData}(Fu:Fun K "towards" "towards" s_y f fd)(hb:z1s K fd ["P","stands","goal"] [])
 {a_A:Addr} {d_A:FuncData} (G_A:FnD P w K mg base 7 a_A d_A ["P","rows","goal"] c_A) (m_A:mg "solved"=some (.ref a_A))
 {a_s:Addr} {d_s:FuncData} (G_s:FnD P w K mg base 1 a_s d_s ["stand"] c_s) (m_s:mg "with_one"=some (.ref a_s))
 : FnD P w K mg base 8 f fd ["P","stands","goal"] c_y:=by
 have F_A:=G_A.mono (k:=7) (by lia)
 have F_s:=G_s.mono (k:=7) (by lia)
 refine z1k Fu sc_y hb (fun ds h=>z0i h) fun cdv A outer s H E hr=>?_
 have nd:=sc_y.nd
 have hu:=hr.units
 refine⟨g_y,?_,fun ds hne=>(z1g (z0i hne)).symm⟩
 exact(z0g (z0u (z0j F_A hr m_A (z0a (z0b 0) (z0a (PF.pd (z3x (z5i (z0b 1)) (z4u (fun _ _ _ _ _=>(PD.ro (z3d F_s hr m_s (z0a (z0b 0) z0c))))) nd rfl)) (z0a (z0j F_s hr m_s (z0a (z0b 2) z0c)) z0c))))))
theorem f_L{f:Addr}{fd:FuncData}(Fu:Fun K "hull" "hull" s_L f fd)(hb:z1s K fd ["P","many","items","stand"] [])
 {a_v:Addr} {d_v:FuncData} (G_v:FnD P w K mg base 17 a_v d_v ["P","many","items"] (c_v 12)) (m_v:mg "table_of"=some (.ref a_v))
 {a_y:Addr} {d_y:FuncData} (G_y:FnD P w K mg base 8 a_y d_y ["P","stands","goal"] c_y) (m_y:mg "towards"=some (.ref a_y))
 {a_z:Addr} {d_z:FuncData} (G_z:FnD P w K mg base 3 a_z d_z ["P","table","stand"] c_z) (m_z:mg "turned"=some (.ref a_z))
 : FnD P w K mg base 18 f fd ["P","many","items","stand"] c_L:=by
 have F_v:=G_v.mono (k:=17) (by lia)
 have F_y:=G_y.mono (k:=17) (by lia)
 have F_z:=G_z.mono (k:=17) (by lia)
 refine z1k Fu sc_L hb (fun ds h=>z0i h) fun cdv A outer s H E hr=>?_
 have nd:=sc_L.nd
 have hu:=hr.units
 refine⟨g_L,?_,fun ds hne=>(z1g (z0i hne)).symm⟩
 exact(z0e (z1a 4 (PD.ro (z0j F_v hr m_v (z0a (z0b 0) (z0a (z0b 1) (z0a (z0b 2) z0c))))) nd)
  (z0e (z5g 5 (z7d (z0a (z0b 3) z0c)) nd)
  (z0e (z1a 6 (PD.ro (z0j F_z hr m_z (z0a (z0b 0) (z0a (z0b 4) (z0a (z0b 3) z0c))))) nd)
  (z0e (z1a 7 (PD.ro (z0j F_y hr m_y (z0a (z0b 0) (z0a (z0b 5) (z0a (z0b 6) z0c))))) nd)
  (z0e (y2v 10 z3s (z1c (z9i hu) (z1v (z0b 7) z0f) z8r (z1u _)) (z0e (z5h 5 (PD.ro (z0b 6)))
  (z0e (z1a 6 (PD.ro (z0j F_z hr m_z (z0a (z0b 0) (z0a (z0b 4) (z0a (z0b 6) z0c))))) nd)
  (z0g (z1a 7 (PD.ro (z0j F_y hr m_y (z0a (z0b 0) (z0a (z0b 5) (z0a (z0b 6) z0c))))) nd)))))
  (z0g (z0u (z8q (z0a (z0b 5) (z0a (z1v (z0b 7) z0f) z0c))))))))))
theorem f_C{f:Addr}{fd:FuncData}(Fu:Fun K "placed" "placed" s_C f fd)(hb:z1s K fd ["P","many","items","stand","goal"] [])
 {a_L:Addr} {d_L:FuncData} (G_L:FnD P w K mg base 18 a_L d_L ["P","many","items","stand"] c_L) (m_L:mg "hull"=some (.ref a_L))
 {a_y:Addr} {d_y:FuncData} (G_y:FnD P w K mg base 8 a_y d_y ["P","stands","goal"] c_y) (m_y:mg "towards"=some (.ref a_y))
 : FnD P w K mg base 19 f fd ["P","many","items","stand","goal"] c_C:=by
 have F_L:=G_L.mono (k:=18) (by lia)
 have F_y:=G_y.mono (k:=18) (by lia)
 refine z1k Fu sc_C hb (fun ds h=>z0i h) fun cdv A outer s H E hr=>?_
 have nd:=sc_C.nd
 have hu:=hr.units
 refine⟨g_C,?_,fun ds hne=>(z1g (z0i hne)).symm⟩
 exact(z0e (z1a 5 (x8a (y4n F_L hr m_L (z4p (z4s 0) (z4p (z4s 1) (z4p (z4s 2) (z4p (z4s 3) y7h))))) z0f) nd)
  (z0g (z0u (z0j F_y hr m_y (z0a (z0b 0) (z0a (z0b 5) (z0a (z0b 4) z0c)))))))
theorem x9z{f:Addr}{fd:FuncData}(Fu:Fun K "law" "law" y2t f fd)(hb:z1s K fd ["script"] [])
 {a_p:Addr} {d_p:FuncData} (G_p:FnD P w K mg base 1 a_p d_p ["script","k"] c_p) (m_p:mg "_law_cell"=some (.ref a_p))
 {a_d:Addr} {d_d:FuncData} (G_d:FnD P w K mg base 1 a_d d_d ["cell","P","size"] c_d) (m_d:mg "_law_digits"=some (.ref a_d))
 {a_o:Addr} {d_o:FuncData} (G_o:FnD P w K mg base 3 a_o d_o ["cells","P","many","agains"] c_o) (m_o:mg "_law_items"=some (.ref a_o))
 {a_h:Addr} {d_h:FuncData} (G_h:FnD P w K mg base 1 a_h d_h ["cell"] c_h) (m_h:mg "_law_prime"=some (.ref a_h))
 {a_f:Addr} {d_f:FuncData} (G_f:FnD P w K mg base 2 a_f d_f ["P","many","stands","weights","goal"] c_f) (m_f:mg "_law_sum_is"=some (.ref a_f))
 {a_l:Addr} {d_l:FuncData} (G_l:FnD P w K mg base 1 a_l d_l ["P","size","found"] c_l) (m_l:mg "_law_tuple"=some (.ref a_l))
 {a_e:Addr} {d_e:FuncData} (G_e:FnD P w K mg base 2 a_e d_e ["P","table","stand"] c_e) (m_e:mg "_law_turned"=some (.ref a_e))
 {a_j:Addr} {d_j:FuncData} (G_j:FnD P w K mg base 1 a_j d_j ["P","form","stand"] c_j) (m_j:mg "_law_worth"=some (.ref a_j))
 {a_H:Addr} {d_H:FuncData} (G_H:FnD P w K mg base 18 a_H d_H ["P","many","items","n","stand"] c_H) (m_H:mg "after"=some (.ref a_H))
 {a_L:Addr} {d_L:FuncData} (G_L:FnD P w K mg base 18 a_L d_L ["P","many","items","stand"] c_L) (m_L:mg "hull"=some (.ref a_L))
 (m_isinstance:mg "isinstance"=none)
 (m_len:mg "len"=none)
 {a_C:Addr} {d_C:FuncData} (G_C:FnD P w K mg base 19 a_C d_C ["P","many","items","stand","goal"] c_C) (m_C:mg "placed"=some (.ref a_C))
 (m_range:mg "range"=none)
 {a_v:Addr} {d_v:FuncData} (G_v:FnD P w K mg base 17 a_v d_v ["P","many","items"] (c_v 12)) (m_v:mg "table_of"=some (.ref a_v))
 (m_tuple:mg "tuple"=none)
 : FnD P w K mg base 20 f fd ["script"] c_law:=by
 have F_p:=G_p.mono (k:=19) (by lia)
 have F_d:=G_d.mono (k:=19) (by lia)
 have F_o:=G_o.mono (k:=19) (by lia)
 have F_h:=G_h.mono (k:=19) (by lia)
 have F_f:=G_f.mono (k:=19) (by lia)
 have F_l:=G_l.mono (k:=19) (by lia)
 have F_e:=G_e.mono (k:=19) (by lia)
 have F_j:=G_j.mono (k:=19) (by lia)
 have F_H:=G_H.mono (k:=19) (by lia)
 have F_L:=G_L.mono (k:=19) (by lia)
 have F_C:=G_C.mono (k:=19) (by lia)
 have F_v:=G_v.mono (k:=19) (by lia)
 refine z1k Fu x4p hb (fun ds h=>z0i h) fun cdv A outer s H E hr=>?_
 have nd:=x4p.nd
 have hu:=hr.units
 refine⟨x6s,?_,fun ds hne=>(z1g (z0i hne)).symm⟩
 exact(z0e (z1a 1 (PD.ro (z0j F_h hr m_h (z0a (z0j F_p hr m_p (z0a (z0b 0) (z0a z0f z0c))) z0c))) nd)
  (z0e (z1a 2 (PD.ro (z0s z2u z0f (z0s z2j (z0j F_p hr m_p (z0a (z0b 0) (z0a z0f z0c))) z0f))) nd)
  (z0e (z1a 3 (PD.ro (z0j F_d hr m_d (z0a (z0j F_p hr m_p (z0a (z0b 0) (z0a z0f z0c))) (z0a (z0b 1) (z0a (z0b 2) z0c))))) nd)
  (z0e (z1a 4 (PD.ro (z0j F_d hr m_d (z0a (z0s z5j (z0j F_p hr m_p (z0a (z0b 0) (z0a z0f z0c))) z0f) (z0a (z0b 1) (z0a (z0b 2) z0c))))) nd)
  (z0e (z5v (z1c (z9i hu) (z0s z2j (z0j F_p hr m_p (z0a (z0b 0) (z0a z0f z0c))) z0f) z0f (z1u _)) (z0e (z1a 5 (PD.ro (z0s z2j (z0s z5j (z0j F_p hr m_p (z0a (z0b 0) (z0a z0f z0c))) z0f) (z0b 2))) nd)
  (z0g (z1a 4 (PD.ro (z0s z2u (z0s z2u (z9g (z0b 3) podN (podS (z0b 5))) (z8q (z0a (z0s z2j (z0s z5j (z0j F_p hr m_p (z0a (z0b 0) (z0a z0f z0c))) z0f) (z0b 1)) z0c))) (z9g (z0b 3) (podS (z0s z2u (z0b 5) z0f)) podN))) nd))) z2e)
  (z0e (z1a 6 (PD.ro (z0s z2j (z0j F_p hr m_p (z0a (z0b 0) (z0a z0f z0c))) (z0s z2u (z0s x4u z0f z0f) z0f))) nd)
  (z0e (z1a 7 (PD.ro (z0s z2j (z0s z5j (z0j F_p hr m_p (z0a (z0b 0) (z0a z0f z0c))) z0f) z0f)) nd)
  (z0e (z1a 8 (PD.ro (z0j F_o hr m_o (z0a (z9g (z0b 0) (podS z0f) (podS z0f)) (z0a (z0b 1) (z0a (z0b 2) (z0a z0f z0c)))))) nd)
  (z0e (z5v (z1c x6g (z0b 7) z0f (z1u _)) (z0g (z1a 8 (PD.ro (z9g (z0b 8) podN (podS (z0b 7)))) nd)) z2e)
  (z0e (z1a 9 (PD.ro (z0j F_C hr m_C (z0a (z0b 1) (z0a (z0b 2) (z0a (z0b 8) (z0a (z0b 3) (z0a (z0b 4) z0c))))))) nd)
  (z0e (z5v (PWD.pt (z8p (z7g (z7f (y7g z2w (z0b 9) m_isinstance (fun I q=>z6f I rfl m_tuple (by decide +kernel) q) x1i))) (z8b (z1c (y1q hu) (z0y z4w m_len (by decide +kernel) (z0a (z0b 9) z0c)) z0f (z1u _))))) (z0g (z0u y1p)) z2e)
  (z0e (z5v (z1c (z9i hu) (z1v (z0b 9) z0f) z8r (z1u _)) (z0g (z0u (z0j F_f hr m_f (z0a (z0b 1) (z0a (z0b 2) (z0a (z1v (PDr.pd (y4n F_L hr m_L (z4p (z4s 1) (z4p (z4s 2) (z4p (z4s 8) (z4p (z4s 3) y7h)))))) z0f) (z0a (z1v (z0b 9) z0f) (z0a (z0b 4) z0c)))))))) z2e)
  (z0e (z5v (PWD.pt (z8p (z1c (y1q hu) (z1v (z0b 9) z0f) z8r (z1u _)) (z8p (z7g (z7f (z0j F_l hr m_l (z0a (z0b 1) (z0a (z0s z2u (z0b 2) z0f) (z0a (z1v (z0b 9) z0f) z0c)))))) (z8b (z1c (y1q hu) (z0j F_j hr m_j (z0a (z0b 1) (z0a (z1v (z0b 9) z0f) (z0a (z0b 4) z0c)))) z0f (z1u _)))))) (z0g (z0u y1p)) z2e)
  (z0e (z1a 10 (PD.ro (z0j F_v hr m_v (z0a (z0b 1) (z0a (z0b 2) (z0a (z0b 8) z0c))))) nd)
  (z0e (z5g 11 (z7d (z0a (z0j F_H hr m_H (z0a (z0b 1) (z0a (z0b 2) (z0a (z0b 8) (z0a (z0b 6) (z0a (z0b 3) z0c)))))) (z0a (z0b 3) z0c))) nd)
  (z0e (z7c 12 z3s rfl (z1w z0f m_range)
  (z0g (z5h 11 (PD.ro (z0j F_e hr m_e (z0a (z0b 1) (z0a (z0b 10) (z0a (z1v (z0b 11) (y7f z0f)) z0c))))))) nd)
  (z0e (x7t 11 (z7c 13 z3s rfl (z9f (z4s 11))
  (z0g (z5v (PWD.pt (z8p (z1c (y1q hu) (z0j F_j hr m_j (z0a (z0b 1) (z0a (z1v (z0b 9) z0f) (z0a (z0b 13) z0c)))) z0f (z1u _)) (z8b (z1c (z9i hu) (z0b 13) (z0b 4) (z1u _))))) (z0g (z0u y1p)) z2e)) nd))
  (z0g (z0u y1p)))))))))))))))))))
end
theorem x1d{α:Type}{p:List α->Prop}(h:∀a,p [a])(us:List α)(hl:us.length=1):p us:=by
 obtain⟨a,rfl⟩:∃a,us=[a]:=by
  match us,hl with
  | [a],_=>exact⟨a,rfl⟩
 exact h a
theorem y6g{α:Type}{p:List α->Prop}(h:∀a b,p [a,b])(us:List α)(hl:us.length=2):p us:=by
 obtain⟨a,b,rfl⟩:∃a b,us=[a,b]:=by
  match us,hl with
  | [a,b],_=>exact⟨a,b,rfl⟩
 exact h a b
theorem z5w{α:Type}{p:List α->Prop}(h:∀a b c,p [a,b,c])(us:List α)(hl:us.length=3):p us:=by
 obtain⟨a,b,c,rfl⟩:∃a b c,us=[a,b,c]:=by
  match us,hl with
  | [a,b,c],_=>exact⟨a,b,c,rfl⟩
 exact h a b c
theorem x3u{α:Type}{p:List α->Prop}(h:∀a b c d,p [a,b,c,d])(us:List α)(hl:us.length=4):p us:=by
 obtain⟨a,b,c,d,rfl⟩:∃a b c d,us=[a,b,c,d]:=by
  match us,hl with
  | [a,b,c,d],_=>exact⟨a,b,c,d,rfl⟩
 exact h a b c d
theorem x6j{α:Type}{p:List α->Prop}(h:∀a b c d e,p [a,b,c,d,e])(us:List α)(hl:us.length=5):p us:=by
 obtain⟨a,b,c,d,e,rfl⟩:∃a b c d e,us=[a,b,c,d,e]:=by
  match us,hl with
  | [a,b,c,d,e],_=>exact⟨a,b,c,d,e,rfl⟩
 exact h a b c d e
theorem all_mk{l:PySem.W.OpenLaw}{w:World}{K:PySem.W.Frag}{h:Heap}{mg:Str->Option Value}{fa:Addr}(X:K.In h)(G:h.Ns mainGlobals mg)(hfa:mg "law"=some (.ref fa))
 {a_p:Addr} {od_p an_p:Option Addr} {sl_p:Array (Option Value)} {oc_p kV_p dc_p pm_p cd_p ct_p:Value}
 {a_d:Addr} {od_d an_d:Option Addr} {sl_d:Array (Option Value)} {oc_d kV_d dc_d pm_d cd_d ct_d:Value}
 {a_k:Addr} {od_k an_k:Option Addr} {sl_k:Array (Option Value)} {oc_k kV_k dc_k pm_k cd_k ct_k:Value}
 {a_t:Addr} {od_t an_t:Option Addr} {sl_t:Array (Option Value)} {oc_t kV_t dc_t pm_t cd_t ct_t:Value}
 {a_o:Addr} {od_o an_o:Option Addr} {sl_o:Array (Option Value)} {oc_o kV_o dc_o pm_o cd_o ct_o:Value}
 {a_h:Addr} {od_h an_h:Option Addr} {sl_h:Array (Option Value)} {oc_h kV_h dc_h pm_h cd_h ct_h:Value}
 {a_l:Addr} {od_l an_l:Option Addr} {sl_l:Array (Option Value)} {oc_l kV_l dc_l pm_l cd_l ct_l:Value}
 {a_f:Addr} {od_f an_f:Option Addr} {sl_f:Array (Option Value)} {oc_f kV_f dc_f pm_f cd_f ct_f:Value}
 {a_j:Addr} {od_j an_j:Option Addr} {sl_j:Array (Option Value)} {oc_j kV_j dc_j pm_j cd_j ct_j:Value}
 {a_e:Addr} {od_e an_e:Option Addr} {sl_e:Array (Option Value)} {oc_e kV_e dc_e pm_e cd_e ct_e:Value}
 {a_B:Addr} {od_B an_B:Option Addr} {sl_B:Array (Option Value)} {oc_B kV_B dc_B pm_B cd_B ct_B:Value}
 {a_I:Addr} {od_idle an_I:Option Addr} {sl_I:Array (Option Value)} {oc_I kV_I dc_I pm_I cd_I ct_I:Value}
 {a_i:Addr} {od_i an_i:Option Addr} {sl_i:Array (Option Value)} {oc_i kV_i dc_i pm_i cd_i ct_i:Value}
 {a_on:Addr} {od_on an_on:Option Addr} {sl_on:Array (Option Value)} {oc_on kV_on dc_on pm_on cd_on ct_on:Value}
 {a_n:Addr} {od_n an_n:Option Addr} {sl_n:Array (Option Value)} {oc_n kV_n dc_n pm_n cd_n ct_n:Value}
 {a_J:Addr} {od_J an_J:Option Addr} {sl_J:Array (Option Value)} {oc_J kV_J dc_J pm_J cd_J ct_J:Value}
 {a_D:Addr} {od_D an_D:Option Addr} {sl_D:Array (Option Value)} {oc_D kV_D dc_D pm_D cd_D ct_D:Value}
 {a_r:Addr} {od_r an_r:Option Addr} {sl_r:Array (Option Value)} {oc_r kV_r dc_r pm_r cd_r ct_r:Value}
 {a_E:Addr} {od_E an_E:Option Addr} {sl_E:Array (Option Value)} {oc_E kV_E dc_E pm_E cd_E ct_E:Value}
 {a_x:Addr} {od_x an_x:Option Addr} {sl_x:Array (Option Value)} {oc_x kV_x dc_x pm_x cd_x ct_x:Value}
 {a_v:Addr} {od_v an_v:Option Addr} {sl_v:Array (Option Value)} {oc_v kV_v dc_v pm_v cd_v ct_v:Value}
 {a_b:Addr} {od_b an_b:Option Addr} {sl_b:Array (Option Value)} {oc_b kV_b dc_b pm_b cd_b ct_b:Value}
 {a_G:Addr} {od_G an_G:Option Addr} {sl_G:Array (Option Value)} {oc_G kV_G dc_G pm_G cd_G ct_G:Value}
 {a_z:Addr} {od_z an_z:Option Addr} {sl_z:Array (Option Value)} {oc_z kV_z dc_z pm_z cd_z ct_z:Value}
 {a_H:Addr} {od_H an_H:Option Addr} {sl_H:Array (Option Value)} {oc_H kV_H dc_H pm_H cd_H ct_H:Value}
 {a_K:Addr} {od_K an_K:Option Addr} {sl_K:Array (Option Value)} {oc_K kV_K dc_K pm_K cd_K ct_K:Value}
 {a_a:Addr} {od_a an_a:Option Addr} {sl_a:Array (Option Value)} {oc_a kV_a dc_a pm_a cd_a ct_a:Value}
 {a_w:Addr} {od_w an_w:Option Addr} {sl_w:Array (Option Value)} {oc_w kV_w dc_w pm_w cd_w ct_w:Value}
 {a_F:Addr} {od_F an_F:Option Addr} {sl_F:Array (Option Value)} {oc_F kV_F dc_F pm_F cd_F ct_F:Value}
 {a_u:Addr} {od_u an_u:Option Addr} {sl_u:Array (Option Value)} {oc_u kV_u dc_u pm_u cd_u ct_u:Value}
 {a_g:Addr} {od_g an_g:Option Addr} {sl_g:Array (Option Value)} {oc_g kV_g dc_g pm_g cd_g ct_g:Value}
 {a_q:Addr} {od_q an_q:Option Addr} {sl_q:Array (Option Value)} {oc_q kV_q dc_q pm_q cd_q ct_q:Value}
 {a_c:Addr} {od_c an_c:Option Addr} {sl_c:Array (Option Value)} {oc_c kV_c dc_c pm_c cd_c ct_c:Value}
 {a_m:Addr} {od_m an_m:Option Addr} {sl_m:Array (Option Value)} {oc_m kV_m dc_m pm_m cd_m ct_m:Value}
 {a_A:Addr} {od_A an_A:Option Addr} {sl_A:Array (Option Value)} {oc_A kV_A dc_A pm_A cd_A ct_A:Value}
 {a_s:Addr} {od_s an_s:Option Addr} {sl_s:Array (Option Value)} {oc_s kV_s dc_s pm_s cd_s ct_s:Value}
 {a_y:Addr} {od_y an_y:Option Addr} {sl_y:Array (Option Value)} {oc_y kV_y dc_y pm_y cd_y ct_y:Value}
 {a_L:Addr} {od_L an_L:Option Addr} {sl_L:Array (Option Value)} {oc_L kV_L dc_L pm_L cd_L ct_L:Value}
 {a_C:Addr} {od_C an_C:Option Addr} {sl_C:Array (Option Value)} {oc_C kV_C dc_C pm_C cd_C ct_C:Value}
 {a_law:Addr} {od_law an_law:Option Addr} {sl_law:Array (Option Value)} {oc_law kV_law dc_law pm_law cd_law ct_law:Value}
 (a1_p:PySem.W.nsIn K mainGlobals "_law_cell"=some (some (.ref a_p))) (l1_p:K.lookup a_p=some ⟨oc_p,od_p,.func (PySem.W.fnOf "_law_cell" "_law_cell" (z0o s_p) (z0m s_p) (z0d s_p) .none kV_p dc_p pm_p an_p cd_p ct_p),sl_p⟩) (c1_p:PySem.W.codeIn K cd_p "_law_cell"=true) (k1_p:PySem.W.keepIn K (.ref a_p)=true)
 (a1_d:PySem.W.nsIn K mainGlobals "_law_digits"=some (some (.ref a_d))) (l1_d:K.lookup a_d=some ⟨oc_d,od_d,.func (PySem.W.fnOf "_law_digits" "_law_digits" (z0o s_d) (z0m s_d) (z0d s_d) .none kV_d dc_d pm_d an_d cd_d ct_d),sl_d⟩) (c1_d:PySem.W.codeIn K cd_d "_law_digits"=true) (k1_d:PySem.W.keepIn K (.ref a_d)=true)
 (a1_k:PySem.W.nsIn K mainGlobals "_law_count"=some (some (.ref a_k))) (l1_k:K.lookup a_k=some ⟨oc_k,od_k,.func (PySem.W.fnOf "_law_count" "_law_count" (z0o s_k) (z0m s_k) (z0d s_k) .none kV_k dc_k pm_k an_k cd_k ct_k),sl_k⟩) (c1_k:PySem.W.codeIn K cd_k "_law_count"=true) (k1_k:PySem.W.keepIn K (.ref a_k)=true)
 (a1_t:PySem.W.nsIn K mainGlobals "_law_set"=some (some (.ref a_t))) (l1_t:K.lookup a_t=some ⟨oc_t,od_t,.func (PySem.W.fnOf "_law_set" "_law_set" (z0o s_t) (z0m s_t) (z0d s_t) .none kV_t dc_t pm_t an_t cd_t ct_t),sl_t⟩) (c1_t:PySem.W.codeIn K cd_t "_law_set"=true) (k1_t:PySem.W.keepIn K (.ref a_t)=true)
 (a1_o:PySem.W.nsIn K mainGlobals "_law_items"=some (some (.ref a_o))) (l1_o:K.lookup a_o=some ⟨oc_o,od_o,.func (PySem.W.fnOf "_law_items" "_law_items" (z0o s_o) (z0m s_o) (z0d s_o) .none kV_o dc_o pm_o an_o cd_o ct_o),sl_o⟩) (c1_o:PySem.W.codeIn K cd_o "_law_items"=true) (k1_o:PySem.W.keepIn K (.ref a_o)=true)
 (a1_h:PySem.W.nsIn K mainGlobals "_law_prime"=some (some (.ref a_h))) (l1_h:K.lookup a_h=some ⟨oc_h,od_h,.func (PySem.W.fnOf "_law_prime" "_law_prime" (z0o s_h) (z0m s_h) (z0d s_h) .none kV_h dc_h pm_h an_h cd_h ct_h),sl_h⟩) (c1_h:PySem.W.codeIn K cd_h "_law_prime"=true) (k1_h:PySem.W.keepIn K (.ref a_h)=true)
 (a1_l:PySem.W.nsIn K mainGlobals "_law_tuple"=some (some (.ref a_l))) (l1_l:K.lookup a_l=some ⟨oc_l,od_l,.func (PySem.W.fnOf "_law_tuple" "_law_tuple" (z0o s_l) (z0m s_l) (z0d s_l) .none kV_l dc_l pm_l an_l cd_l ct_l),sl_l⟩) (c1_l:PySem.W.codeIn K cd_l "_law_tuple"=true) (k1_l:PySem.W.keepIn K (.ref a_l)=true)
 (a1_f:PySem.W.nsIn K mainGlobals "_law_sum_is"=some (some (.ref a_f))) (l1_f:K.lookup a_f=some ⟨oc_f,od_f,.func (PySem.W.fnOf "_law_sum_is" "_law_sum_is" (z0o s_f) (z0m s_f) (z0d s_f) .none kV_f dc_f pm_f an_f cd_f ct_f),sl_f⟩) (c1_f:PySem.W.codeIn K cd_f "_law_sum_is"=true) (k1_f:PySem.W.keepIn K (.ref a_f)=true)
 (a1_j:PySem.W.nsIn K mainGlobals "_law_worth"=some (some (.ref a_j))) (l1_j:K.lookup a_j=some ⟨oc_j,od_j,.func (PySem.W.fnOf "_law_worth" "_law_worth" (z0o s_j) (z0m s_j) (z0d s_j) .none kV_j dc_j pm_j an_j cd_j ct_j),sl_j⟩) (c1_j:PySem.W.codeIn K cd_j "_law_worth"=true) (k1_j:PySem.W.keepIn K (.ref a_j)=true)
 (a1_e:PySem.W.nsIn K mainGlobals "_law_turned"=some (some (.ref a_e))) (l1_e:K.lookup a_e=some ⟨oc_e,od_e,.func (PySem.W.fnOf "_law_turned" "_law_turned" (z0o s_e) (z0m s_e) (z0d s_e) .none kV_e dc_e pm_e an_e cd_e ct_e),sl_e⟩) (c1_e:PySem.W.codeIn K cd_e "_law_turned"=true) (k1_e:PySem.W.keepIn K (.ref a_e)=true)
 (a1_B:PySem.W.nsIn K mainGlobals "one_at"=some (some (.ref a_B))) (l1_B:K.lookup a_B=some ⟨oc_B,od_B,.func (PySem.W.fnOf "one_at" "one_at" (z0o s_B) (z0m s_B) (z0d s_B) .none kV_B dc_B pm_B an_B cd_B ct_B),sl_B⟩) (c1_B:PySem.W.codeIn K cd_B "one_at"=true) (k1_B:PySem.W.keepIn K (.ref a_B)=true)
 (a1_I:PySem.W.nsIn K mainGlobals "idle"=some (some (.ref a_I))) (l1_I:K.lookup a_I=some ⟨oc_I,od_idle,.func (PySem.W.fnOf "idle" "idle" (z0o s_I) (z0m s_I) (z0d s_I) .none kV_I dc_I pm_I an_I cd_I ct_I),sl_I⟩) (c1_I:PySem.W.codeIn K cd_I "idle"=true) (k1_I:PySem.W.keepIn K (.ref a_I)=true)
 (a1_i:PySem.W.nsIn K mainGlobals "column_sum"=some (some (.ref a_i))) (l1_i:K.lookup a_i=some ⟨oc_i,od_i,.func (PySem.W.fnOf "column_sum" "column_sum" (z0o s_i) (z0m s_i) (z0d s_i) .none kV_i dc_i pm_i an_i cd_i ct_i),sl_i⟩) (c1_i:PySem.W.codeIn K cd_i "column_sum"=true) (k1_i:PySem.W.keepIn K (.ref a_i)=true)
 (a1_on:PySem.W.nsIn K mainGlobals "on"=some (some (.ref a_on))) (l1_on:K.lookup a_on=some ⟨oc_on,od_on,.func (PySem.W.fnOf "on" "on" (z0o s_on) (z0m s_on) (z0d s_on) .none kV_on dc_on pm_on an_on cd_on ct_on),sl_on⟩) (c1_on:PySem.W.codeIn K cd_on "on"=true) (k1_on:PySem.W.keepIn K (.ref a_on)=true)
 (a1_n:PySem.W.nsIn K mainGlobals "form_ahead"=some (some (.ref a_n))) (l1_n:K.lookup a_n=some ⟨oc_n,od_n,.func (PySem.W.fnOf "form_ahead" "form_ahead" (z0o s_n) (z0m s_n) (z0d s_n) .none kV_n dc_n pm_n an_n cd_n ct_n),sl_n⟩) (c1_n:PySem.W.codeIn K cd_n "form_ahead"=true) (k1_n:PySem.W.keepIn K (.ref a_n)=true)
 (a1_J:PySem.W.nsIn K mainGlobals "then"=some (some (.ref a_J))) (l1_J:K.lookup a_J=some ⟨oc_J,od_J,.func (PySem.W.fnOf "then" "then" (z0o s_J) (z0m s_J) (z0d s_J) .none kV_J dc_J pm_J an_J cd_J ct_J),sl_J⟩) (c1_J:PySem.W.codeIn K cd_J "then"=true) (k1_J:PySem.W.keepIn K (.ref a_J)=true)
 (a1_D:PySem.W.nsIn K mainGlobals "ladder"=some (some (.ref a_D))) (l1_D:K.lookup a_D=some ⟨oc_D,od_D,.func (PySem.W.fnOf "ladder" "ladder" (z0o s_D) (z0m s_D) (z0d s_D) .none kV_D dc_D pm_D an_D cd_D ct_D),sl_D⟩) (c1_D:PySem.W.codeIn K cd_D "ladder"=true) (k1_D:PySem.W.keepIn K (.ref a_D)=true)
 (a1_r:PySem.W.nsIn K mainGlobals "rungs_for"=some (some (.ref a_r))) (l1_r:K.lookup a_r=some ⟨oc_r,od_r,.func (PySem.W.fnOf "rungs_for" "rungs_for" (z0o s_r) (z0m s_r) (z0d s_r) .none kV_r dc_r pm_r an_r cd_r ct_r),sl_r⟩) (c1_r:PySem.W.codeIn K cd_r "rungs_for"=true) (k1_r:PySem.W.keepIn K (.ref a_r)=true)
 (a1_E:PySem.W.nsIn K mainGlobals "rounds"=some (some (.ref a_E))) (l1_E:K.lookup a_E=some ⟨oc_E,od_E,.func (PySem.W.fnOf "rounds" "rounds" (z0o s_E) (z0m s_E) (z0d s_E) .none kV_E dc_E pm_E an_E cd_E ct_E),sl_E⟩) (c1_E:PySem.W.codeIn K cd_E "rounds"=true) (k1_E:PySem.W.keepIn K (.ref a_E)=true)
 (a1_x:PySem.W.nsIn K mainGlobals "setting"=some (some (.ref a_x))) (l1_x:K.lookup a_x=some ⟨oc_x,od_x,.func (PySem.W.fnOf "setting" "setting" (z0o s_x) (z0m s_x) (z0d s_x) .none kV_x dc_x pm_x an_x cd_x ct_x),sl_x⟩) (c1_x:PySem.W.codeIn K cd_x "setting"=true) (k1_x:PySem.W.keepIn K (.ref a_x)=true)
 (a1_v:PySem.W.nsIn K mainGlobals "table_of"=some (some (.ref a_v))) (l1_v:K.lookup a_v=some ⟨oc_v,od_v,.func (PySem.W.fnOf "table_of" "table_of" (z0o s_v) (z0m s_v) (z0d s_v) .none kV_v dc_v pm_v an_v cd_v ct_v),sl_v⟩) (c1_v:PySem.W.codeIn K cd_v "table_of"=true) (k1_v:PySem.W.keepIn K (.ref a_v)=true)
 (a1_b:PySem.W.nsIn K mainGlobals "table_of_item"=some (some (.ref a_b))) (l1_b:K.lookup a_b=some ⟨oc_b,od_b,.func (PySem.W.fnOf "table_of_item" "table_of_item" (z0o s_b) (z0m s_b) (z0d s_b) .none kV_b dc_b pm_b an_b cd_b ct_b),sl_b⟩) (c1_b:PySem.W.codeIn K cd_b "table_of_item"=true) (k1_b:PySem.W.keepIn K (.ref a_b)=true)
 (a1_G:PySem.W.nsIn K mainGlobals "worth"=some (some (.ref a_G))) (l1_G:K.lookup a_G=some ⟨oc_G,od_G,.func (PySem.W.fnOf "worth" "worth" (z0o s_G) (z0m s_G) (z0d s_G) .none kV_G dc_G pm_G an_G cd_G ct_G),sl_G⟩) (c1_G:PySem.W.codeIn K cd_G "worth"=true) (k1_G:PySem.W.keepIn K (.ref a_G)=true)
 (a1_z:PySem.W.nsIn K mainGlobals "turned"=some (some (.ref a_z))) (l1_z:K.lookup a_z=some ⟨oc_z,od_z,.func (PySem.W.fnOf "turned" "turned" (z0o s_z) (z0m s_z) (z0d s_z) .none kV_z dc_z pm_z an_z cd_z ct_z),sl_z⟩) (c1_z:PySem.W.codeIn K cd_z "turned"=true) (k1_z:PySem.W.keepIn K (.ref a_z)=true)
 (a1_H:PySem.W.nsIn K mainGlobals "after"=some (some (.ref a_H))) (l1_H:K.lookup a_H=some ⟨oc_H,od_H,.func (PySem.W.fnOf "after" "after" (z0o s_H) (z0m s_H) (z0d s_H) .none kV_H dc_H pm_H an_H cd_H ct_H),sl_H⟩) (c1_H:PySem.W.codeIn K cd_H "after"=true) (k1_H:PySem.W.keepIn K (.ref a_H)=true)
 (a1_K:PySem.W.nsIn K mainGlobals "back"=some (some (.ref a_K))) (l1_K:K.lookup a_K=some ⟨oc_K,od_K,.func (PySem.W.fnOf "back" "back" (z0o s_K) (z0m s_K) (z0d s_K) .none kV_K dc_K pm_K an_K cd_K ct_K),sl_K⟩) (c1_K:PySem.W.codeIn K cd_K "back"=true) (k1_K:PySem.W.keepIn K (.ref a_K)=true)
 (a1_a:PySem.W.nsIn K mainGlobals "brought_together"=some (some (.ref a_a))) (l1_a:K.lookup a_a=some ⟨oc_a,od_a,.func (PySem.W.fnOf "brought_together" "brought_together" (z0o s_a) (z0m s_a) (z0d s_a) .none kV_a dc_a pm_a an_a cd_a ct_a),sl_a⟩) (c1_a:PySem.W.codeIn K cd_a "brought_together"=true) (k1_a:PySem.W.keepIn K (.ref a_a)=true)
 (a1_w:PySem.W.nsIn K mainGlobals "cleared"=some (some (.ref a_w))) (l1_w:K.lookup a_w=some ⟨oc_w,od_w,.func (PySem.W.fnOf "cleared" "cleared" (z0o s_w) (z0m s_w) (z0d s_w) .none kV_w dc_w pm_w an_w cd_w ct_w),sl_w⟩) (c1_w:PySem.W.codeIn K cd_w "cleared"=true) (k1_w:PySem.W.keepIn K (.ref a_w)=true)
 (a1_F:PySem.W.nsIn K mainGlobals "times"=some (some (.ref a_F))) (l1_F:K.lookup a_F=some ⟨oc_F,od_F,.func (PySem.W.fnOf "times" "times" (z0o s_F) (z0m s_F) (z0d s_F) .none kV_F dc_F pm_F an_F cd_F ct_F),sl_F⟩) (c1_F:PySem.W.codeIn K cd_F "times"=true) (k1_F:PySem.W.keepIn K (.ref a_F)=true)
 (a1_u:PySem.W.nsIn K mainGlobals "lead_row"=some (some (.ref a_u))) (l1_u:K.lookup a_u=some ⟨oc_u,od_u,.func (PySem.W.fnOf "lead_row" "lead_row" (z0o s_u) (z0m s_u) (z0d s_u) .none kV_u dc_u pm_u an_u cd_u ct_u),sl_u⟩) (c1_u:PySem.W.codeIn K cd_u "lead_row"=true) (k1_u:PySem.W.keepIn K (.ref a_u)=true)
 (a1_g:PySem.W.nsIn K mainGlobals "steps_form"=some (some (.ref a_g))) (l1_g:K.lookup a_g=some ⟨oc_g,od_g,.func (PySem.W.fnOf "steps_form" "steps_form" (z0o s_g) (z0m s_g) (z0d s_g) .none kV_g dc_g pm_g an_g cd_g ct_g),sl_g⟩) (c1_g:PySem.W.codeIn K cd_g "steps_form"=true) (k1_g:PySem.W.keepIn K (.ref a_g)=true)
 (a1_q:PySem.W.nsIn K mainGlobals "idle_sums"=some (some (.ref a_q))) (l1_q:K.lookup a_q=some ⟨oc_q,od_q,.func (PySem.W.fnOf "idle_sums" "idle_sums" (z0o s_q) (z0m s_q) (z0d s_q) .none kV_q dc_q pm_q an_q cd_q ct_q),sl_q⟩) (c1_q:PySem.W.codeIn K cd_q "idle_sums"=true) (k1_q:PySem.W.keepIn K (.ref a_q)=true)
 (a1_c:PySem.W.nsIn K mainGlobals "shutting_row"=some (some (.ref a_c))) (l1_c:K.lookup a_c=some ⟨oc_c,od_c,.func (PySem.W.fnOf "shutting_row" "shutting_row" (z0o s_c) (z0m s_c) (z0d s_c) .none kV_c dc_c pm_c an_c cd_c ct_c),sl_c⟩) (c1_c:PySem.W.codeIn K cd_c "shutting_row"=true) (k1_c:PySem.W.keepIn K (.ref a_c)=true)
 (a1_m:PySem.W.nsIn K mainGlobals "weights_to"=some (some (.ref a_m))) (l1_m:K.lookup a_m=some ⟨oc_m,od_m,.func (PySem.W.fnOf "weights_to" "weights_to" (z0o s_m) (z0m s_m) (z0d s_m) .none kV_m dc_m pm_m an_m cd_m ct_m),sl_m⟩) (c1_m:PySem.W.codeIn K cd_m "weights_to"=true) (k1_m:PySem.W.keepIn K (.ref a_m)=true)
 (a1_A:PySem.W.nsIn K mainGlobals "solved"=some (some (.ref a_A))) (l1_A:K.lookup a_A=some ⟨oc_A,od_A,.func (PySem.W.fnOf "solved" "solved" (z0o s_A) (z0m s_A) (z0d s_A) .none kV_A dc_A pm_A an_A cd_A ct_A),sl_A⟩) (c1_A:PySem.W.codeIn K cd_A "solved"=true) (k1_A:PySem.W.keepIn K (.ref a_A)=true)
 (a1_s:PySem.W.nsIn K mainGlobals "with_one"=some (some (.ref a_s))) (l1_s:K.lookup a_s=some ⟨oc_s,od_s,.func (PySem.W.fnOf "with_one" "with_one" (z0o s_s) (z0m s_s) (z0d s_s) .none kV_s dc_s pm_s an_s cd_s ct_s),sl_s⟩) (c1_s:PySem.W.codeIn K cd_s "with_one"=true) (k1_s:PySem.W.keepIn K (.ref a_s)=true)
 (a1_y:PySem.W.nsIn K mainGlobals "towards"=some (some (.ref a_y))) (l1_y:K.lookup a_y=some ⟨oc_y,od_y,.func (PySem.W.fnOf "towards" "towards" (z0o s_y) (z0m s_y) (z0d s_y) .none kV_y dc_y pm_y an_y cd_y ct_y),sl_y⟩) (c1_y:PySem.W.codeIn K cd_y "towards"=true) (k1_y:PySem.W.keepIn K (.ref a_y)=true)
 (a1_L:PySem.W.nsIn K mainGlobals "hull"=some (some (.ref a_L))) (l1_L:K.lookup a_L=some ⟨oc_L,od_L,.func (PySem.W.fnOf "hull" "hull" (z0o s_L) (z0m s_L) (z0d s_L) .none kV_L dc_L pm_L an_L cd_L ct_L),sl_L⟩) (c1_L:PySem.W.codeIn K cd_L "hull"=true) (k1_L:PySem.W.keepIn K (.ref a_L)=true)
 (a1_C:PySem.W.nsIn K mainGlobals "placed"=some (some (.ref a_C))) (l1_C:K.lookup a_C=some ⟨oc_C,od_C,.func (PySem.W.fnOf "placed" "placed" (z0o s_C) (z0m s_C) (z0d s_C) .none kV_C dc_C pm_C an_C cd_C ct_C),sl_C⟩) (c1_C:PySem.W.codeIn K cd_C "placed"=true) (k1_C:PySem.W.keepIn K (.ref a_C)=true)
 (a1_law:PySem.W.nsIn K mainGlobals "law"=some (some (.ref a_law))) (l1_law:K.lookup a_law=some ⟨oc_law,od_law,.func (PySem.W.fnOf "law" "law" (z0o y2t) (z0m y2t) (z0d y2t) .none kV_law dc_law pm_law an_law cd_law ct_law),sl_law⟩) (c1_law:PySem.W.codeIn K cd_law "law"=true) (k1_law:PySem.W.keepIn K (.ref a_law)=true)
 (z_any:PySem.W.nsIn K mainGlobals "any"=some none)
 (z_bool:PySem.W.nsIn K mainGlobals "bool"=some none)
 (z_enumerate:PySem.W.nsIn K mainGlobals "enumerate"=some none)
 (z_int:PySem.W.nsIn K mainGlobals "int"=some none)
 (z_isinstance:PySem.W.nsIn K mainGlobals "isinstance"=some none)
 (z_len:PySem.W.nsIn K mainGlobals "len"=some none)
 (z_list:PySem.W.nsIn K mainGlobals "list"=some none)
 (z_max:PySem.W.nsIn K mainGlobals "max"=some none)
 (z_min:PySem.W.nsIn K mainGlobals "min"=some none)
 (z_range:PySem.W.nsIn K mainGlobals "range"=some none)
 (z_sum:PySem.W.nsIn K mainGlobals "sum"=some none)
 (z_tuple:PySem.W.nsIn K mainGlobals "tuple"=some none)
 (z_zip:PySem.W.nsIn K mainGlobals "zip"=some none)
 {a_NoNumber:Addr} {cdx_NoNumber:ClassData}
 {a_LongError:Addr} {cdx_LongError:ClassData}
 (a1_NoNumber:PySem.W.nsIn K mainGlobals "NoNumber"=some (some (.ref a_NoNumber)))
 (a1_LongError:PySem.W.nsIn K mainGlobals "LongError"=some (some (.ref a_LongError)))
 (xa_NoNumber:PySem.W.findIn K (.ref a_NoNumber) "__getattribute__"=some (some (.builtin "BaseException.__getattribute__")))
 (xb_NoNumber:PySem.W.findIn K (.ref a_NoNumber) "__getattr__"=some none)
 (xc_NoNumber:PySem.W.findIn K (.ref a_NoNumber) "__class__"=some (some (.builtin "object.__class__")))
 (xd_NoNumber:PySem.W.mroIn K a_NoNumber (.type "object")=some true)
 (xe_NoNumber:PySem.W.mroIn K a_NoNumber (.type "BaseException")=some true)
 (xf_NoNumber:PySem.W.typeIn K (.ref a_NoNumber)=some (.type "type"))
 (xg_NoNumber:PySem.W.clsIn K a_NoNumber=some cdx_NoNumber)
 (xa_LongError:PySem.W.findIn K (.ref a_LongError) "__getattribute__"=some (some (.builtin "BaseException.__getattribute__")))
 (xb_LongError:PySem.W.findIn K (.ref a_LongError) "__getattr__"=some none)
 (xc_LongError:PySem.W.findIn K (.ref a_LongError) "__class__"=some (some (.builtin "object.__class__")))
 (xd_LongError:PySem.W.mroIn K a_LongError (.type "object")=some true)
 (xe_LongError:PySem.W.mroIn K a_LongError (.type "BaseException")=some true)
 (xf_LongError:PySem.W.typeIn K (.ref a_LongError)=some (.type "type"))
 (xg_LongError:PySem.W.clsIn K a_LongError=some cdx_LongError)
 (zg_NoPrime:PySem.W.nsIn K mainGlobals "NoPrime"=some none)
 (zg_NoProgram:PySem.W.nsIn K mainGlobals "NoProgram"=some none)
 (zg_TooLong:PySem.W.nsIn K mainGlobals "TooLong"=some none)
 (zg_Lossy:PySem.W.nsIn K mainGlobals "Lossy"=some none)
 (zg_NoText:PySem.W.nsIn K mainGlobals "NoText"=some none)
 (ex_NoNumber:PySem.W.excIn K a_NoNumber [.type "ValueError",.type "Exception",.type "BaseException",.type "object"] "ValueError.__new__"=true)
 : ∃fd:FuncData,(∀(s:Shared) (v:Value),BindsTo s fd ⟨[v],[]⟩ [("script",v)])/\∀base:Heap,K.In base->base.Ns mainGlobals mg->FnOk l.prog w K mg base (CXE l.prog w) 20 fa fd ["script"] (spN c_law K):=by
 have e:=hfa.symm.trans (PySem.W.mg_of X G a1_law)
 cases e
 have U_p:=z1d (st:=s_p) l1_p c1_p k1_p
 have b_p:=U_p.binds (ps:=["script","k"]) fun _ _ _ _ _ _=>y6g fun _ _=>rfl
 have m_p:=PySem.W.mg_of X G a1_p
 have U_d:=z1d (st:=s_d) l1_d c1_d k1_d
 have b_d:=U_d.binds (ps:=["cell","P","size"]) fun _ _ _ _ _ _=>z5w fun _ _ _=>rfl
 have m_d:=PySem.W.mg_of X G a1_d
 have U_k:=z1d (st:=s_k) l1_k c1_k k1_k
 have b_k:=U_k.binds (ps:=["cell"]) fun _ _ _ _ _ _=>x1d fun _=>rfl
 have m_k:=PySem.W.mg_of X G a1_k
 have U_t:=z1d (st:=s_t) l1_t c1_t k1_t
 have b_t:=U_t.binds (ps:=["cell","more","P","many"]) fun _ _ _ _ _ _=>x3u fun _ _ _ _=>rfl
 have m_t:=PySem.W.mg_of X G a1_t
 have U_o:=z1d (st:=s_o) l1_o c1_o k1_o
 have b_o:=U_o.binds (ps:=["cells","P","many","agains"]) fun _ _ _ _ _ _=>x3u fun _ _ _ _=>rfl
 have m_o:=PySem.W.mg_of X G a1_o
 have U_h:=z1d (st:=s_h) l1_h c1_h k1_h
 have b_h:=U_h.binds (ps:=["cell"]) fun _ _ _ _ _ _=>x1d fun _=>rfl
 have m_h:=PySem.W.mg_of X G a1_h
 have U_l:=z1d (st:=s_l) l1_l c1_l k1_l
 have b_l:=U_l.binds (ps:=["P","size","found"]) fun _ _ _ _ _ _=>z5w fun _ _ _=>rfl
 have m_l:=PySem.W.mg_of X G a1_l
 have U_f:=z1d (st:=s_f) l1_f c1_f k1_f
 have b_f:=U_f.binds (ps:=["P","many","stands","weights","goal"]) fun _ _ _ _ _ _=>x6j fun _ _ _ _ _=>rfl
 have m_f:=PySem.W.mg_of X G a1_f
 have U_j:=z1d (st:=s_j) l1_j c1_j k1_j
 have b_j:=U_j.binds (ps:=["P","form","stand"]) fun _ _ _ _ _ _=>z5w fun _ _ _=>rfl
 have m_j:=PySem.W.mg_of X G a1_j
 have U_e:=z1d (st:=s_e) l1_e c1_e k1_e
 have b_e:=U_e.binds (ps:=["P","table","stand"]) fun _ _ _ _ _ _=>z5w fun _ _ _=>rfl
 have m_e:=PySem.W.mg_of X G a1_e
 have U_B:=z1d (st:=s_B) l1_B c1_B k1_B
 have b_B:=U_B.binds (ps:=["width","place"]) fun _ _ _ _ _ _=>y6g fun _ _=>rfl
 have m_B:=PySem.W.mg_of X G a1_B
 have U_I:=z1d (st:=s_I) l1_I c1_I k1_I
 have b_I:=U_I.binds (ps:=["many"]) fun _ _ _ _ _ _=>x1d fun _=>rfl
 have m_I:=PySem.W.mg_of X G a1_I
 have U_i:=z1d (st:=s_i) l1_i c1_i k1_i
 have b_i:=U_i.binds (ps:=["form","table","place"]) fun _ _ _ _ _ _=>z5w fun _ _ _=>rfl
 have m_i:=PySem.W.mg_of X G a1_i
 have U_on:=z1d (st:=s_on) l1_on c1_on k1_on
 have b_on:=U_on.binds (ps:=["P","n"]) fun _ _ _ _ _ _=>y6g fun _ _=>rfl
 have m_on:=PySem.W.mg_of X G a1_on
 have U_n:=z1d (st:=s_n) l1_n c1_n k1_n
 have b_n:=U_n.binds (ps:=["P","table","form"]) fun _ _ _ _ _ _=>z5w fun _ _ _=>rfl
 have m_n:=PySem.W.mg_of X G a1_n
 have U_J:=z1d (st:=s_J) l1_J c1_J k1_J
 have b_J:=U_J.binds (ps:=["P","one","other"]) fun _ _ _ _ _ _=>z5w fun _ _ _=>rfl
 have m_J:=PySem.W.mg_of X G a1_J
 have U_D:=z1d (st:=s_D) l1_D c1_D k1_D
 have b_D:=U_D.binds (ps:=["P","table","n"]) fun _ _ _ _ _ _=>z5w fun _ _ _=>rfl
 have m_D:=PySem.W.mg_of X G a1_D
 have U_r:=z1d (st:=s_r) l1_r c1_r k1_r
 have b_r:=U_r.binds (ps:=["rungs","n"]) fun _ _ _ _ _ _=>y6g fun _ _=>rfl
 have m_r:=PySem.W.mg_of X G a1_r
 have U_E:=z1d (st:=s_E) l1_E c1_E k1_E
 have b_E:=U_E.binds (ps:=["P","table","n"]) fun _ _ _ _ _ _=>z5w fun _ _ _=>rfl
 have m_E:=PySem.W.mg_of X G a1_E
 have U_x:=z1d (st:=s_x) l1_x c1_x k1_x
 have b_x:=U_x.binds (ps:=["many","x","form"]) fun _ _ _ _ _ _=>z5w fun _ _ _=>rfl
 have m_x:=PySem.W.mg_of X G a1_x
 have U_v:=z1d (st:=s_v) l1_v c1_v k1_v
 have b_v:=U_v.binds (ps:=["P","many","items"]) fun _ _ _ _ _ _=>z5w fun _ _ _=>rfl
 have m_v:=PySem.W.mg_of X G a1_v
 have U_b:=z1d (st:=s_b) l1_b c1_b k1_b
 have b_b:=U_b.binds (ps:=["P","many","item"]) fun _ _ _ _ _ _=>z5w fun _ _ _=>rfl
 have m_b:=PySem.W.mg_of X G a1_b
 have U_G:=z1d (st:=s_G) l1_G c1_G k1_G
 have b_G:=U_G.binds (ps:=["P","form","stand"]) fun _ _ _ _ _ _=>z5w fun _ _ _=>rfl
 have m_G:=PySem.W.mg_of X G a1_G
 have U_z:=z1d (st:=s_z) l1_z c1_z k1_z
 have b_z:=U_z.binds (ps:=["P","table","stand"]) fun _ _ _ _ _ _=>z5w fun _ _ _=>rfl
 have m_z:=PySem.W.mg_of X G a1_z
 have U_H:=z1d (st:=s_H) l1_H c1_H k1_H
 have b_H:=U_H.binds (ps:=["P","many","items","n","stand"]) fun _ _ _ _ _ _=>x6j fun _ _ _ _ _=>rfl
 have m_H:=PySem.W.mg_of X G a1_H
 have U_K:=z1d (st:=s_K) l1_K c1_K k1_K
 have b_K:=U_K.binds (ps:=["P","n"]) fun _ _ _ _ _ _=>y6g fun _ _=>rfl
 have m_K:=PySem.W.mg_of X G a1_K
 have U_a:=z1d (st:=s_a) l1_a c1_a k1_a
 have b_a:=U_a.binds (ps:=["P","row","other"]) fun _ _ _ _ _ _=>z5w fun _ _ _=>rfl
 have m_a:=PySem.W.mg_of X G a1_a
 have U_w:=z1d (st:=s_w) l1_w c1_w k1_w
 have b_w:=U_w.binds (ps:=["P","row","lead","place"]) fun _ _ _ _ _ _=>x3u fun _ _ _ _=>rfl
 have m_w:=PySem.W.mg_of X G a1_w
 have U_F:=z1d (st:=s_F) l1_F c1_F k1_F
 have b_F:=U_F.binds (ps:=["P","row","number"]) fun _ _ _ _ _ _=>z5w fun _ _ _=>rfl
 have m_F:=PySem.W.mg_of X G a1_F
 have U_u:=z1d (st:=s_u) l1_u c1_u k1_u
 have b_u:=U_u.binds (ps:=["P","rows","place"]) fun _ _ _ _ _ _=>z5w fun _ _ _=>rfl
 have m_u:=PySem.W.mg_of X G a1_u
 have U_g:=z1d (st:=s_g) l1_g c1_g k1_g
 have b_g:=U_g.binds (ps:=["P","rows"]) fun _ _ _ _ _ _=>y6g fun _ _=>rfl
 have m_g:=PySem.W.mg_of X G a1_g
 have U_q:=z1d (st:=s_q) l1_q c1_q k1_q
 have b_q:=U_q.binds (ps:=["P","rows"]) fun _ _ _ _ _ _=>y6g fun _ _=>rfl
 have m_q:=PySem.W.mg_of X G a1_q
 have U_c:=z1d (st:=s_c) l1_c c1_c k1_c
 have b_c:=U_c.binds (ps:=["P","rows","goal"]) fun _ _ _ _ _ _=>z5w fun _ _ _=>rfl
 have m_c:=PySem.W.mg_of X G a1_c
 have U_m:=z1d (st:=s_m) l1_m c1_m k1_m
 have b_m:=U_m.binds (ps:=["P","rows","goal"]) fun _ _ _ _ _ _=>z5w fun _ _ _=>rfl
 have m_m:=PySem.W.mg_of X G a1_m
 have U_A:=z1d (st:=s_A) l1_A c1_A k1_A
 have b_A:=U_A.binds (ps:=["P","rows","goal"]) fun _ _ _ _ _ _=>z5w fun _ _ _=>rfl
 have m_A:=PySem.W.mg_of X G a1_A
 have U_s:=z1d (st:=s_s) l1_s c1_s k1_s
 have b_s:=U_s.binds (ps:=["stand"]) fun _ _ _ _ _ _=>x1d fun _=>rfl
 have m_s:=PySem.W.mg_of X G a1_s
 have U_y:=z1d (st:=s_y) l1_y c1_y k1_y
 have b_y:=U_y.binds (ps:=["P","stands","goal"]) fun _ _ _ _ _ _=>z5w fun _ _ _=>rfl
 have m_y:=PySem.W.mg_of X G a1_y
 have U_L:=z1d (st:=s_L) l1_L c1_L k1_L
 have b_L:=U_L.binds (ps:=["P","many","items","stand"]) fun _ _ _ _ _ _=>x3u fun _ _ _ _=>rfl
 have m_L:=PySem.W.mg_of X G a1_L
 have U_C:=z1d (st:=s_C) l1_C c1_C k1_C
 have b_C:=U_C.binds (ps:=["P","many","items","stand","goal"]) fun _ _ _ _ _ _=>x6j fun _ _ _ _ _=>rfl
 have m_C:=PySem.W.mg_of X G a1_C
 have U_law:=z1d (st:=y2t) l1_law c1_law k1_law
 have b_law:=U_law.binds (ps:=["script"]) fun _ _ _ _ _ _=>x1d fun _=>rfl
 have m_law:=PySem.W.mg_of X G a1_law
 have m_any:=PySem.W.mg_none_of X G z_any
 have m_bool:=PySem.W.mg_none_of X G z_bool
 have m_enumerate:=PySem.W.mg_none_of X G z_enumerate
 have m_int:=PySem.W.mg_none_of X G z_int
 have m_isinstance:=PySem.W.mg_none_of X G z_isinstance
 have m_len:=PySem.W.mg_none_of X G z_len
 have m_list:=PySem.W.mg_none_of X G z_list
 have m_max:=PySem.W.mg_none_of X G z_max
 have m_min:=PySem.W.mg_none_of X G z_min
 have m_range:=PySem.W.mg_none_of X G z_range
 have m_sum:=PySem.W.mg_none_of X G z_sum
 have m_tuple:=PySem.W.mg_none_of X G z_tuple
 have m_zip:=PySem.W.mg_none_of X G z_zip
 have m_NoNumber:=PySem.W.mg_of X G a1_NoNumber
 have cl_NoNumber:XCls K a_NoNumber:=⟨xa_NoNumber,xb_NoNumber,xc_NoNumber,xd_NoNumber,xe_NoNumber,xf_NoNumber,by rw[xg_NoNumber];rfl⟩
 have m_LongError:=PySem.W.mg_of X G a1_LongError
 have cl_LongError:XCls K a_LongError:=⟨xa_LongError,xb_LongError,xc_LongError,xd_LongError,xe_LongError,xf_LongError,by rw[xg_LongError];rfl⟩
 have X_NoNumber:XOk K mg .noNumber a_NoNumber:=⟨a1_NoNumber,m_NoNumber,ex_NoNumber⟩
 refine⟨PySem.W.fnOf "law" "law" (z0o y2t) (z0m y2t) (z0d y2t) .none kV_law dc_law pm_law an_law cd_law ct_law,fun s v=>.of_eq rfl,fun base _ _=>?_⟩
 have G_p:=f_p (P:=l.prog) (w:=w) (mg:=mg) (base:=base) U_p b_p m_len
 have G_d:=f_d (P:=l.prog) (w:=w) (mg:=mg) (base:=base) U_d b_d m_range m_tuple
 have G_k:=f_k (P:=l.prog) (w:=w) (mg:=mg) (base:=base) U_k b_k
 have G_t:=f_t (P:=l.prog) (w:=w) (mg:=mg) (base:=base) U_t b_t G_d m_d
 have G_o:=f_o (P:=l.prog) (w:=w) (mg:=mg) (base:=base) U_o b_o G_k m_k G_t m_t m_len m_max m_min m_range m_tuple
 have G_h:=f_h (P:=l.prog) (w:=w) (mg:=mg) (base:=base) U_h b_h m_any m_range
 have G_l:=f_l (P:=l.prog) (w:=w) (mg:=mg) (base:=base) U_l b_l m_bool m_int m_isinstance m_len m_tuple
 have G_f:=f_f (P:=l.prog) (w:=w) (mg:=mg) (base:=base) U_f b_f G_l m_l m_len m_range m_sum m_zip
 have G_j:=f_j (P:=l.prog) (w:=w) (mg:=mg) (base:=base) U_j b_j m_len m_range m_sum
 have G_e:=f_e (P:=l.prog) (w:=w) (mg:=mg) (base:=base) U_e b_e G_j m_j m_tuple
 have G_B:=f_B (P:=l.prog) (w:=w) (mg:=mg) (base:=base) U_B b_B m_range m_tuple
 have G_I:=f_I (P:=l.prog) (w:=w) (mg:=mg) (base:=base) U_I b_I G_B m_B m_range m_tuple
 have G_i:=f_i (P:=l.prog) (w:=w) (mg:=mg) (base:=base) U_i b_i m_len m_range m_sum
 have G_on:=f_on (P:=l.prog) (w:=w) (mg:=mg) (base:=base) U_on b_on
 have G_n:=f_n (P:=l.prog) (w:=w) (mg:=mg) (base:=base) U_n b_n G_i m_i m_len G_on m_on m_range m_tuple
 have G_J:=f_J (P:=l.prog) (w:=w) (mg:=mg) (base:=base) U_J b_J G_n m_n m_tuple
 have G_D:=f_D (P:=l.prog) (w:=w) (mg:=mg) (base:=base) U_D b_D m_range G_J m_J
 have G_r:=f_r (P:=l.prog) (w:=w) (mg:=mg) (base:=base) U_r b_r m_enumerate
 have G_E:=f_E (P:=l.prog) (w:=w) (mg:=mg) (base:=base) U_E b_E G_I m_I G_D m_D m_len G_r m_r G_J m_J
 have G_x:=f_x (P:=l.prog) (w:=w) (mg:=mg) (base:=base) U_x b_x G_I m_I m_list m_tuple
 have A_v:=f_v (P:=l.prog) (w:=w) (mg:=mg) (base:=base) U_v b_v m_v U_b b_b m_b G_I m_I G_J m_J G_E m_E G_x m_x
 have G_v:=(A_v 12).1
 have G_b:=(A_v 12).2
 have G_G:=f_G (P:=l.prog) (w:=w) (mg:=mg) (base:=base) U_G b_G m_len G_on m_on m_range m_sum
 have G_z:=f_z (P:=l.prog) (w:=w) (mg:=mg) (base:=base) U_z b_z m_tuple G_G m_G
 have G_H:=f_H (P:=l.prog) (w:=w) (mg:=mg) (base:=base) U_H b_H G_E m_E G_v m_v G_z m_z
 have G_K:=f_K (P:=l.prog) (w:=w) (mg:=mg) (base:=base) U_K b_K m_NoNumber G_on m_on X_NoNumber
 have G_a:=f_a (P:=l.prog) (w:=w) (mg:=mg) (base:=base) U_a b_a G_on m_on m_sum m_zip
 have G_w:=f_w (P:=l.prog) (w:=w) (mg:=mg) (base:=base) U_w b_w G_on m_on m_tuple m_zip
 have G_F:=f_F (P:=l.prog) (w:=w) (mg:=mg) (base:=base) U_F b_F G_on m_on m_tuple
 have G_u:=f_u (P:=l.prog) (w:=w) (mg:=mg) (base:=base) U_u b_u G_K m_K G_F m_F
 have G_g:=f_g (P:=l.prog) (w:=w) (mg:=mg) (base:=base) U_g b_g G_w m_w G_u m_u m_len m_range G_F m_F
 have G_q:=f_q (P:=l.prog) (w:=w) (mg:=mg) (base:=base) U_q b_q m_any m_enumerate m_len G_B m_B G_g m_g m_tuple
 have G_c:=f_c (P:=l.prog) (w:=w) (mg:=mg) (base:=base) U_c b_c G_K m_K G_a m_a G_q m_q m_len m_range G_F m_F m_tuple
 have G_m:=f_m (P:=l.prog) (w:=w) (mg:=mg) (base:=base) U_m b_m G_q m_q m_list G_F m_F
 have G_A:=f_A (P:=l.prog) (w:=w) (mg:=mg) (base:=base) U_A b_A G_c m_c G_m m_m
 have G_s:=f_s (P:=l.prog) (w:=w) (mg:=mg) (base:=base) U_s b_s m_tuple
 have G_y:=f_y (P:=l.prog) (w:=w) (mg:=mg) (base:=base) U_y b_y G_A m_A G_s m_s
 have G_L:=f_L (P:=l.prog) (w:=w) (mg:=mg) (base:=base) U_L b_L G_v m_v G_y m_y G_z m_z
 have G_C:=f_C (P:=l.prog) (w:=w) (mg:=mg) (base:=base) U_C b_C G_L m_L G_y m_y
 have G_law:=x9z (P:=l.prog) (w:=w) (mg:=mg) (base:=base) U_law b_law G_p m_p G_d m_d G_o m_o G_h m_h G_f m_f G_l m_l G_e m_e G_j m_j G_H m_H G_L m_L m_isinstance m_len G_C m_C m_range G_v m_v m_tuple
 exact G_law.okN
end Row
open PySem PySem.W PyProof.Rows
set_option maxRecDepth 100000 in
set_option maxHeartbeats 0 in
theorem PySem.Challenge.cw_longrounds_k55_whole_shut_off_for_ever_holds : PySem.Challenge.rw_longrounds_k55_whole_shut_off_for_ever.Holds := by
 w_on;o_law;k_head;(case hw=>w_witness2)
 k_fill
 refine L3.walk_ofL (sp:=L3.spN L3.c_law) (l:=PySem.Challenge.rw_longrounds_k55_whole_shut_off_for_ever) (n:=63) (k:=20) (x:="script") (CX:=fun w=>L3.CXE PySem.Challenge.rw_longrounds_k55_whole_shut_off_for_ever.prog w) rfl (by decide) rfl ⟨rfl,by decide,by decide⟩ (fun w h Y=>PySem.W.kIn_of Y) ?F ?S ?C
 case F =>
  intro w mg fa h KX G hmg
  refine' Row.all_mk KX G hmg ?a1_p ?l1_p ?c1_p ?k1_p ?a1_d ?l1_d ?c1_d ?k1_d ?a1_k ?l1_k ?c1_k ?k1_k ?a1_t ?l1_t ?c1_t ?k1_t ?a1_o ?l1_o ?c1_o ?k1_o ?a1_h ?l1_h ?c1_h ?k1_h ?a1_l ?l1_l ?c1_l ?k1_l ?a1_f ?l1_f ?c1_f ?k1_f ?a1_j ?l1_j ?c1_j ?k1_j ?a1_e ?l1_e ?c1_e ?k1_e ?a1_B ?l1_B ?c1_B ?k1_B ?a1_I ?l1_I ?c1_I ?k1_I ?a1_i ?l1_i ?c1_i ?k1_i ?a1_on ?l1_on ?c1_on ?k1_on ?a1_n ?l1_n ?c1_n ?k1_n ?a1_J ?l1_J ?c1_J ?k1_J ?a1_D ?l1_D ?c1_D ?k1_D ?a1_r ?l1_r ?c1_r ?k1_r ?a1_E ?l1_E ?c1_E ?k1_E ?a1_x ?l1_x ?c1_x ?k1_x ?a1_v ?l1_v ?c1_v ?k1_v ?a1_b ?l1_b ?c1_b ?k1_b ?a1_G ?l1_G ?c1_G ?k1_G ?a1_z ?l1_z ?c1_z ?k1_z ?a1_H ?l1_H ?c1_H ?k1_H ?a1_K ?l1_K ?c1_K ?k1_K ?a1_a ?l1_a ?c1_a ?k1_a ?a1_w ?l1_w ?c1_w ?k1_w ?a1_F ?l1_F ?c1_F ?k1_F ?a1_u ?l1_u ?c1_u ?k1_u ?a1_g ?l1_g ?c1_g ?k1_g ?a1_q ?l1_q ?c1_q ?k1_q ?a1_c ?l1_c ?c1_c ?k1_c ?a1_m ?l1_m ?c1_m ?k1_m ?a1_A ?l1_A ?c1_A ?k1_A ?a1_s ?l1_s ?c1_s ?k1_s ?a1_y ?l1_y ?c1_y ?k1_y ?a1_L ?l1_L ?c1_L ?k1_L ?a1_C ?l1_C ?c1_C ?k1_C ?a1_law ?l1_law ?c1_law ?k1_law ?z_any ?z_bool ?z_enumerate ?z_int ?z_isinstance ?z_len ?z_list ?z_max ?z_min ?z_range ?z_sum ?z_tuple ?z_zip ?a1_NoNumber ?a1_LongError ?xa_NoNumber ?xb_NoNumber ?xc_NoNumber ?xd_NoNumber ?xe_NoNumber ?xf_NoNumber ?xg_NoNumber ?xa_LongError ?xb_LongError ?xc_LongError ?xd_LongError ?xe_LongError ?xf_LongError ?xg_LongError ?zg_NoPrime ?zg_NoProgram ?zg_TooLong ?zg_Lossy ?zg_NoText ?ex_NoNumber
  (case a1_p=>k_is)
  (case l1_p=>k_is)
  (case c1_p=>k_is)
  (case k1_p=>k_is)
  (case a1_d=>k_is)
  (case l1_d=>k_is)
  (case c1_d=>k_is)
  (case k1_d=>k_is)
  (case a1_k=>k_is)
  (case l1_k=>k_is)
  (case c1_k=>k_is)
  (case k1_k=>k_is)
  (case a1_t=>k_is)
  (case l1_t=>k_is)
  (case c1_t=>k_is)
  (case k1_t=>k_is)
  (case a1_o=>k_is)
  (case l1_o=>k_is)
  (case c1_o=>k_is)
  (case k1_o=>k_is)
  (case a1_h=>k_is)
  (case l1_h=>k_is)
  (case c1_h=>k_is)
  (case k1_h=>k_is)
  (case a1_l=>k_is)
  (case l1_l=>k_is)
  (case c1_l=>k_is)
  (case k1_l=>k_is)
  (case a1_f=>k_is)
  (case l1_f=>k_is)
  (case c1_f=>k_is)
  (case k1_f=>k_is)
  (case a1_j=>k_is)
  (case l1_j=>k_is)
  (case c1_j=>k_is)
  (case k1_j=>k_is)
  (case a1_e=>k_is)
  (case l1_e=>k_is)
  (case c1_e=>k_is)
  (case k1_e=>k_is)
  (case a1_B=>k_is)
  (case l1_B=>k_is)
  (case c1_B=>k_is)
  (case k1_B=>k_is)
  (case a1_I=>k_is)
  (case l1_I=>k_is)
  (case c1_I=>k_is)
  (case k1_I=>k_is)
  (case a1_i=>k_is)
  (case l1_i=>k_is)
  (case c1_i=>k_is)
  (case k1_i=>k_is)
  (case a1_on=>k_is)
  (case l1_on=>k_is)
  (case c1_on=>k_is)
  (case k1_on=>k_is)
  (case a1_n=>k_is)
  (case l1_n=>k_is)
  (case c1_n=>k_is)
  (case k1_n=>k_is)
  (case a1_J=>k_is)
  (case l1_J=>k_is)
  (case c1_J=>k_is)
  (case k1_J=>k_is)
  (case a1_D=>k_is)
  (case l1_D=>k_is)
  (case c1_D=>k_is)
  (case k1_D=>k_is)
  (case a1_r=>k_is)
  (case l1_r=>k_is)
  (case c1_r=>k_is)
  (case k1_r=>k_is)
  (case a1_E=>k_is)
  (case l1_E=>k_is)
  (case c1_E=>k_is)
  (case k1_E=>k_is)
  (case a1_x=>k_is)
  (case l1_x=>k_is)
  (case c1_x=>k_is)
  (case k1_x=>k_is)
  (case a1_v=>k_is)
  (case l1_v=>k_is)
  (case c1_v=>k_is)
  (case k1_v=>k_is)
  (case a1_b=>k_is)
  (case l1_b=>k_is)
  (case c1_b=>k_is)
  (case k1_b=>k_is)
  (case a1_G=>k_is)
  (case l1_G=>k_is)
  (case c1_G=>k_is)
  (case k1_G=>k_is)
  (case a1_z=>k_is)
  (case l1_z=>k_is)
  (case c1_z=>k_is)
  (case k1_z=>k_is)
  (case a1_H=>k_is)
  (case l1_H=>k_is)
  (case c1_H=>k_is)
  (case k1_H=>k_is)
  (case a1_K=>k_is)
  (case l1_K=>k_is)
  (case c1_K=>k_is)
  (case k1_K=>k_is)
  (case a1_a=>k_is)
  (case l1_a=>k_is)
  (case c1_a=>k_is)
  (case k1_a=>k_is)
  (case a1_w=>k_is)
  (case l1_w=>k_is)
  (case c1_w=>k_is)
  (case k1_w=>k_is)
  (case a1_F=>k_is)
  (case l1_F=>k_is)
  (case c1_F=>k_is)
  (case k1_F=>k_is)
  (case a1_u=>k_is)
  (case l1_u=>k_is)
  (case c1_u=>k_is)
  (case k1_u=>k_is)
  (case a1_g=>k_is)
  (case l1_g=>k_is)
  (case c1_g=>k_is)
  (case k1_g=>k_is)
  (case a1_q=>k_is)
  (case l1_q=>k_is)
  (case c1_q=>k_is)
  (case k1_q=>k_is)
  (case a1_c=>k_is)
  (case l1_c=>k_is)
  (case c1_c=>k_is)
  (case k1_c=>k_is)
  (case a1_m=>k_is)
  (case l1_m=>k_is)
  (case c1_m=>k_is)
  (case k1_m=>k_is)
  (case a1_A=>k_is)
  (case l1_A=>k_is)
  (case c1_A=>k_is)
  (case k1_A=>k_is)
  (case a1_s=>k_is)
  (case l1_s=>k_is)
  (case c1_s=>k_is)
  (case k1_s=>k_is)
  (case a1_y=>k_is)
  (case l1_y=>k_is)
  (case c1_y=>k_is)
  (case k1_y=>k_is)
  (case a1_L=>k_is)
  (case l1_L=>k_is)
  (case c1_L=>k_is)
  (case k1_L=>k_is)
  (case a1_C=>k_is)
  (case l1_C=>k_is)
  (case c1_C=>k_is)
  (case k1_C=>k_is)
  (case a1_law=>k_is)
  (case l1_law=>k_is)
  (case c1_law=>k_is)
  (case k1_law=>k_is)
  (case z_any=>k_is)
  (case z_bool=>k_is)
  (case z_enumerate=>k_is)
  (case z_int=>k_is)
  (case z_isinstance=>k_is)
  (case z_len=>k_is)
  (case z_list=>k_is)
  (case z_max=>k_is)
  (case z_min=>k_is)
  (case z_range=>k_is)
  (case z_sum=>k_is)
  (case z_tuple=>k_is)
  (case z_zip=>k_is)
  (case a1_NoNumber=>k_is)
  (case a1_LongError=>k_is)
  (case xa_NoNumber=>k_is)
  (case xb_NoNumber=>k_is)
  (case xc_NoNumber=>k_is)
  (case xd_NoNumber=>k_is)
  (case xe_NoNumber=>k_is)
  (case xf_NoNumber=>k_is)
  (case xg_NoNumber=>k_is)
  (case xa_LongError=>k_is)
  (case xb_LongError=>k_is)
  (case xc_LongError=>k_is)
  (case xd_LongError=>k_is)
  (case xe_LongError=>k_is)
  (case xf_LongError=>k_is)
  (case xg_LongError=>k_is)
  (case zg_NoPrime=>k_is)
  (case zg_NoProgram=>k_is)
  (case zg_TooLong=>k_is)
  (case zg_Lossy=>k_is)
  (case zg_NoText=>k_is)
  (case ex_NoNumber=>k_exc)
 case S=>exact fun K H a ns hl hS=>L3.law_true L3.law_k55 hl hS
 case C=>exact fun w H s e s' h=>L3.cxe_false h

